import PyProof.Rows.All
import Wide.All
import OpenK.AllK
import Wide.FinOn
import HandS.ForMost
import HandS.EndBits
import HandS.Wide
import HandS.WideBits
import HandS.IsInst
import HandS.Style
import HandS.Codes
import HandS.Text
import HandS.Conv
import HandS.Zip
import HandS.Rev
import HandS.SetFor
import HandS.NoneIn
import KE.GoesEnumKw
import KE.GoesMore
import KE.KMinBuiltin
import HandS.FStr
import HandS.ExcCtx
import HandS.ExcInit
import HandS.ExcIs
import HandS.ExcField
import HandS.HotCalls
import HandS.ClsMeth
import KE.KExcIs
import HandS.Deep
import PySem.Challenge.RW_slackfigures_k39_summers_by_turns
set_option Elab.async false
set_option linter.all false
set_option maxRecDepth 100000
set_option maxHeartbeats 4000000
set_option Elab.async false
set_option linter.all false
set_option maxRecDepth 100000
set_option maxHeartbeats 4000000
namespace My
open PySem L2
/-! ### results: a value or a refusal, with the state; or nothing told -/
abbrev D := PyData
inductive Rs (μ α : Type) where
  | ok (a : α) (m : μ)
  | exc (e : D) (m : μ)
  | bad
def SM (μ α : Type) : Type := μ → Rs μ α
namespace SM
variable {μ α β γ : Type}
def pu (a : α) : SM μ α := fun m => .ok a m
def bd (x : SM μ α) (f : α → SM μ β) : SM μ β := fun m => match x m with
  | .ok a m' => f a m'
  | .exc e m' => .exc e m'
  | .bad => .bad
instance : Monad (SM μ) where
  pure := pu
  bind := bd
theorem bind_def (x : SM μ α) (f : α → SM μ β) : (x >>= f) = bd x f := rfl
theorem pure_def (x : α) : (pure x : SM μ α) = pu x := rfl
theorem bd_ok {x : SM μ α} {f : α → SM μ β} {m m' : μ} {a : α} (h : x m = .ok a m') : bd x f m = f a m' := by unfold bd; rw [h]
theorem bd_exc {x : SM μ α} {f : α → SM μ β} {m m' : μ} {e : D} (h : x m = .exc e m') : bd x f m = .exc e m' := by unfold bd; rw [h]
theorem bd_bad {x : SM μ α} {f : α → SM μ β} {m : μ} (h : x m = .bad) : bd x f m = .bad := by unfold bd; rw [h]
theorem pu_bd (a : α) (f : α → SM μ β) : bd (pu a) f = f a := rfl
theorem bd_pu (x : SM μ α) : bd x pu = x := by
  funext m
  unfold bd
  cases x m <;> rfl
theorem bd_assoc (x : SM μ α) (f : α → SM μ β) (g : β → SM μ γ) : bd (bd x f) g = bd x fun a => bd (f a) g := by
  funext m
  unfold bd
  cases x m <;> rfl
def raise (e : D) : SM μ α := fun m => .exc e m
def bad : SM μ α := fun _ => .bad
/-- an answer, or nothing told -/
def of (x : Option α) : SM μ α := match x with
  | some a => pu a
  | none => bad
theorem of_some (a : α) : (of (some a) : SM μ α) = pu a := rfl
/-- a thing without a state, within one -/
def p0 (x : SM Unit α) : SM μ α := fun m => match x () with
  | .ok a _ => .ok a m
  | .exc e _ => .exc e m
  | .bad => .bad
theorem p0_ok {x : SM Unit α} {a : α} {m : μ} (h : x () = .ok a ()) : p0 x m = .ok a m := by unfold p0; rw [h]
theorem p0_exc {x : SM Unit α} {e : D} {m : μ} (h : x () = .exc e ()) : (p0 x : SM μ α) m = .exc e m := by unfold p0; rw [h]
theorem p0_bad {x : SM Unit α} {m : μ} (h : x () = .bad) : (p0 x : SM μ α) m = .bad := by unfold p0; rw [h]
theorem p0_pu (a : α) : (p0 (pu a) : SM μ α) = pu a := rfl
/-- a thing without a state that is not to raise, within one -/
def px (x : SM Unit α) : SM μ α := fun m => match x () with
  | .ok a _ => .ok a m
  | _ => .bad
theorem px_ok {x : SM Unit α} {a : α} {m : μ} (h : x () = .ok a ()) : px x m = .ok a m := by unfold px; rw [h]
theorem px_pu (a : α) : (px (pu a) : SM μ α) = pu a := rfl
theorem px_nb {x : SM Unit α} {m : μ} (h : (px x : SM μ α) m ≠ .bad) : ∃ a, x () = .ok a () := by
  unfold px at h
  cases e : x () with
  | ok a u => exact ⟨a, rfl⟩
  | exc e' u => rw [e] at h; exact absurd rfl h
  | bad => rw [e] at h; exact absurd rfl h
/-- the same of a thing that has the state -/
def qx (x : SM μ α) : SM μ α := fun m => match x m with
  | .ok a m' => .ok a m'
  | _ => .bad
theorem qx_pu (a : α) : (qx (pu a) : SM μ α) = pu a := rfl
theorem qx_ok {x : SM μ α} {a : α} {m m' : μ} (h : x m = .ok a m') : qx x m = .ok a m' := by unfold qx; rw [h]
theorem qx_nb {x : SM μ α} {m : μ} (h : qx x m ≠ .bad) : ∃ a m', x m = .ok a m' := by
  unfold qx at h
  cases e : x m with
  | ok a u => exact ⟨a, u, rfl⟩
  | exc e' u => rw [e] at h; exact absurd rfl h
  | bad => rw [e] at h; exact absurd rfl h
theorem p0_raise (e : D) : (p0 (raise e) : SM μ α) = raise e := rfl
end SM
/-! ### data that stands frozen at places of which B is true, or in the written part -/
section
variable (K : PySem.W.Frag)
def wrT (a : Addr) (xs : List V) : Prop := ∃ (o : Obj) (its : Array Value) (n : Nat), K.lookup a = some o ∧ o.cls = .type "tuple" ∧ o.data = .seq its n ∧ its.size ≤ sizeLine ∧ Vals xs its.toList
def FzL (B : Addr → Prop) (H : Hp) (p : Addr) (xs : List V) : Prop := B p ∧ H p = some (.lst xs)
/-- the script stands locked -/
def scrD (ds : List D) : D := .dict [(.none, .list ds)]
def wrL (a : Addr) (xs : List V) : Prop := ∃ (o : Obj) (its : Array Value) (n : Nat), K.lookup a = some o ∧ o.cls = .type "list" ∧ o.dict = none ∧ o.data = .seq its n ∧ its.size ≤ sizeLine ∧ Vals xs its.toList
def FzS (B : Addr → Prop) (H : Hp) (p : Addr) (xs : List V) : Prop := (B p ∧ Rd H p (.lst xs)) ∨ wrL K p xs
def FzT (B : Addr → Prop) (H : Hp) (p : Addr) (xs : List V) : Prop := (B p ∧ Rd H p (.tup xs)) ∨ wrT K p xs
mutual
inductive Dt (B : Addr → Prop) (H : Hp) : V → PyData → Prop
  | non : Dt B H .non .none
  | bl (z : Bool) : Dt B H (.bl z) (.bool z)
  | int (i : Int) : Dt B H (.int i) (.int i)
  | str (x : Str) : Dt B H (.str x) (.str x)
  | lst {p : Addr} {xs : List V} {ds : List PyData} : FzL B H p xs → DtAll B H xs ds → Dt B H (.ref p) (.list ds)
  | tup {p : Addr} {xs : List V} {ds : List PyData} : FzT K B H p xs → DtAll B H xs ds → Dt B H (.ref p) (.tuple ds)
  | scr {p : Addr} {xs : List V} {ds : List PyData} : FzS K B H p xs → DtAll B H xs ds → Dt B H (.ref p) (.dict [(.none, .list ds)])
inductive DtAll (B : Addr → Prop) (H : Hp) : List V → List PyData → Prop
  | nil : DtAll B H [] []
  | cons {v : V} {vs : List V} {d : PyData} {ds : List PyData} : Dt B H v d → DtAll B H vs ds → DtAll B H (v :: vs) (d :: ds)
end
end
section
variable {K : PySem.W.Frag} {B B' : Addr → Prop} {H H' : Hp} {p : Addr} {xs : List V}
theorem FzL.sq (h : FzL B H p xs) : SqL K H p xs := .inl (.inl h.2)
theorem FzS.sq (h : FzS K B H p xs) : SqL K H p xs := h.elim (fun x => .inl x.2) .inr
theorem FzT.sq (h : FzT K B H p xs) : SqT K H p xs := h.elim (fun x => .inl x.2) .inr
/-- what stays of what is frozen -/
def Kp (B : Addr → Prop) (H : Hp) (B' : Addr → Prop) (H' : Hp) : Prop := ∀ p o, B p → H p = some o → B' p ∧ H' p = some o
theorem Kp.refl : Kp B H B H := fun _ _ b h => ⟨b, h⟩
theorem Kp.trans {B'' : Addr → Prop} {H'' : Hp} (k : Kp B H B' H') (k' : Kp B' H' B'' H'') : Kp B H B'' H'' := fun p o b h => k' p o (k p o b h).1 (k p o b h).2
theorem rd_mono (k : Kp B H B' H') {o : HO} (b : B p) (h : Rd H p o) : B' p ∧ Rd H' p o := by
  rcases h with h | ⟨u, h⟩
  · exact ⟨(k _ _ b h).1, .inl (k _ _ b h).2⟩
  · exact ⟨(k _ _ b h).1, .inr ⟨u, (k _ _ b h).2⟩⟩
theorem FzL.mono (k : Kp B H B' H') (h : FzL B H p xs) : FzL B' H' p xs := k _ _ h.1 h.2
theorem FzS.mono (k : Kp B H B' H') (h : FzS K B H p xs) : FzS K B' H' p xs := h.elim (fun x => .inl (rd_mono k x.1 x.2)) .inr
theorem FzT.mono (k : Kp B H B' H') (h : FzT K B H p xs) : FzT K B' H' p xs := h.elim (fun x => .inl (rd_mono k x.1 x.2)) .inr
mutual
theorem Dt.mono (k : Kp B H B' H') : ∀ (d : PyData) (v : V), Dt K B H v d → Dt K B' H' v d
  | .none, _, h => by cases h; exact .non
  | .bool _, _, h => by cases h; exact .bl _
  | .int _, _, h => by cases h; exact .int _
  | .str _, _, h => by cases h; exact .str _
  | .list ds, _, h => by
    cases h with
    | lst b a => exact .lst (b.mono k) (Dt.monoAll k ds _ a)
  | .tuple ds, _, h => by
    cases h with
    | tup b a => exact .tup (b.mono k) (Dt.monoAll k ds _ a)
  | .dict kvs, v, h => by
    cases kvs with
    | nil => cases h
    | cons z r =>
      obtain ⟨k1, k2⟩ := z
      cases k1 with
      | none =>
        cases k2 with
        | list ds =>
          cases r with
          | nil =>
            cases h with
            | scr b a => exact .scr (b.mono k) (Dt.monoAll k ds _ a)
          | cons _ _ => cases h
        | _ => cases h
      | _ => cases h
theorem Dt.monoAll (k : Kp B H B' H') : ∀ (ds : List PyData) (vs : List V), DtAll K B H vs ds → DtAll K B' H' vs ds
  | [], _, h => by cases h; exact .nil
  | d :: ds, _, h => by
    cases h with
    | cons x y => exact .cons (Dt.mono k d _ x) (Dt.monoAll k ds _ y)
end
mutual
theorem Dt.dp : ∀ (d : PyData) (v : V), d.canLay0 = true → Dt K B H v d → Dp K H v d
  | .none, _, _, h => by cases h; exact .non
  | .bool _, _, _, h => by cases h; exact .bl _
  | .int _, _, _, h => by cases h; exact .int _
  | .str _, _, _, h => by cases h; exact .str _
  | .list ds, _, c, h => by
    cases h with
    | lst b a => exact .lst b.sq (Dt.dpAll ds _ (by simpa only [PyData.canLay0] using c) a)
  | .tuple ds, _, c, h => by
    cases h with
    | tup b a => exact .tup b.sq (Dt.dpAll ds _ (by simpa only [PyData.canLay0] using c) a)
  | .dict _, _, c, h => by simp only [PyData.canLay0] at c; cases c
theorem Dt.dpAll : ∀ (ds : List PyData) (vs : List V), PyData.canLayAll0 ds = true → DtAll K B H vs ds → DpAll K H vs ds
  | [], _, _, h => by cases h; exact .nil
  | d :: ds, _, c, h => by
    simp only [PyData.canLayAll0, Bool.and_eq_true] at c
    cases h with
    | cons x y => exact .cons (Dt.dp d _ c.1 x) (Dt.dpAll ds _ c.2 y)
end
theorem DtAll.app : ∀ {vs : List V} {ds : List PyData} {us : List V} {es : List PyData}, DtAll K B H vs ds → DtAll K B H us es → DtAll K B H (vs ++ us) (ds ++ es)
  | [], _, _, _, h, g => by cases h; exact g
  | v :: vs, _, _, _, h, g => by
    cases h with
    | cons x y => exact .cons x (DtAll.app y g)
theorem DtAll.len : ∀ {vs : List V} {ds : List PyData}, DtAll K B H vs ds → vs.length = ds.length
  | [], _, h => by cases h; rfl
  | v :: vs, _, h => by
    cases h with
    | cons x y => rw [List.length_cons, List.length_cons, DtAll.len y]
theorem DtAll.get : ∀ {vs : List V} {ds : List PyData} {i : Nat} {d : D}, DtAll K B H vs ds → ds[i]? = some d → ∃ v, vs[i]? = some v ∧ Dt K B H v d
  | _, [], i, d, h, e => by cases e
  | _, x :: ds, 0, d, h, e => by
    cases h with
    | cons a b => cases e; exact ⟨_, rfl, a⟩
  | _, x :: ds, i + 1, d, h, e => by
    cases h with
    | cons a b => exact DtAll.get (i := i) b e
theorem DtAll.getV : ∀ {vs : List V} {ds : List PyData} {i : Nat} {v : V}, DtAll K B H vs ds → vs[i]? = some v → ∃ d, ds[i]? = some d ∧ Dt K B H v d
  | [], _, i, v, h, e => by cases e
  | x :: vs, _, 0, v, h, e => by
    cases h with
    | cons a b => cases e; exact ⟨_, rfl, a⟩
  | x :: vs, _, i + 1, v, h, e => by
    cases h with
    | cons a b => exact DtAll.getV (i := i) b e
theorem DtAll.set : ∀ {vs : List V} {ds : List PyData} {i : Nat} {v : V} {d : D}, DtAll K B H vs ds → Dt K B H v d → DtAll K B H (vs.set i v) (ds.set i d)
  | [], _, i, v, d, h, g => by cases h; exact .nil
  | x :: vs, _, 0, v, d, h, g => by
    cases h with
    | cons a b => exact .cons g b
  | x :: vs, _, i + 1, v, d, h, g => by
    cases h with
    | cons a b => exact .cons a (DtAll.set b g)
theorem DtAll.drop : ∀ {vs : List V} {ds : List PyData} (n : Nat), DtAll K B H vs ds → DtAll K B H (vs.drop n) (ds.drop n)
  | _, _, 0, h => h
  | [], _, n + 1, h => by cases h; exact .nil
  | v :: vs, _, n + 1, h => by
    cases h with
    | cons a b => exact DtAll.drop n b
theorem DtAll.take : ∀ {vs : List V} {ds : List PyData} (n : Nat), DtAll K B H vs ds → DtAll K B H (vs.take n) (ds.take n)
  | [], _, 0, h => by cases h; exact .nil
  | v :: vs, _, 0, h => by cases h; exact .nil
  | [], _, n + 1, h => by cases h; exact .nil
  | v :: vs, _, n + 1, h => by
    cases h with
    | cons a b => exact .cons a (DtAll.take n b)
theorem DtAll.rev : ∀ {vs : List V} {ds : List PyData}, DtAll K B H vs ds → DtAll K B H vs.reverse ds.reverse
  | [], _, h => by cases h; exact .nil
  | v :: vs, _, h => by
    cases h with
    | cons a b => rw [List.reverse_cons, List.reverse_cons]; exact DtAll.app (DtAll.rev b) (.cons a .nil)
theorem DtAll.flat : ∀ (n : Nat) {vs : List V} {ds : List PyData}, DtAll K B H vs ds → DtAll K B H (List.replicate n vs).flatten (List.replicate n ds).flatten
  | 0, _, _, _ => .nil
  | n + 1, _, _, h => by rw [List.replicate_succ, List.replicate_succ, List.flatten_cons, List.flatten_cons]; exact DtAll.app h (DtAll.flat n h)
theorem DtAll.ints : ∀ (ns : List Int), DtAll K B H (ns.map V.int) (ns.map PyData.int)
  | [] => .nil
  | n :: r => .cons (.int n) (DtAll.ints r)
theorem Dt.int_inv {v : V} {i : Int} (h : Dt K B H v (.int i)) : v = .int i := by cases h; rfl
theorem Dt.bl_inv {v : V} {z : Bool} (h : Dt K B H v (.bool z)) : v = .bl z := by cases h; rfl
theorem Dt.non_inv {v : V} (h : Dt K B H v .none) : v = .non := by cases h; rfl
theorem Dt.str_inv {v : V} {z : Str} (h : Dt K B H v (.str z)) : v = .str z := by cases h; rfl
theorem Dt.lst_inv {v : V} {ds : List D} (h : Dt K B H v (.list ds)) : ∃ p xs, v = .ref p ∧ FzL B H p xs ∧ DtAll K B H xs ds := by cases h with | lst a b => exact ⟨_, _, rfl, a, b⟩
theorem Dt.tup_inv {v : V} {ds : List D} (h : Dt K B H v (.tuple ds)) : ∃ p xs, v = .ref p ∧ FzT K B H p xs ∧ DtAll K B H xs ds := by cases h with | tup a b => exact ⟨_, _, rfl, a, b⟩
theorem Dt.scr_inv {v : V} {kvs : List (D × D)} (h : Dt K B H v (.dict kvs)) : ∃ p xs ds, kvs = [(.none, .list ds)] ∧ v = .ref p ∧ SqL K H p xs ∧ DtAll K B H xs ds := by
  cases h with
  | scr a c => exact ⟨_, _, _, rfl, rfl, a.sq, c⟩
end
/-! ### what may change (roots), what is known (facts) -/
structure Root where
  fp : Hp → List Addr
  P : (Addr → Prop) → Hp → Prop
  mono : ∀ {B B' : Addr → Prop} {H H' : Hp}, Kp B H B' H' → (∀ p ∈ fp H, H' p = H p) → P B H → P B' H'
  same : ∀ {B B' : Addr → Prop} {H H' : Hp}, Kp B H B' H' → (∀ p ∈ fp H, H' p = H p) → P B H → fp H' = fp H
  occ : ∀ {B : Addr → Prop} {H : Hp}, P B H → ∀ p ∈ fp H, ∃ o, H p = some o
structure Og where
  B : Addr → Prop
  H : Hp
  fp : List Addr
def fps (C : List Root) (H : Hp) : List Addr := C.flatMap (·.fp H)
theorem fps_app (C F : List Root) (H : Hp) : fps (C ++ F) H = fps C H ++ fps F H := List.flatMap_append
theorem fps_cons (c : Root) (F : List Root) (H : Hp) : fps (c :: F) H = c.fp H ++ fps F H := rfl
theorem mem_fps {C : List Root} {c : Root} {p : Addr} {H : Hp} (h : c ∈ C) (hp : p ∈ c.fp H) : p ∈ fps C H := List.mem_flatMap.mpr ⟨c, h, hp⟩
theorem fps_same {C : List Root} {B B' : Addr → Prop} {H H' : Hp} (k : Kp B H B' H') : (∀ c ∈ C, c.P B H) → (∀ p ∈ fps C H, H' p = H p) → fps C H' = fps C H := by
  induction C with
  | nil => intro _ _; rfl
  | cons c C ih =>
    intro h e
    rw [fps_cons, fps_cons, c.same k (fun p hp => e p (by rw [fps_cons]; exact List.mem_append.mpr (.inl hp))) (h c (.head _)), ih (fun c' hc => h c' (.tail _ hc)) fun p hp => e p (by rw [fps_cons]; exact List.mem_append.mpr (.inr hp))]
structure Wb (K : PySem.W.Frag) (O : Og) (B : Addr → Prop) (L : List (V × D)) (C : List Root) (H : Hp) : Prop where
  lo : ∀ p, O.B p → B p
  hi : ∀ p, B p → O.B p ∨ O.H p = none
  nd : (fps C H).Nodup
  nb : ∀ p ∈ fps C H, ¬ B p
  fr : ∀ p ∈ fps C H, p ∈ O.fp ∨ O.H p = none
  rt : ∀ c ∈ C, c.P B H
  ft : ∀ f ∈ L, Dt K B H f.1 f.2
  kp : ∀ p o, p ∉ O.fp → O.H p = some o → H p = some o
  oc : ∀ p ∈ O.fp, ∃ o, H p = some o
  bo : ∀ p, B p → ∃ o, H p = some o
def Wd (K : PySem.W.Frag) (O : Og) (L : List (V × D)) (C : List Root) (H : Hp) : Prop := ∃ B, Wb K O B L C H
section
variable {K : PySem.W.Frag} {O : Og} {B : Addr → Prop} {L L' : List (V × D)} {C F : List Root} {H H' : Hp} {p : Addr}
theorem Wb.none (w : Wb K O B L C H) (h : H p = Option.none) : O.H p = Option.none := by
  cases e : O.H p with
  | none => rfl
  | some o =>
    by_cases hp : p ∈ O.fp
    · obtain ⟨u, hu⟩ := w.oc p hp
      rw [hu] at h; cases h
    · rw [w.kp p o hp e] at h; cases h
theorem Wb.free (w : Wb K O B L C H) (h : H p = Option.none) : p ∉ fps C H := fun hm => by
  obtain ⟨c, hc, hp⟩ := List.mem_flatMap.mp hm
  obtain ⟨o, ho⟩ := c.occ (w.rt c hc) p hp
  rw [ho] at h; cases h
theorem Wb.nofp (w : Wb K O B L C H) (h : H p = Option.none) : p ∉ O.fp := fun hm => by
  obtain ⟨o, ho⟩ := w.oc p hm
  rw [ho] at h; cases h
theorem Wd.sub (w : Wd K O L C H) (h : ∀ f ∈ L', f ∈ L) : Wd K O L' C H := by
  obtain ⟨B, w⟩ := w
  exact ⟨B, { w with ft := fun f hf => w.ft f (h f hf) }⟩
theorem Wd.dt (w : Wd K O L C H) {v : V} {d : D} (h : (v, d) ∈ L) : ∃ B, Dt K B H v d := by
  obtain ⟨B, w⟩ := w
  exact ⟨B, w.ft _ h⟩
/-- a frozen heap that grows -/
theorem Wb.grow {B' : Addr → Prop} (w : Wb K O B L C H) (s : Same H H') (h1 : ∀ p, B p → B' p) (h2 : ∀ p, B' p → B p ∨ (H p = Option.none ∧ ∃ o, H' p = some o)) : Wb K O B' L C H' := by
  have k : Kp B H B' H' := fun p o b e => ⟨h1 p b, s p o e⟩
  have hfp : ∀ c ∈ C, ∀ p ∈ c.fp H, H' p = H p := fun c hc p hp => by
    obtain ⟨o, ho⟩ := c.occ (w.rt c hc) p hp
    rw [ho]; exact s p o ho
  have es : fps C H' = fps C H := fps_same k w.rt fun p hp => by
    obtain ⟨c, hc, hp⟩ := List.mem_flatMap.mp hp
    exact hfp c hc p hp
  refine ⟨fun p b => h1 p (w.lo p b), fun p b => ?_, by rw [es]; exact w.nd, fun p hp b => ?_, fun p hp => w.fr p (by rw [← es]; exact hp), fun c hc => c.mono k (hfp c hc) (w.rt c hc), fun f hf => Dt.mono k _ _ (w.ft f hf), fun p o hp e => s p o (w.kp p o hp e), fun p hp => ?_, fun p b => ?_⟩
  · rcases h2 p b with b | n
    · exact w.hi p b
    · exact .inr (w.none n.1)
  · rw [es] at hp
    rcases h2 p b with b | n
    · exact w.nb p hp b
    · exact w.free n.1 hp
  · obtain ⟨o, ho⟩ := w.oc p hp
    exact ⟨o, s p o ho⟩
  · rcases h2 p b with b | n
    · obtain ⟨o, ho⟩ := w.bo p b
      exact ⟨o, s p o ho⟩
    · exact n.2
theorem Wb.same (w : Wb K O B L C H) (s : Same H H') : fps C H' = fps C H := by
  have k : Kp B H B H' := fun p o b e => ⟨b, s p o e⟩
  refine fps_same k w.rt fun p hp => ?_
  obtain ⟨c, hc, hp⟩ := List.mem_flatMap.mp hp
  obtain ⟨o, ho⟩ := c.occ (w.rt c hc) p hp
  rw [ho]; exact s p o ho
theorem Wb.fts (w : Wb K O B L C H) (h : ∀ f ∈ L', Dt K B H f.1 f.2) : Wb K O B L' C H := { w with ft := h }
theorem Wb.fact {v : V} {d : D} (w : Wb K O B L C H) (h : Dt K B H v d) : Wb K O B ((v, d) :: L) C H :=
  w.fts fun f hf => (List.mem_cons.mp hf).elim (fun e => by subst e; exact h) (w.ft f)
theorem Wd.facts (w : Wd K O L C H) {L2 : List (V × D)} (h : ∀ B, (∀ f ∈ L, Dt K B H f.1 f.2) → ∀ f ∈ L2, Dt K B H f.1 f.2) : Wd K O (L2 ++ L) C H := by
  obtain ⟨B, w⟩ := w
  exact ⟨B, w.fts fun f hf => (List.mem_append.mp hf).elim (h B w.ft f) (w.ft f)⟩
theorem Wd.fact (w : Wd K O L C H) {v : V} {d : D} (h : ∀ B, (∀ f ∈ L, Dt K B H f.1 f.2) → Dt K B H v d) : Wd K O ((v, d) :: L) C H := by
  obtain ⟨B, w⟩ := w
  exact ⟨B, w.fact (h B w.ft)⟩
inductive In2 (L : List (V × D)) : List V → List D → Prop
  | nil : In2 L [] []
  | cons {v : V} {d : D} {vs : List V} {ds : List D} : (v, d) ∈ L → In2 L vs ds → In2 L (v :: vs) (d :: ds)
theorem In2.mono (h : ∀ f ∈ L, f ∈ L') : ∀ {vs : List V} {ds : List D}, In2 L vs ds → In2 L' vs ds
  | _, _, .nil => .nil
  | _, _, .cons a b => .cons (h _ a) (In2.mono h b)
theorem In2.dt (h : ∀ f ∈ L, Dt K B H f.1 f.2) : ∀ {vs : List V} {ds : List D}, In2 L vs ds → DtAll K B H vs ds
  | _, _, .nil => .nil
  | _, _, .cons a b => .cons (h _ a) (In2.dt h b)
theorem In2.len : ∀ {vs : List V} {ds : List D}, In2 L vs ds → vs.length = ds.length
  | _, _, .nil => rfl
  | _, _, .cons a b => by rw [List.length_cons, List.length_cons, In2.len b]
/-- a new tuple, a new list, frozen -/
theorem Wd.new (w : Wd K O L C H) (hp : H p = Option.none) {o : HO} {d : D} (h : ∀ B, (∀ f ∈ L, Dt K B (upd H p o) f.1 f.2) → B p → Dt K B (upd H p o) (.ref p) d) : Wd K O ((.ref p, d) :: L) C (upd H p o) := by
  obtain ⟨B, w⟩ := w
  have s : Same H (upd H p o) := fun b u q => by rw [upd_ne (ne_of_none q hp)]; exact q
  have w2 := w.grow (B' := fun q => B q ∨ q = p) s (fun q b => .inl b) (fun q b => b.elim .inl fun e => .inr (by rw [e]; exact ⟨hp, _, upd_same⟩))
  exact ⟨_, w2.fact (h _ w2.ft (.inr rfl))⟩
theorem Wd.tup (w : Wd K O L C H) (hp : H p = Option.none) {vs : List V} {ds : List D} (h : In2 L vs ds) : Wd K O ((.ref p, .tuple ds) :: L) C (upd H p (.tup vs)) :=
  w.new hp fun _ f b => .tup (.inl ⟨b, .inl upd_same⟩) (h.dt f)
theorem Wd.lst (w : Wd K O L C H) (hp : H p = Option.none) {vs : List V} {ds : List D} (h : In2 L vs ds) : Wd K O ((.ref p, .list ds) :: L) C (upd H p (.lst vs)) :=
  w.new hp fun _ f b => .lst ⟨b, upd_same⟩ (h.dt f)
theorem Wb.lstD (w : Wb K O B L C H) (hp : H p = Option.none) {vs : List V} {ds : List D} (h : DtAll K B H vs ds) : Wd K O ((.ref p, .list ds) :: L) C (upd H p (.lst vs)) := by
  have s : Same H (upd H p (.lst vs)) := fun b u q => by rw [upd_ne (ne_of_none q hp)]; exact q
  have w2 := w.grow (B' := fun q => B q ∨ q = p) s (fun q b => .inl b) (fun q b => b.elim .inl fun e => .inr (by rw [e]; exact ⟨hp, _, upd_same⟩))
  exact ⟨_, w2.fact (.lst ⟨.inr rfl, upd_same⟩ (Dt.monoAll (B := B) (H := H) (fun q o b e => ⟨.inl b, s q o e⟩) _ _ h))⟩
theorem Wb.tupD (w : Wb K O B L C H) (hp : H p = Option.none) {vs : List V} {ds : List D} (h : DtAll K B H vs ds) : Wd K O ((.ref p, .tuple ds) :: L) C (upd H p (.tup vs)) := by
  have s : Same H (upd H p (.tup vs)) := fun b u q => by rw [upd_ne (ne_of_none q hp)]; exact q
  have w2 := w.grow (B' := fun q => B q ∨ q = p) s (fun q b => .inl b) (fun q b => b.elim .inl fun e => .inr (by rw [e]; exact ⟨hp, _, upd_same⟩))
  exact ⟨_, w2.fact (.tup (.inl ⟨.inr rfl, .inl upd_same⟩) (Dt.monoAll (B := B) (H := H) (fun q o b e => ⟨.inl b, s q o e⟩) _ _ h))⟩
/-! roots: a list whose items are frozen -/
/-- a list at a, its items frozen; the data is .list ds -/
def rootL (K : PySem.W.Frag) (a : Addr) (d : D) : Root where
  fp := fun _ => [a]
  same := fun _ _ _ => rfl
  P := fun B H => ∃ ds vs, d = .list ds ∧ H a = some (.lst vs) ∧ DtAll K B H vs ds
  mono := fun k e h => by
    obtain ⟨ds, vs, h1, h2, h3⟩ := h
    exact ⟨ds, vs, h1, by rw [e a (.head _)]; exact h2, Dt.monoAll k _ _ h3⟩
  occ := fun h q hq => by
    obtain ⟨ds, vs, h1, h2, h3⟩ := h
    rw [List.mem_singleton] at hq
    subst hq
    exact ⟨_, h2⟩
/-- a new root -/
theorem Wd.root (w : Wd K O L C H) (hp : H p = Option.none) {vs : List V} {ds : List D} (h : In2 L vs ds) : Wd K O L (rootL K p (.list ds) :: C) (upd H p (.lst vs)) := by
  obtain ⟨B, w⟩ := w
  have s : Same H (upd H p (.lst vs)) := fun b u q => by rw [upd_ne (ne_of_none q hp)]; exact q
  have w2 := w.grow (B' := B) s (fun q b => b) (fun q b => .inl b)
  have nb : ¬ B p := fun b => by
    obtain ⟨o, ho⟩ := w.bo p b
    rw [ho] at hp; cases hp
  have es := w.same s
  refine ⟨B, w2.lo, w2.hi, ?_, ?_, ?_, ?_, w2.ft, w2.kp, w2.oc, w2.bo⟩
  · rw [fps_cons]
    exact List.nodup_cons.mpr ⟨by rw [show ([] : List Addr).append (fps C (upd H p (HO.lst vs))) = fps C (upd H p (HO.lst vs)) from rfl, es]; exact w.free hp, w2.nd⟩
  · intro q hq
    rw [fps_cons] at hq
    rcases List.mem_cons.mp hq with e | e
    · subst e; exact nb
    · exact w2.nb q e
  · intro q hq
    rw [fps_cons] at hq
    rcases List.mem_cons.mp hq with e | e
    · subst e; exact .inr (w.none hp)
    · exact w2.fr q e
  · intro c hc
    rcases List.mem_cons.mp hc with e | e
    · subst e; exact ⟨ds, vs, rfl, upd_same, h.dt w2.ft⟩
    · exact w2.rt c e
/-- the first root, read -/
theorem Wd.rd (w : Wd K O L C H) {a : Addr} {d : D} (hc : rootL K a d ∈ C) : ∃ B ds vs, d = .list ds ∧ H a = some (.lst vs) ∧ DtAll K B H vs ds := by
  obtain ⟨B, w⟩ := w
  obtain ⟨ds, vs, h1, h2, h3⟩ := w.rt _ hc
  exact ⟨B, ds, vs, h1, h2, h3⟩
/-- the first root gets other items -/
theorem Wd.put {a : Addr} {d : D} {ds : List D} {vs : List V} (w : Wd K O L (rootL K a d :: C) H) (h : ∀ B, (∀ f ∈ L, Dt K B H f.1 f.2) → (rootL K a d).P B H → DtAll K B H vs ds) : Wd K O L (rootL K a (.list ds) :: C) (upd H a (.lst vs)) := by
  obtain ⟨B, w⟩ := w
  have ha : ¬ B a := w.nb a (by rw [fps_cons]; exact .head _)
  obtain ⟨_, vs0, _, h0, _⟩ := w.rt _ (.head _)
  have k : Kp B H B (upd H a (.lst vs)) := fun q o b e => ⟨b, by rw [upd_ne (fun z => ha (by rw [← z]; exact b))]; exact e⟩
  have hnd := w.nd
  rw [fps_cons] at hnd
  have hna : a ∉ fps C H := (List.nodup_cons.mp hnd).1
  have es : fps (rootL K a (.list ds) :: C) (upd H a (.lst vs)) = fps (rootL K a d :: C) H := by
    rw [fps_cons, fps_cons, fps_same k (fun c hc => w.rt c (.tail _ hc)) fun q hq => upd_ne fun z => hna (by rw [← z]; exact hq)]; rfl
  refine ⟨B, w.lo, w.hi, by rw [es]; exact w.nd, fun p hp => w.nb p (by rw [← es]; exact hp), fun p hp => w.fr p (by rw [← es]; exact hp), ?_, fun f hf => Dt.mono k _ _ (w.ft f hf), ?_, ?_, ?_⟩
  · intro c hc
    rcases List.mem_cons.mp hc with e | e
    · subst e
      exact ⟨ds, vs, rfl, upd_same, Dt.monoAll k _ _ (h B w.ft (w.rt _ (.head _)))⟩
    · refine c.mono k (fun q hq => upd_ne fun z => hna ?_) (w.rt c (.tail _ e))
      rw [← z]; exact mem_fps e hq
  · intro q o hq e
    by_cases z : q = a
    · subst z
      rcases w.fr q (by rw [fps_cons]; exact .head _) with y | y
      · exact absurd y hq
      · rw [y] at e; cases e
    · rw [upd_ne z]; exact w.kp q o hq e
  · intro q hq
    by_cases z : q = a
    · subst z; exact ⟨_, upd_same⟩
    · rw [upd_ne z]; exact w.oc q hq
  · intro q b
    rw [upd_ne (fun z => ha (by rw [← z]; exact b))]
    exact w.bo q b
/-- the first root, made by this def, is frozen -/
theorem Wd.freeze {a : Addr} {d : D} (w : Wd K O L (rootL K a d :: C) H) (ha : a ∉ O.fp) : Wd K O ((.ref a, d) :: L) C H := by
  obtain ⟨B, w⟩ := w
  have hnd := w.nd
  rw [fps_cons] at hnd
  have hna : a ∉ fps C H := (List.nodup_cons.mp hnd).1
  obtain ⟨ds, vs, rfl, h0, h1⟩ := w.rt _ (.head _)
  have k : Kp B H (fun q => B q ∨ q = a) H := fun q o b e => ⟨.inl b, e⟩
  have w2 : Wb K O (fun q => B q ∨ q = a) L C H := by
    refine ⟨fun p b => .inl (w.lo p b), fun p b => ?_, (List.nodup_cons.mp hnd).2, fun p hp b => ?_, fun p hp => w.fr p (by rw [fps_cons]; exact .tail _ hp), fun c hc => c.mono k (fun _ _ => rfl) (w.rt c (.tail _ hc)), fun f hf => Dt.mono k _ _ (w.ft f hf), w.kp, w.oc, fun p b => ?_⟩
    · rcases b with b | e
      · exact w.hi p b
      · rw [e]
        exact .inr ((w.fr a (by rw [fps_cons]; exact .head _)).resolve_left ha)
    · rcases b with b | e
      · exact w.nb p (by rw [fps_cons]; exact .tail _ hp) b
      · rw [e] at hp; exact hna hp
    · rcases b with b | e
      · exact w.bo p b
      · rw [e]; exact ⟨_, h0⟩
  exact ⟨_, w2.fact (.lst ⟨.inr rfl, h0⟩ (Dt.monoAll k _ _ h1))⟩
/-- roots may be taken in another order -/
theorem Wd.perm {C' : List Root} (w : Wd K O L C H) (h : C.Perm C') : Wd K O L C' H := by
  obtain ⟨B, w⟩ := w
  have hp : (fps C H).Perm (fps C' H) := h.flatMap_right _
  exact ⟨B, w.lo, w.hi, hp.nodup_iff.mp w.nd, fun p hq => w.nb p (hp.mem_iff.mpr hq), fun p hq => w.fr p (hp.mem_iff.mpr hq), fun c hc => w.rt c (h.mem_iff.mpr hc), w.ft, w.kp, w.oc, w.bo⟩
end
/-! ### expressions: a reading keeps to a mirror -/
/-- no more is said of an exception -/
def noR : Root where
  fp := fun _ => []
  same := fun _ _ _ => rfl
  P := fun _ _ => True
  mono := fun _ _ h => h
  occ := fun _ p hp => by cases hp
def noX : D → Value → Option Addr → Root := fun _ _ _ => noR
structure Gx where
  K : PySem.W.Frag
  O : Og
  Xk : XK
  XR : D → Value → Option Addr → Root
  rf : V → D → List (V × D) → List Root → Prop
/-- what is returned is frozen; a fresh list -/
def rfF : V → D → List (V × D) → List Root → Prop := fun v x L1 C1 => L1 = [(v, x)] ∧ C1 = []
section
variable {μ : Type} (G : Gx)
def Bk {α : Type} (C : μ → List Root) (F : List Root) (L : List (V × D)) (r : Rs μ α) : Prop :=
  (∀ e m' cls d H', r = .exc e m' → Wd G.K G.O L (G.XR e cls d :: (C m' ++ F)) H' → G.Xk cls d H') ∧ r ≠ .bad
def EV (te : TE) (σ : St) (L : List (V × D)) (C : μ → List Root) (E : SM μ D) : Prop :=
  ∀ m F L' H Q, (∀ f ∈ L, f ∈ L') → Wd G.K G.O L' (C m ++ F) H →
    (∀ x m' v H', E m = .ok x m' → Wd G.K G.O ((v, x) :: L') (C m' ++ F) H' → Q v H') → Bk G C F L' (E m) → te σ H Q
def TV (tt : TT) (σ : St) (L : List (V × D)) (C : μ → List Root) (E : SM μ Bool) : Prop :=
  ∀ m F L' H Q, (∀ f ∈ L, f ∈ L') → Wd G.K G.O L' (C m ++ F) H →
    (∀ x m' H', E m = .ok x m' → Wd G.K G.O L' (C m' ++ F) H' → Q x H') → Bk G C F L' (E m) → tt σ H Q
def AV (ta : TA) (σ : St) (L : List (V × D)) (C : μ → List Root) (E : SM μ (List D)) : Prop :=
  ∀ m F L' H Q, (∀ f ∈ L, f ∈ L') → Wd G.K G.O L' (C m ++ F) H →
    (∀ xs m' vs H' L2, E m = .ok xs m' → (∀ f ∈ L', f ∈ L2) → In2 L2 vs xs → Wd G.K G.O L2 (C m' ++ F) H' → Q vs H') → Bk G C F L' (E m) → ta σ H Q
/-- a root of which data is told where it stands: read only -/
def OpS (r : R2) (f : D → D → Option D) : Prop := ∀ (L : List (V × D)) (C : List Root) (H : Hp) (x y : V) (d e z : D) (Q : VK),
  Wd G.K G.O L C H → (x, d) ∈ L → (y, e) ∈ L → f d e = some z → (∀ v H', Wd G.K G.O ((v, z) :: L) C H' → Q v H') → r x y H Q
def UnS (r : V → Hp → VK → Prop) (f : D → Option D) : Prop := ∀ (L : List (V × D)) (C : List Root) (H : Hp) (x : V) (d z : D) (Q : VK),
  Wd G.K G.O L C H → (x, d) ∈ L → f d = some z → (∀ v H', Wd G.K G.O ((v, z) :: L) C H' → Q v H') → r x H Q
def CallS (r : List V → Hp → VK → Prop) (f : List D → Option D) : Prop := ∀ (L : List (V × D)) (C : List Root) (H : Hp) (xs : List V) (ds : List D) (z : D) (Q : VK),
  Wd G.K G.O L C H → In2 L xs ds → f ds = some z → (∀ v H', Wd G.K G.O ((v, z) :: L) C H' → Q v H') → r xs H Q
end
/-! mirrors -/
namespace SM
variable {μ : Type}
def op2 (f : D → D → Option D) (E1 E2 : SM μ D) : SM μ D := bd E1 fun x => bd E2 fun y => of (f x y)
def op1 (f : D → Option D) (E1 : SM μ D) : SM μ D := bd E1 fun x => of (f x)
def opL (f : List D → Option D) (E1 : SM μ (List D)) : SM μ D := bd E1 fun x => of (f x)
def a0 : SM μ (List D) := pu []
def ac (E : SM μ D) (Es : SM μ (List D)) : SM μ (List D) := bd E fun x => bd Es fun xs => pu (x :: xs)
def boolD : D → Option Bool
  | .bool b => some b
  | _ => none
def truD : D → Option Bool
  | .none => some false
  | .bool b => some b
  | .int i => some (i != 0)
  | .str x => if x.length ≤ sizeLine then some ((x.length : Int) != 0) else none
  | .list xs => some (!xs.isEmpty)
  | .tuple xs => some (!xs.isEmpty)
  | .dict _ => none
/-- a test by a truth; by any value -/
def tb (E : SM μ D) : SM μ Bool := bd E fun x => of (boolD x)
def tr (E : SM μ D) : SM μ Bool := bd E fun x => of (truD x)
def tand (E1 E2 : SM μ Bool) : SM μ Bool := bd E1 fun c => if c then E2 else pu false
def tor (E1 E2 : SM μ Bool) : SM μ Bool := bd E1 fun c => if c then pu true else E2
def tnot (E1 : SM μ Bool) : SM μ Bool := bd E1 fun c => pu (!c)
def eand (E1 E2 : SM μ D) : SM μ D := bd (tb E1) fun c => if c then E2 else pu (.bool false)
def eor (E1 E2 : SM μ D) : SM μ D := bd (tb E1) fun c => if c then pu (.bool true) else E2
def enot (E1 : SM μ D) : SM μ D := bd (tb E1) fun c => pu (.bool (!c))
def eif (T : SM μ Bool) (E1 E2 : SM μ D) : SM μ D := bd T fun c => if c then E1 else E2
def chain (f g : D → D → Option D) (E1 E2 E3 : SM μ D) : SM μ D := bd E1 fun x => bd E2 fun y => bd (tb (of (f x y))) fun c => if c then bd E3 fun z => of (g y z) else pu (.bool false)
def tupD (xs : List D) : Option D := if xs.length ≤ sizeLine then some (.tuple xs) else none
def lstD (xs : List D) : Option D := if xs.length ≤ sizeLine then some (.list xs) else none
end SM
section
open SM
variable {μ : Type} {G : Gx} {σ : St} {L : List (V × D)} {C : μ → List Root} {te ta tb tc : TE} {tt tu : TT} {E E1 E2 E3 : SM μ D} {T T1 T2 : SM μ Bool}
theorem Bk.exc {α β : Type} {C : μ → List Root} {F : List Root} {L : List (V × D)} {e : D} {m : μ} (h : Bk G C F L (.exc e m : Rs μ α)) : Bk G C F L (.exc e m : Rs μ β) := ⟨fun e' m' cls d H' q => h.1 e' m' cls d H' (by cases q; rfl), fun z => by cases z⟩
theorem Bk.mono {α : Type} {C : μ → List Root} {F : List Root} {L L' : List (V × D)} {r : Rs μ α} (h : Bk G C F L r) (s : ∀ f ∈ L, f ∈ L') : Bk G C F L' r := ⟨fun e m' cls d H' q w => h.1 e m' cls d H' q (w.sub s), h.2⟩
/-- the first part of a thing done in two -/
theorem Bk.fst {α β : Type} {C : μ → List Root} {F : List Root} {L : List (V × D)} {x : SM μ α} {f : α → SM μ β} {m : μ} (h : Bk G C F L (bd x f m)) : Bk G C F L (x m) := by
  refine ⟨fun e m' cls d H' q => h.1 e m' cls d H' (bd_exc q), fun z => h.2 (bd_bad z)⟩
theorem Bk.snd {α β : Type} {C : μ → List Root} {F : List Root} {L : List (V × D)} {x : SM μ α} {f : α → SM μ β} {m m' : μ} {a : α} (h : Bk G C F L (bd x f m)) (e : x m = .ok a m') : Bk G C F L (f a m') := by
  rw [bd_ok e] at h
  exact h
theorem bk_ok {α : Type} {C : μ → List Root} {F : List Root} {L : List (V × D)} {a : α} {m : μ} : Bk G C F L (.ok a m : Rs μ α) := ⟨fun _ _ _ _ _ q => (by cases q), fun q => (by cases q)⟩
theorem ev_var {i : Nat} {v : V} {d : D} (h : σ[i]? = some (some v)) (hm : (v, d) ∈ L) : EV G (tVar i) σ L C (pu d) := fun m F L' H Q s w q _ =>
  ⟨v, h, q d m v H rfl (w.fact fun _ f => f _ (s _ hm))⟩
theorem ev_int {i : Int} : EV G (tC (.int i)) σ L C (pu (.int i)) := fun m F L' H Q s w q _ => q _ m _ H rfl (w.fact fun _ _ => .int i)
theorem ev_bl {b : Bool} : EV G (tC (.bl b)) σ L C (pu (.bool b)) := fun m F L' H Q s w q _ => q _ m _ H rfl (w.fact fun _ _ => .bl b)
theorem ev_non : EV G (tC .non) σ L C (pu .none) := fun m F L' H Q s w q _ => q _ m _ H rfl (w.fact fun _ _ => .non)
theorem ev_str {x : Str} : EV G (tC (.str x)) σ L C (pu (.str x)) := fun m F L' H Q s w q _ => q _ m _ H rfl (w.fact fun _ _ => .str x)
/-- a constant of the top -/
theorem ev_con {v : V} {d : D} (h : ∀ B H, Dt G.K B H v d) : EV G (tC v) σ L C (pu d) := fun m F L' H Q s w q _ => q _ m _ H rfl (w.fact fun B _ => h B H)
theorem ev_op {r : R2} {f : D → D → Option D} (hf : OpS G r f) (h1 : EV G ta σ L C E1) (h2 : EV G tb σ L C E2) : EV G (tOp r ta tb) σ L C (op2 f E1 E2) := by
  intro m F L' H Q s w q b
  refine h1 m F L' H _ s w (fun x m1 v H1 e1 w1 => ?_) b.fst
  have b1 := b.snd e1
  refine h2 m1 F ((v, x) :: L') H1 _ (fun f hf => .tail _ (s f hf)) w1 (fun y m2 u H2 e2 w2 => ?_) (b1.fst.mono fun f hf => .tail _ hf)
  have b2 := b1.snd e2
  cases ef : f x y with
  | none => rw [ef] at b2; exact absurd rfl b2.2
  | some z =>
    refine hf _ _ H2 v u x y z Q w2 (.tail _ (.head _)) (.head _) ef fun v' H' w' => q z m2 v' H' ?_ (w'.sub fun f hf => ?_)
    · show bd E1 _ m = _
      rw [bd_ok e1, bd_ok e2, ef]; rfl
    · rcases List.mem_cons.mp hf with e | e
      · rw [e]; exact .head _
      · exact .tail _ (.tail _ (.tail _ e))
theorem ev_un {r : V → Hp → VK → Prop} {f : D → Option D} (hf : UnS G r f) (h1 : EV G ta σ L C E1) : EV G (tUn r ta) σ L C (op1 f E1) := by
  intro m F L' H Q s w q b
  refine h1 m F L' H _ s w (fun x m1 v H1 e1 w1 => ?_) b.fst
  have b1 := b.snd e1
  cases ef : f x with
  | none => rw [ef] at b1; exact absurd rfl b1.2
  | some z =>
    refine hf _ _ H1 v x z Q w1 (.head _) ef fun v' H' w' => q z m1 v' H' ?_ (w'.sub fun f hf => ?_)
    · show bd E1 _ m = _
      rw [bd_ok e1, ef]; rfl
    · rcases List.mem_cons.mp hf with e | e
      · rw [e]; exact .head _
      · exact .tail _ (.tail _ e)
theorem av_nil : AV G tNil σ L C (a0 : SM μ (List D)) := fun m F L' H Q s w q _ => q [] m [] H L' rfl (fun _ h => h) .nil w
theorem av_cons {tr : TA} {Es : SM μ (List D)} (h1 : EV G ta σ L C E1) (h2 : AV G tr σ L C Es) : AV G (tCons ta tr) σ L C (ac E1 Es) := by
  intro m F L' H Q s w q b
  refine h1 m F L' H _ s w (fun x m1 v H1 e1 w1 => ?_) b.fst
  have b1 := b.snd e1
  refine h2 m1 F ((v, x) :: L') H1 _ (fun f hf => .tail _ (s f hf)) w1 (fun ys m2 us H2 L2 e2 s2 i2 w2 => ?_) (b1.fst.mono fun f hf => .tail _ hf)
  refine q (x :: ys) m2 (v :: us) H2 L2 ?_ (fun f hf => s2 f (.tail _ hf)) (.cons (s2 _ (.head _)) i2) w2
  show bd E1 _ m = _
  rw [bd_ok e1, bd_ok e2]; rfl
theorem ev_args {ta : TA} {Es : SM μ (List D)} {te : TE} {f : List D → Option D} {r : List V → Hp → VK → Prop} (hf : CallS G r f) (h : AV G ta σ L C Es) (ht : te = fun σ H Q => ta σ H fun vs H1 => r vs H1 Q) : EV G te σ L C (opL f Es) := by
  subst ht
  intro m F L' H Q s w q b
  refine h m F L' H _ s w (fun xs m1 vs H1 L2 e1 s2 i2 w1 => ?_) b.fst
  have b1 := b.snd e1
  cases ef : f xs with
  | none => rw [ef] at b1; exact absurd rfl b1.2
  | some z =>
    refine hf _ _ H1 vs xs z Q w1 i2 ef fun v' H' w' => q z m1 v' H' ?_ (w'.sub fun f hf => ?_)
    · show bd Es _ m = _
      rw [bd_ok e1, ef]; rfl
    · rcases List.mem_cons.mp hf with e | e
      · rw [e]; exact .head _
      · exact .tail _ (s2 _ e)
theorem ev_cb {ta : TA} {Es : SM μ (List D)} {f : List D → Option D} {r : List V → Hp → VK → Prop} (hf : CallS G r f) (h : AV G ta σ L C Es) : EV G (tCB r ta) σ L C (opL f Es) := ev_args hf h rfl
theorem cs_tup : CallS G (fun xs H Q => xs.length ≤ sizeLine ∧ ∀ p, H p = none → Q (.ref p) (upd H p (.tup xs))) tupD := by
  intro L C H xs ds z Q w i e q
  unfold tupD at e
  split at e
  · cases e
    refine ⟨by rw [i.len]; assumption, fun p hp => q _ _ (w.tup hp i)⟩
  · cases e
theorem cs_lst : CallS G (fun xs H Q => xs.length ≤ sizeLine ∧ ∀ p, H p = none → Q (.ref p) (upd H p (.lst xs))) lstD := by
  intro L C H xs ds z Q w i e q
  unfold lstD at e
  split at e
  · cases e
    refine ⟨by rw [i.len]; assumption, fun p hp => q _ _ (w.lst hp i)⟩
  · cases e
theorem ev_tup {ta : TA} {Es : SM μ (List D)} (h : AV G ta σ L C Es) : EV G (tTup ta) σ L C (opL tupD Es) := ev_args cs_tup h rfl
theorem ev_lst {ta : TA} {Es : SM μ (List D)} (h : AV G ta σ L C Es) : EV G (tLst ta) σ L C (opL lstD Es) := ev_args cs_lst h rfl
/-! tests -/
theorem boolD_some {x : D} {b : Bool} (h : boolD x = some b) : x = .bool b := by
  cases x <;> simp [boolD] at h
  rw [h]
theorem tv_of {tt : TT} (h1 : EV G te σ L C E) (ht : tt = fun σ H Q => te σ H fun x H1 => ∃ k, x = .bl k ∧ Q k H1) : TV G tt σ L C (SM.tb E) := by
  subst ht
  intro m F L' H Q s w q b
  refine h1 m F L' H _ s w (fun x m1 v H1 e1 w1 => ?_) b.fst
  have b1 := b.snd e1
  cases ef : boolD x with
  | none => rw [ef] at b1; exact absurd rfl b1.2
  | some z =>
    have ex := boolD_some ef
    subst ex
    obtain ⟨B, hd⟩ := w1.dt (.head _)
    refine ⟨z, hd.bl_inv, q z m1 H1 ?_ (w1.sub fun f hf => .tail _ hf)⟩
    show bd E _ m = _
    rw [bd_ok e1]; rfl
theorem tv_b (h1 : EV G te σ L C E) : TV G (tB te) σ L C (SM.tb E) := tv_of h1 rfl
theorem tv_test (h1 : EV G te σ L C E) : TV G (tTest te) σ L C (SM.tb E) := tv_of h1 rfl
theorem isEmpty_dt {K : PySem.W.Frag} {B : Addr → Prop} {H : Hp} {vs : List V} {ds : List D} (h : DtAll K B H vs ds) : vs.isEmpty = ds.isEmpty := by cases h <;> rfl
theorem tru_of {K : PySem.W.Frag} {B : Addr → Prop} {H : Hp} {v : V} {d : D} {k : Bool} (h : Dt K B H v d) (e : truD d = some k) : TruV K v H k := by
  cases h with
  | non => cases e; rfl
  | bl z => cases e; rfl
  | int i => cases e; rfl
  | str x =>
    simp only [truD] at e
    split at e
    · cases e; exact ⟨by assumption, rfl⟩
    · cases e
  | lst a b => cases e; exact .inl ⟨_, a.sq, by rw [isEmpty_dt b]⟩
  | tup a b => cases e; exact .inr (.inl ⟨_, a.sq, by rw [isEmpty_dt b]⟩)
  | scr a c => cases e
theorem tv_tr (h1 : EV G te σ L C E) : TV G (fun σ H Q => te σ H fun x H' => ∃ k, TruV G.K x H' k ∧ Q k H') σ L C (SM.tr E) := by
  intro m F L' H Q s w q b
  refine h1 m F L' H _ s w (fun x m1 v H1 e1 w1 => ?_) b.fst
  have b1 := b.snd e1
  cases ef : truD x with
  | none => rw [ef] at b1; exact absurd rfl b1.2
  | some z =>
    obtain ⟨B, hd⟩ := w1.dt (.head _)
    refine ⟨z, tru_of hd ef, q z m1 H1 ?_ (w1.sub fun f hf => .tail _ hf)⟩
    show bd E _ m = _
    rw [bd_ok e1, ef]; rfl
theorem tv_and (h1 : TV G tt σ L C T1) (h2 : TV G tu σ L C T2) : TV G (tAnd tt tu) σ L C (tand T1 T2) := by
  intro m F L' H Q s w q b
  refine h1 m F L' H _ s w (fun x m1 H1 e1 w1 => ?_) b.fst
  have b1 := b.snd e1
  have er : tand T1 T2 m = (if x then T2 else pu false) m1 := bd_ok e1
  cases x with
  | true =>
    show if true = true then tu σ H1 Q else _
    rw [if_pos rfl]
    exact h2 m1 F L' H1 Q s w1 (fun y m2 H2 e2 w2 => q y m2 H2 (er.trans e2) w2) b1
  | false => exact q false m1 H1 er w1
theorem tv_or (h1 : TV G tt σ L C T1) (h2 : TV G tu σ L C T2) : TV G (tOr tt tu) σ L C (tor T1 T2) := by
  intro m F L' H Q s w q b
  refine h1 m F L' H _ s w (fun x m1 H1 e1 w1 => ?_) b.fst
  have b1 := b.snd e1
  have er : tor T1 T2 m = (if x then pu true else T2) m1 := bd_ok e1
  cases x with
  | false =>
    show if false = true then _ else tu σ H1 Q
    rw [if_neg (by decide)]
    exact h2 m1 F L' H1 Q s w1 (fun y m2 H2 e2 w2 => q y m2 H2 (er.trans e2) w2) b1
  | true => exact q true m1 H1 er w1
theorem tv_not (h1 : TV G tt σ L C T1) : TV G (tNot tt) σ L C (tnot T1) := by
  intro m F L' H Q s w q b
  refine h1 m F L' H _ s w (fun x m1 H1 e1 w1 => q (!x) m1 H1 ?_ w1) b.fst
  show bd T1 _ m = _
  rw [bd_ok e1]; rfl
/-- the value of a truth -/
theorem ev_tb (h1 : EV G te σ L C E) (m : μ) (F : List Root) (L' : List (V × D)) (H : Hp) (Q : VK) (s : ∀ f ∈ L, f ∈ L') (w : Wd G.K G.O L' (C m ++ F) H)
    (q : ∀ c m' H', SM.tb E m = .ok c m' → Wd G.K G.O ((.bl c, .bool c) :: L') (C m' ++ F) H' → Q (.bl c) H') (b : Bk G C F L' (SM.tb E m)) : te σ H Q := by
  refine h1 m F L' H _ s w (fun x m1 v H1 e1 w1 => ?_) b.fst
  have b1 := b.snd e1
  cases ef : boolD x with
  | none => rw [ef] at b1; exact absurd rfl b1.2
  | some z =>
    have ex := boolD_some ef
    subst ex
    obtain ⟨B, hd⟩ := w1.dt (.head _)
    have hv := hd.bl_inv
    subst hv
    refine q z m1 H1 ?_ w1
    show bd E _ m = _
    rw [bd_ok e1]; rfl
theorem ev_and (h1 : EV G ta σ L C E1) (h2 : EV G tb σ L C E2) : EV G (tAndV ta tb) σ L C (eand E1 E2) := by
  intro m F L' H Q s w q b
  refine ev_tb h1 m F L' H _ s w (fun c m1 H1 e1 w1 => ⟨c, rfl, ?_⟩) b.fst
  have b1 := b.snd e1
  have er : eand E1 E2 m = (if c then E2 else pu (.bool false)) m1 := bd_ok e1
  have w2 : Wd G.K G.O L' (C m1 ++ F) H1 := w1.sub fun f hf => .tail _ hf
  cases c with
  | true => exact h2 m1 F L' H1 Q s w2 (fun y m2 v H2 e2 w3 => q y m2 v H2 (er.trans e2) w3) b1
  | false => exact q _ m1 _ H1 er w1
theorem ev_or (h1 : EV G ta σ L C E1) (h2 : EV G tb σ L C E2) : EV G (tOrV ta tb) σ L C (eor E1 E2) := by
  intro m F L' H Q s w q b
  refine ev_tb h1 m F L' H _ s w (fun c m1 H1 e1 w1 => ⟨c, rfl, ?_⟩) b.fst
  have b1 := b.snd e1
  have er : eor E1 E2 m = (if c then pu (.bool true) else E2) m1 := bd_ok e1
  have w2 : Wd G.K G.O L' (C m1 ++ F) H1 := w1.sub fun f hf => .tail _ hf
  cases c with
  | false => exact h2 m1 F L' H1 Q s w2 (fun y m2 v H2 e2 w3 => q y m2 v H2 (er.trans e2) w3) b1
  | true => exact q _ m1 _ H1 er w1
theorem ev_not (h1 : EV G ta σ L C E1) : EV G (tNotV ta) σ L C (enot E1) := by
  intro m F L' H Q s w q b
  refine ev_tb h1 m F L' H _ s w (fun c m1 H1 e1 w1 => ⟨c, rfl, ?_⟩) b.fst
  refine q (.bool (!c)) m1 _ H1 ?_ ((w1.sub fun f hf => .tail _ hf).fact fun _ _ => .bl _)
  exact bd_ok e1
theorem ev_if (h : TV G tt σ L C T) (h1 : EV G ta σ L C E1) (h2 : EV G tb σ L C E2) : EV G (tIf tt ta tb) σ L C (eif T E1 E2) := by
  intro m F L' H Q s w q b
  refine h m F L' H _ s w (fun c m1 H1 e1 w1 => ?_) b.fst
  have b1 := b.snd e1
  have er : eif T E1 E2 m = (if c then E1 else E2) m1 := bd_ok e1
  cases c with
  | true => exact h1 m1 F L' H1 Q s w1 (fun y m2 v H2 e2 w3 => q y m2 v H2 (er.trans e2) w3) b1
  | false => exact h2 m1 F L' H1 Q s w1 (fun y m2 v H2 e2 w3 => q y m2 v H2 (er.trans e2) w3) b1
theorem ev_chain {r r' : R2} {f g : D → D → Option D} (hf : OpS G r f) (hg : OpS G r' g) (h1 : EV G ta σ L C E1) (h2 : EV G tb σ L C E2) (h3 : EV G tc σ L C E3) : EV G (tChain r r' ta tb tc) σ L C (chain f g E1 E2 E3) := by
  intro m F L' H Q s w q b
  refine h1 m F L' H _ s w (fun x m1 v H1 e1 w1 => ?_) b.fst
  have b1 := b.snd e1
  refine h2 m1 F ((v, x) :: L') H1 _ (fun f hf => .tail _ (s f hf)) w1 (fun y m2 u H2 e2 w2 => ?_) (b1.fst.mono fun f hf => .tail _ hf)
  have b2 := b1.snd e2
  have er : chain f g E1 E2 E3 m = bd (SM.tb (of (f x y))) (fun c => if c then bd E3 fun z => of (g y z) else pu (.bool false)) m2 := by
    show bd E1 _ m = _
    rw [bd_ok e1, bd_ok e2]
  cases ef : f x y with
  | none => rw [ef] at b2; exact absurd rfl b2.2
  | some k =>
    rw [ef] at b2 er
    refine hf _ _ H2 v u x y k _ w2 (.tail _ (.head _)) (.head _) ef fun v' H' w' => ?_
    cases ek : boolD k with
    | none =>
      refine absurd ?_ b2.2
      show bd (bd (pu k) fun x => of (boolD x)) _ m2 = _
      rw [pu_bd, ek]; rfl
    | some c =>
      have ex := boolD_some ek
      subst ex
      obtain ⟨B, hd⟩ := w'.dt (.head _)
      have hv := hd.bl_inv
      subst hv
      refine ⟨c, rfl, ?_⟩
      have er2 : chain f g E1 E2 E3 m = (if c then bd E3 fun z => of (g y z) else pu (.bool false)) m2 := er
      have b3 : Bk G C F L' ((if c then bd E3 fun z => of (g y z) else pu (.bool false)) m2) := b2
      cases c with
      | false =>
        refine q _ m2 _ H' er2 (w'.sub fun f hf => ?_)
        rcases List.mem_cons.mp hf with e | e
        · rw [e]; exact .head _
        · exact .tail _ (.tail _ (.tail _ e))
      | true =>
        refine h3 m2 F _ H' _ (fun f hf => .tail _ (.tail _ (.tail _ (s f hf)))) w' (fun z m3 u3 H3 e3 w3 => ?_) (b3.fst.mono fun f hf => .tail _ (.tail _ (.tail _ hf)))
        have b4 := b3.snd e3
        cases eg : g y z with
        | none => rw [eg] at b4; exact absurd rfl b4.2
        | some k2 =>
          refine hg _ _ H3 u u3 y z k2 Q w3 (.tail _ (.tail _ (.head _))) (.head _) eg fun v' H' w' => q k2 m3 v' H' ?_ (w'.sub fun f hf => ?_)
          · rw [er2]
            show bd E3 _ m2 = _
            rw [bd_ok e3, eg]; rfl
          · rcases List.mem_cons.mp hf with e | e
            · rw [e]; exact .head _
            · exact .tail _ (.tail _ (.tail _ (.tail _ (.tail _ e))))
end
/-! ### operations on data -/
namespace SM
def fit (i : Int) : Bool := decide (i.natAbs.log2 < 50000000)
def addD : D → D → Option D
  | .int a, .int b => some (.int (a + b))
  | .list a, .list b => if a.length + b.length ≤ sizeLine then some (.list (a ++ b)) else none
  | .dict [(.none, .list a)], .list b => if a.length + b.length ≤ sizeLine then some (.list (a ++ b)) else none
  | .tuple a, .tuple b => if a ≠ [] ∧ b ≠ [] ∧ a.length + b.length ≤ sizeLine then some (.tuple (a ++ b)) else none
  | .str a, .str b => if a.length + b.length ≤ sizeLine then some (.str (a ++ b)) else none
  | _, _ => none
def subD : D → D → Option D
  | .int a, .int b => some (.int (a - b))
  | _, _ => none
def mulD : D → D → Option D
  | .int a, .int b => if fit a && fit b then some (.int (a * b)) else none
  | .list a, .int k => if -(2 ^ 63) ≤ k ∧ k < 2 ^ 63 ∧ a.length * k.toNat ≤ sizeLine then some (.list (List.replicate k.toNat a).flatten) else none
  | _, _ => none
def fdivD : D → D → Option D
  | .int a, .int b => if 0 < b ∧ b.natAbs.log2 < 9000 then some (.int (a / b)) else if b < 0 ∧ b.natAbs < 1073741824 then some (.int (a.fdiv b)) else none
  | _, _ => none
def modD : D → D → Option D
  | .int a, .int b => if 0 < b then some (.int (a % b)) else none
  | _, _ => none
def powD : D → D → Option D
  | .int a, .int b => if 0 ≤ b ∧ b ≤ 1000000 ∧ a.natAbs < 2 ^ 64 then some (.int (a ^ b.toNat)) else none
  | _, _ => none
def shlD : D → D → Option D
  | .int a, .int b => if 0 ≤ b ∧ b ≤ 50000000 ∧ fit a = true then some (.int (a * 2 ^ b.toNat)) else none
  | _, _ => none
def shrD : D → D → Option D
  | .int a, .int b => if 0 ≤ b then some (.int (a / 2 ^ b.toNat)) else none
  | _, _ => none
def andD : D → D → Option D
  | .int a, .int b => some (.int (Builtin.bitAnd a b))
  | _, _ => none
def orD : D → D → Option D
  | .int a, .int b => some (.int (Builtin.bitOr a b))
  | _, _ => none
def xorD : D → D → Option D
  | .int a, .int b => some (.int (Builtin.bitXor a b))
  | _, _ => none
def ltD : D → D → Option D
  | .int a, .int b => some (.bool (decide (a < b)))
  | _, _ => none
def leD : D → D → Option D
  | .int a, .int b => some (.bool (decide (a ≤ b)))
  | _, _ => none
def gtD : D → D → Option D
  | .int a, .int b => some (.bool (decide (b < a)))
  | _, _ => none
def geD : D → D → Option D
  | .int a, .int b => some (.bool (decide (b ≤ a)))
  | _, _ => none
def eqD (d e : D) : Option D := if SeqAt.shaped d && SeqAt.shaped e then some (.bool (PyData.eqv d e)) else none
def neD (d e : D) : Option D := if SeqAt.shaped d && SeqAt.shaped e then some (.bool (!PyData.eqv d e)) else none
def isNone : D → Bool
  | .none => true
  | _ => false
def isD : D → D → Option D
  | d, .none => some (.bool (isNone d))
  | .bool a, .bool b => some (.bool (decide (a = b)))
  | _, _ => none
def isntD : D → D → Option D
  | d, .none => some (.bool (!isNone d))
  | .bool a, .bool b => some (.bool (!decide (a = b)))
  | _, _ => none
def negD : D → Option D
  | .int a => some (.int (-a))
  | _ => none
def seqD : D → Option (List D)
  | .list xs => some xs
  | .tuple xs => some xs
  | _ => none
def idxD : D → D → Option D
  | .list xs, .int i => atI xs i
  | .tuple xs, .int i => atI xs i
  | .str z, .int i => if z.length ≤ sizeLine then (atI z.cps.toList i).map fun c => .str ⟨#[c]⟩ else none
  | _, _ => none
def absD : List D → Option D
  | [.int a] => some (.int (if a < 0 then -a else a))
  | _ => none
def maxD : List D → Option D
  | [.int a, .int b] => some (.int (if b > a then b else a))
  | [.tuple [.int a, .int b]] => some (.int (if b > a then b else a))
  | _ => none
def minD : List D → Option D
  | [.int a, .int b] => some (.int (if b < a then b else a))
  | _ => none
def intD : List D → Option D
  | [.int a] => some (.int a)
  | [.bool b] => some (.int (if b then 1 else 0))
  | _ => none
def lenD : List D → Option D
  | [.list xs] => some (.int xs.length)
  | [.tuple xs] => some (.int xs.length)
  | [.str z] => if z.length ≤ sizeLine then some (.int z.length) else none
  | _ => none
def listD : List D → Option D
  | [.list xs] => some (.list xs)
  | [.tuple xs] => some (.list xs)
  | _ => none
def tupleD : List D → Option D
  | [.list xs] => some (.tuple xs)
  | [.tuple xs] => some (.tuple xs)
  | _ => none
def bitsD : D → Option D
  | .int a => some (.int (Builtin.Int.intBits a))
  | _ => none
end SM
section
open SM
variable {X : Cx} {G : Gx}
/-! the rules, one for each sign -/
theorem fit_lt {i : Int} (h : fit i = true) : i.natAbs < 2 ^ (i.natAbs.log2 + 1) ∧ i.natAbs.log2 + 1 ≤ 50000000 := ⟨Nat.lt_log2_self, by have := of_decide_eq_true h; omega⟩
theorem fit_of {i : Int} {n : Nat} (h : i.natAbs < 2 ^ n) (hn : n ≤ 50000000) : fit i = true := by
  unfold fit
  refine decide_eq_true ?_
  by_cases e : i.natAbs = 0
  · rw [e, show Nat.log2 0 = 0 from rfl]; omega
  · have := (Nat.log2_lt e).mpr h
    omega
theorem lift2 {r : R2} {f : D → D → Option D} (h : ∀ (B : Addr → Prop) (L : List (V × D)) (C : List Root) (H : Hp) (x y : V) (d e z : D) (Q : VK), Wd G.K G.O L C H → Dt G.K B H x d → Dt G.K B H y e → (∀ f ∈ L, Dt G.K B H f.1 f.2) → f d e = some z → (∀ v H', Wd G.K G.O ((v, z) :: L) C H' → Q v H') → r x y H Q) : OpS G r f := by
  intro L C H x y d e z Q w hx hy hf q
  obtain ⟨B, w'⟩ := w
  exact h B L C H x y d e z Q ⟨B, w'⟩ (w'.ft _ hx) (w'.ft _ hy) w'.ft hf q
theorem opI_s {f : Int → Int → Int} {Cn : Int → Int → Prop} {g : D → D → Option D} (hi : ∀ d e z, g d e = some z → ∃ a b, d = .int a ∧ e = .int b ∧ Cn a b ∧ z = .int (f a b)) : OpS G (rI Cn fun i j => .int (f i j)) g := by
  intro L C H x y d e z Q w hx hy hf q
  obtain ⟨a, b, rfl, rfl, hc, rfl⟩ := hi d e z hf
  obtain ⟨_, h1⟩ := w.dt hx
  obtain ⟨_, h2⟩ := w.dt hy
  exact ⟨a, b, h1.int_inv, h2.int_inv, hc, q _ _ (w.fact fun _ _ => .int _)⟩
theorem opI0_s {f : Int → Int → Int} {g : D → D → Option D} (hi : ∀ d e z, g d e = some z → ∃ a b, d = .int a ∧ e = .int b ∧ z = .int (f a b)) : OpS G (rI0 fun i j => .int (f i j)) g := by
  intro L C H x y d e z Q w hx hy hf q
  obtain ⟨a, b, rfl, rfl, rfl⟩ := hi d e z hf
  obtain ⟨_, h1⟩ := w.dt hx
  obtain ⟨_, h2⟩ := w.dt hy
  exact ⟨a, b, h1.int_inv, h2.int_inv, q _ _ (w.fact fun _ _ => .int _)⟩
theorem opB0_s {f : Int → Int → Bool} {g : D → D → Option D} (hi : ∀ d e z, g d e = some z → ∃ a b, d = .int a ∧ e = .int b ∧ z = .bool (f a b)) : OpS G (rI0 fun i j => .bl (f i j)) g := by
  intro L C H x y d e z Q w hx hy hf q
  obtain ⟨a, b, rfl, rfl, rfl⟩ := hi d e z hf
  obtain ⟨_, h1⟩ := w.dt hx
  obtain ⟨_, h2⟩ := w.dt hy
  exact ⟨a, b, h1.int_inv, h2.int_inv, q _ _ (w.fact fun _ _ => .bl _)⟩
theorem os_sub : OpS G (rI0 fun i j => .int (i - j)) subD := opI0_s fun d e z h => by
  cases d <;> cases e <;> simp [subD] at h
  exact ⟨_, _, rfl, rfl, h.symm⟩
def rFdivU : R2 := fun x y H Q => rI CDivW (fun i j => V.int (i / j)) x y H Q ∨ rI CDivN (fun i j => V.int (i.fdiv j)) x y H Q
theorem op_fdivU : OpR X (binaryOp .FloorDiv) rFdivU := op_fdivW.or op_fdivN
theorem os_fdiv : OpS G rFdivU fdivD := by
  intro L C H x y d e z Q w hx hy hf q
  obtain ⟨_, h1⟩ := w.dt hx
  obtain ⟨_, h2⟩ := w.dt hy
  cases d <;> cases e <;> simp only [fdivD] at hf <;> (try cases hf)
  split at hf
  · next c =>
    cases hf
    exact .inl ⟨_, _, h1.int_inv, h2.int_inv, c, q _ _ (w.fact fun _ _ => .int _)⟩
  · split at hf
    · next c =>
      cases hf
      exact .inr ⟨_, _, h1.int_inv, h2.int_inv, ⟨by omega, c.2⟩, q _ _ (w.fact fun _ _ => .int _)⟩
    · cases hf
theorem os_mod : OpS G (rI (fun _ j => 0 < j) fun i j => .int (i % j)) modD := opI_s fun d e z h => by
  cases d <;> cases e <;> simp only [modD] at h <;> (try cases h)
  split at h
  · cases h; exact ⟨_, _, rfl, rfl, by assumption, rfl⟩
  · cases h
theorem os_pow : OpS G (rI CPow fun i j => .int (i ^ j.toNat)) powD := opI_s fun d e z h => by
  cases d <;> cases e <;> simp only [powD] at h <;> (try cases h)
  split at h
  · cases h; exact ⟨_, _, rfl, rfl, by assumption, rfl⟩
  · cases h
theorem os_shl : OpS G (rI CShl fun i j => .int (i * 2 ^ j.toNat)) shlD := opI_s fun d e z h => by
  cases d <;> cases e <;> simp only [shlD] at h <;> (try cases h)
  rename_i a b
  split at h
  · next c =>
    cases h
    obtain ⟨c1, c2, c3⟩ := c
    obtain ⟨k1, k2⟩ := fit_lt c3
    obtain ⟨n, rfl⟩ := Int.eq_ofNat_of_zero_le c1
    exact ⟨_, _, rfl, rfl, shl_ok k1 (by omega), rfl⟩
  · cases h
theorem os_shr : OpS G (rI (fun _ j => 0 ≤ j) fun i j => .int (i / 2 ^ j.toNat)) shrD := opI_s fun d e z h => by
  cases d <;> cases e <;> simp only [shrD] at h <;> (try cases h)
  split at h
  · cases h; exact ⟨_, _, rfl, rfl, by assumption, rfl⟩
  · cases h
theorem os_and : OpS G (rI0 fun i j => .int (Builtin.bitAnd i j)) andD := opI0_s fun d e z h => by
  cases d <;> cases e <;> simp [andD] at h
  exact ⟨_, _, rfl, rfl, h.symm⟩
theorem os_or : OpS G (rI0 fun i j => .int (Builtin.bitOr i j)) orD := opI0_s fun d e z h => by
  cases d <;> cases e <;> simp [orD] at h
  exact ⟨_, _, rfl, rfl, h.symm⟩
theorem os_xor : OpS G (rI0 fun i j => .int (Builtin.bitXor i j)) xorD := opI0_s fun d e z h => by
  cases d <;> cases e <;> simp [xorD] at h
  exact ⟨_, _, rfl, rfl, h.symm⟩
theorem os_lt : OpS G (rI0 fun i j => .bl (decide (i < j))) ltD := opB0_s fun d e z h => by
  cases d <;> cases e <;> simp [ltD] at h
  exact ⟨_, _, rfl, rfl, h.symm⟩
theorem os_le : OpS G (rI0 fun i j => .bl (decide (i ≤ j))) leD := opB0_s fun d e z h => by
  cases d <;> cases e <;> simp [leD] at h
  exact ⟨_, _, rfl, rfl, h.symm⟩
theorem os_gt : OpS G (rI0 fun i j => .bl (decide (j < i))) gtD := opB0_s fun d e z h => by
  cases d <;> cases e <;> simp [gtD] at h
  exact ⟨_, _, rfl, rfl, h.symm⟩
theorem os_ge : OpS G (rI0 fun i j => .bl (decide (j ≤ i))) geD := opB0_s fun d e z h => by
  cases d <;> cases e <;> simp [geD] at h
  exact ⟨_, _, rfl, rfl, h.symm⟩
theorem os_eq : OpS G (rEqD G.K) eqD := by
  intro L C H x y d e z Q w hx hy hf q
  obtain ⟨B, h1⟩ := w.dt hx
  obtain ⟨B2, h2⟩ := w.dt hy
  unfold eqD at hf
  split at hf
  · next c =>
    cases hf
    rw [Bool.and_eq_true] at c
    exact ⟨d, e, Dt.dp _ _ (SeqAt.canLay_of_shaped c.1) h1, Dt.dp _ _ (SeqAt.canLay_of_shaped c.2) h2, c.1, c.2, q _ _ (w.fact fun _ _ => .bl _)⟩
  · cases hf
theorem os_ne : OpS G (rNeD G.K) neD := by
  intro L C H x y d e z Q w hx hy hf q
  obtain ⟨B, h1⟩ := w.dt hx
  obtain ⟨B2, h2⟩ := w.dt hy
  unfold neD at hf
  split at hf
  · next c =>
    cases hf
    rw [Bool.and_eq_true] at c
    exact ⟨d, e, Dt.dp _ _ (SeqAt.canLay_of_shaped c.1) h1, Dt.dp _ _ (SeqAt.canLay_of_shaped c.2) h2, c.1, c.2, q _ _ (w.fact fun _ _ => .bl _)⟩
  · cases hf
theorem non_iff {K : PySem.W.Frag} {B : Addr → Prop} {H : Hp} {v : V} {d : D} (h : Dt K B H v d) : decide (v = .non) = isNone d := by
  cases h <;> first | rfl | exact decide_eq_false (fun z => by cases z)
def rIs : R2 := fun x y H Q => (y = .non ∧ Q (.bl (decide (x = .non))) H) ∨ rIsB x y H Q
def rIsnt : R2 := fun x y H Q => (y = .non ∧ Q (.bl (!decide (x = .non))) H) ∨ rNotB x y H Q
theorem op_isU : OpR X (compareOp .Is) rIs := op_isN.or op_isBl
theorem op_isntU : OpR X (compareOp .IsNot) rIsnt := op_notN.or op_notBl
theorem os_is : OpS G rIs isD := by
  intro L C H x y d e z Q w hx hy hf q
  obtain ⟨B, h1⟩ := w.dt hx
  obtain ⟨B2, h2⟩ := w.dt hy
  cases e with
  | none =>
    simp only [isD] at hf
    cases hf
    refine .inl ⟨h2.non_inv, ?_⟩
    rw [non_iff h1]
    exact q _ _ (w.fact fun _ _ => .bl _)
  | bool b =>
    cases d <;> simp only [isD] at hf <;> (try cases hf)
    exact .inr ⟨_, _, h1.bl_inv, h2.bl_inv, q _ _ (w.fact fun _ _ => .bl _)⟩
  | _ => cases d <;> cases hf
theorem os_isnt : OpS G rIsnt isntD := by
  intro L C H x y d e z Q w hx hy hf q
  obtain ⟨B, h1⟩ := w.dt hx
  obtain ⟨B2, h2⟩ := w.dt hy
  cases e with
  | none =>
    simp only [isntD] at hf
    cases hf
    refine .inl ⟨h2.non_inv, ?_⟩
    rw [non_iff h1]
    exact q _ _ (w.fact fun _ _ => .bl _)
  | bool b =>
    cases d <;> simp only [isntD] at hf <;> (try cases hf)
    exact .inr ⟨_, _, h1.bl_inv, h2.bl_inv, q _ _ (w.fact fun _ _ => .bl _)⟩
  | _ => cases d <;> cases hf
theorem us_neg : UnS G (rU fun i => .int (-i)) negD := by
  intro L C H x d z Q w hx hf q
  obtain ⟨B, h1⟩ := w.dt hx
  cases d <;> simp only [negD] at hf <;> (try cases hf)
  exact ⟨_, h1.int_inv, q _ _ (w.fact fun _ _ => .int _)⟩
theorem atI_dt {K : PySem.W.Frag} {B : Addr → Prop} {H : Hp} {vs : List V} {ds : List D} {i : Int} {d : D} (h : DtAll K B H vs ds) (e : atI ds i = some d) : ∃ v, atI vs i = some v ∧ Dt K B H v d := by
  unfold atI at e ⊢
  rw [h.len]
  cases hj : ixN ds.length i with
  | none => rw [hj] at e; cases e
  | some j =>
    rw [hj] at e
    exact h.get e
theorem os_idx : OpS G (rIx G.K) idxD := by
  intro L C H x y d e z Q w hx hy hf q
  obtain ⟨B, wb⟩ := w
  have h1 := wb.ft _ hx
  have h2 := wb.ft _ hy
  cases d <;> cases e <;> simp only [idxD] at hf <;> (try cases hf)
  · split at hf
    · rename_i x' i' c
      cases ha : atI x'.cps.toList i' with
      | none => rw [ha] at hf; cases hf
      | some k =>
        rw [ha] at hf
        cases hf
        exact .inr (.inr ⟨_, _, k, h1.str_inv, h2.int_inv, c, ha, q _ _ ⟨B, wb.fact (.str _)⟩⟩)
    · cases hf
  · obtain ⟨p, xs, rfl, hl, ha⟩ := Dt.lst_inv h1
    obtain ⟨v, hv, hd⟩ := atI_dt ha hf
    exact .inl ⟨p, xs, _, v, rfl, h2.int_inv, hl.sq, hv, q v H ⟨B, wb.fact hd⟩⟩
  · obtain ⟨p, xs, rfl, hl, ha⟩ := Dt.tup_inv h1
    obtain ⟨v, hv, hd⟩ := atI_dt ha hf
    exact .inr (.inl ⟨p, xs, _, v, rfl, h2.int_inv, hl.sq, hv, q v H ⟨B, wb.fact hd⟩⟩)
/-! + and * of ints, lists, texts -/
section
open PySem.Spec PyProof.Rows
def rCatR (K : PySem.W.Frag) : R2 := fun x y H Q => ∃ l b us zs, x = .ref l ∧ y = .ref b ∧ SqL K H l us ∧ SqL K H b zs ∧ us.length + zs.length ≤ sizeLine ∧ ∀ p, H p = none → Q (.ref p) (upd H p (.lst (us ++ zs)))
theorem op_catR {X : Cx} : OpR X (binaryOp .Add) (rCatR X.K) := by
  intro pins sh sg H x y v u Q I rx ry hyp
  obtain ⟨l, b, us, zs, rfl, rfl, hl, hb, hz, q⟩ := hyp
  cases rx
  cases ry
  obtain ⟨i1, r1, p1, _⟩ := I.list hl
  obtain ⟨i2, r2, p2, _⟩ := I.list hb
  have n1 := r1.length
  have n2 := r2.length
  obtain ⟨⟨c1, d1, t1, s1⟩, g1, e1, m1, f1⟩ := p1.isList
  obtain ⟨⟨c2, d2, t2, s2⟩, g2, e2, m2, f2⟩ := p2.isList
  simp only at e1 f1 e2 f2
  subst e1 f1 e2 f2
  refine concat_meets ⟨_, g1, rfl⟩ ⟨_, g2, rfl⟩ noFill_list_add seq_list_add PySem.F.slot_list_add PySem.F.entry_list_add (PySem.F.args_list_add_2 _ _)
    (list_addW l b i1.toArray i2.toArray m1 m2 d1 d2 s1 s2 (by simp only [List.size_toArray]; omega)) ⟨g1, g2, ?_⟩
  rw [show i1.toArray ++ i2.toArray = (i1 ++ i2).toArray by simp]
  exact ⟨.ref _, _, I.lnew (t' := sh.toks) (r1.append r2) (by rw [List.length_append]; exact hz), rfl, q _ I.fresh⟩
end
def rAddU (K : PySem.W.Frag) : R2 := fun x y H Q => (rI0 (fun i j => V.int (i + j)) x y H Q) ∨ (rCatR K x y H Q ∨ (rCatT K x y H Q ∨ (∃ i j, x = .str i ∧ y = .str j ∧ i.length + j.length ≤ sizeLine ∧ Q (.str (i ++ j)) H)))
theorem op_addU : OpR X (binaryOp .Add) (rAddU X.K) := op_add.or (op_catR.or (op_catT.or op_add_str))
theorem os_add : OpS G (rAddU G.K) addD := by
  intro L C H x y d e z Q w hx hy hf q
  obtain ⟨B, wb⟩ := w
  have h1 := wb.ft _ hx
  have h2 := wb.ft _ hy
  cases d <;> cases e <;> simp only [addD] at hf <;> (try cases hf)
  · exact .inl ⟨_, _, h1.int_inv, h2.int_inv, q _ _ ⟨B, wb.fact (.int _)⟩⟩
  · split at hf
    · cases hf
      exact .inr (.inr (.inr ⟨_, _, h1.str_inv, h2.str_inv, by assumption, q _ _ ⟨B, wb.fact (.str _)⟩⟩))
    · cases hf
  · split at hf
    · cases hf
      obtain ⟨p, xs, rfl, hl, ha⟩ := Dt.lst_inv h1
      obtain ⟨p2, ys, rfl, hl2, ha2⟩ := Dt.lst_inv h2
      exact .inr (.inl ⟨p, p2, xs, ys, rfl, rfl, hl.sq, hl2.sq, by rw [ha.len, ha2.len]; assumption, fun r hr => q _ _ (wb.lstD hr (ha.app ha2))⟩)
    · cases hf
  · split at hf
    · next c =>
      cases hf
      obtain ⟨p, xs, rfl, hl, ha⟩ := Dt.tup_inv h1
      obtain ⟨p2, ys, rfl, hl2, ha2⟩ := Dt.tup_inv h2
      have e1 : xs ≠ [] := fun z => c.1 (by subst z; cases ha; rfl)
      have e2 : ys ≠ [] := fun z => c.2.1 (by subst z; cases ha2; rfl)
      exact .inr (.inr (.inl ⟨p, p2, xs, ys, rfl, rfl, hl.sq, hl2.sq, e1, by rw [ha.len, ha2.len]; exact c.2.2, fun z => absurd z e2, fun _ r hr => q _ _ (wb.tupD hr (ha.app ha2))⟩))
    · cases hf
  · obtain ⟨p, xs, ds, rfl, rfl, hl, ha⟩ := Dt.scr_inv h1
    obtain ⟨p2, ys, rfl, hl2, ha2⟩ := Dt.lst_inv h2
    simp only at hf
    split at hf
    · cases hf
      exact .inr (.inl ⟨p, p2, xs, ys, rfl, rfl, hl, hl2.sq, by rw [ha.len, ha2.len]; assumption, fun r hr => q _ _ (wb.lstD hr (ha.app ha2))⟩)
    · cases hf
def rMulU : R2 := fun x y H Q => rI CMulX (fun i j => V.int (i * j)) x y H Q ∨ rRep x y H Q
theorem op_mulU : OpR X (binaryOp .Mult) rMulU := op_mulX.or op_rep
theorem os_mul : OpS G rMulU mulD := by
  intro L C H x y d e z Q w hx hy hf q
  obtain ⟨B, wb⟩ := w
  have h1 := wb.ft _ hx
  have h2 := wb.ft _ hy
  cases d <;> cases e <;> simp only [mulD] at hf <;> (try cases hf)
  · split at hf
    · next c =>
      cases hf
      rw [Bool.and_eq_true] at c
      obtain ⟨k1, k2⟩ := fit_lt c.1
      obtain ⟨k3, k4⟩ := fit_lt c.2
      exact .inl ⟨_, _, h1.int_inv, h2.int_inv, mulx_ok k1 k3 (by omega), q _ _ ⟨B, wb.fact (.int _)⟩⟩
    · cases hf
  · split at hf
    · next c =>
      cases hf
      obtain ⟨p, xs, rfl, hl, ha⟩ := Dt.lst_inv h1
      exact .inr ⟨p, _, xs, rfl, h2.int_inv, hl.2, c.1, c.2.1, by rw [ha.len]; exact c.2.2, fun r hr => q _ _ (wb.lstD hr (DtAll.flat _ ha))⟩
    · cases hf
end
/-! ### max of a tuple of two ints -/
section
open PySem.Spec PyProof.Rows
theorem cr_maxT2 {X : Cx} (hc : X.calm = true) : CallR X (.builtin "max") (fun vs H Q => ∃ (a : Addr) (i j : Int), vs = [.ref a] ∧ SqT X.K H a [.int i, .int j] ∧ Q (.int (if j > i then j else i)) H) := by
  intro pins sh sg H xs us Q I r hyp
  obtain ⟨l, i, j, rfl, hl, q⟩ := hyp
  rw [Vals.ref1 r]
  obtain ⟨its, rv, hT, _⟩ := I.tuple hl
  obtain ⟨u, w', rfl, ⟨t, rfl⟩, ⟨t', rfl⟩⟩ := vals2 rv
  have hT2 : sh.heap.IsTuple l (intItems #[(i, t), (j, t')]) := by
    obtain ⟨o, h1, h2, n, h3⟩ := hT
    exact ⟨o, h1, h2, n, by simpa [intItems] using h3⟩
  have hlt : l < sh.heap.objs.size := by obtain ⟨_, e, _⟩ := hT; exact Heap.lt_size e
  refine call_max_walk (wpAny_pyIter_tuple hT2 ?_)
  refine ⟨_, [_, l], [_], _, _, _, _, rfl, Walks.tuple (A := X.A.in1) (I.ok.hd hc) _ l (Nat.ne_of_lt hlt) (intItems #[(i, t), (j, t')]),
    ⟨⟨_, Heap.get?_push_size _ rfl, rfl, rfl⟩, hT2.push _⟩, fun z hz => ?_, by simp [intItems], CmpOf.ints_gt (numAt #[(i, t), (j, t')]) (fun _ _ => intItems_at), fun v h' tk hP hk => ?_⟩
  · show z < (sh.heap.push _).objs.size
    rw [Heap.size_push]
    rcases List.mem_cons.mp hz with rfl | hz
    · exact Nat.lt_succ_self _
    · rcases List.mem_cons.mp hz with rfl | hz
      · exact Nat.lt_succ_of_lt hlt
      · cases hz
  · have hold : ∀ z o, sh.heap.get? z = some o → h'.get? z = some o := fun z o e => by
      refine hk z o (fun hm => ?_) (Heap.get?_push_of_some _ e)
      rcases List.mem_cons.mp hm with e1 | hm
      · have := Heap.lt_size e; rw [e1] at this; exact Nat.lt_irrefl _ this
      · cases hm
    refine ⟨.int (if j > i then j else i), H, I.kept hold, ?_, q⟩
    have hP' : (intItems #[(i, t), (j, t')])[argBest (fun a b => decide (numAt #[(i, t), (j, t')] a > numAt #[(i, t), (j, t')] b)) 1]? = some v := by
      have hsz2 : (intItems #[(i, t), (j, t')]).size - 1 = 1 := by simp [intItems]
      rw [← hsz2]; exact hP
    by_cases hba : j > i
    · have e : argBest (fun a b => decide (numAt #[(i, t), (j, t')] a > numAt #[(i, t), (j, t')] b)) 1 = 1 := by simp [argBest, numAt, hba]
      rw [e] at hP'
      rw [if_pos hba]
      have : v = .int j t' := by simpa [intItems] using hP'.symm
      exact ⟨t', this⟩
    · have e : argBest (fun a b => decide (numAt #[(i, t), (j, t')] a > numAt #[(i, t), (j, t')] b)) 1 = 0 := by simp [argBest, numAt, hba]
      rw [e] at hP'
      rw [if_neg hba]
      have : v = .int i t := by simpa [intItems] using hP'.symm
      exact ⟨t, this⟩
end
/-! ### built-ins on data -/
namespace SM
variable {μ : Type}
def cutD {α : Type} (xs : List α) (lo hi : Option Int) : List α := (xs.drop (HT.sIx xs.length 0 lo)).take (HT.sIx xs.length xs.length hi - HT.sIx xs.length 0 lo)
def optI : Option D → Option (Option Int)
  | none => some none
  | some (.int i) => some (some i)
  | some _ => none
def sliD (d : D) (lo hi : Option Int) : Option D := match d with
  | .list xs => some (.list (cutD xs lo hi))
  | .dict [(.none, .list xs)] => some (.list (cutD xs lo hi))
  | .tuple xs => if HT.sIx xs.length 0 lo = 0 ∧ HT.sIx xs.length xs.length hi = xs.length then none else some (.tuple (cutD xs lo hi))
  | _ => none
def part0 : SM μ (Option Int) := pu none
def intO : D → Option (Option Int)
  | .int i => some (some i)
  | _ => none
def part (E : SM μ D) : SM μ (Option Int) := bd E fun x => of (intO x)
def slice (E : SM μ D) (P1 P2 : SM μ (Option Int)) : SM μ D := bd E fun x => bd P1 fun l => bd P2 fun h => of (sliD x l h)
def revD : D → Option D
  | .list xs => some (.list xs.reverse)
  | _ => none
def flatD : D → Bool
  | .none => true
  | .bool _ => true
  | .int _ => true
  | .str _ => true
  | _ => false
def eqF : D → D → Bool
  | .none, .none => true
  | .bool a, .bool b => a == b
  | .bool a, .int b => (if a then 1 else 0) == b
  | .int a, .bool b => a == (if b then 1 else 0)
  | .int a, .int b => a == b
  | .str a, .str b => a == b
  | _, _ => false
def inL (x : D) (xs : List D) : Bool := xs.any fun y => eqF y x
def inD (neg : Bool) (x s : D) : Option D := match seqD s with
  | some xs => if flatD x && xs.all flatD then some (.bool (if neg then !inL x xs else inL x xs)) else none
  | none => none
def tyN : D → String
  | .none => "NoneType"
  | .bool _ => "bool"
  | .int _ => "int"
  | .str _ => "str"
  | .list _ => "list"
  | .tuple _ => "tuple"
  | .dict _ => "list"
def isiD (n : String) (d : D) : Option D := (kitB (tyN d) n).map .bool
def rgD (a b : Int) : D := .list ((List.range (b - a).toNat).map fun i => .int (a + (i : Nat)))
def lrg : List D → Option D
  | [.int b] => if -(2 ^ 62) ≤ b ∧ b < 2 ^ 62 ∧ b.toNat ≤ 2 ^ 24 then some (rgD 0 b) else none
  | [.int a, .int b] => if -(2 ^ 62) ≤ a ∧ a < 2 ^ 62 ∧ -(2 ^ 62) ≤ b ∧ b < 2 ^ 62 ∧ (b - a).toNat ≤ 2 ^ 24 then some (rgD a b) else none
  | _ => none
def intsD : List D → Option (List Int)
  | [] => some []
  | .int i :: r => (intsD r).map (i :: ·)
  | _ => none
def boolsD : List D → Option (List Bool)
  | [] => some []
  | .bool i :: r => (boolsD r).map (i :: ·)
  | _ => none
def sumD : List D → Option D
  | [.list xs] => (intsD xs).map fun ns => .int ns.sum
  | _ => none
def anyD : List D → Option D
  | [.list xs] => (boolsD xs).map fun ns => .bool (ns.any id)
  | _ => none
def allD : List D → Option D
  | [.list xs] => (boolsD xs).map fun ns => .bool (ns.all id)
  | _ => none
end SM
section
open SM
variable {X : Cx} {μ : Type} {G : Gx} {σ : St} {L : List (V × D)} {C : μ → List Root} {te ta tb tc : TE} {tt tu : TT} {E E1 E2 E3 : SM μ D} {T T1 T2 : SM μ Bool}
theorem cutV_dt {K : PySem.W.Frag} {B : Addr → Prop} {H : Hp} {vs : List V} {ds : List D} (lo hi : Option Int) (h : DtAll K B H vs ds) : DtAll K B H (cutV vs lo hi) (cutD ds lo hi) := by
  unfold cutV cutD
  rw [h.len]
  exact (h.drop _).take _
def PV (to : TO) (σ : St) (L : List (V × D)) (C : μ → List Root) (G : Gx) (E : SM μ (Option Int)) : Prop :=
  ∀ m F L' H (Q : Option Int → Hp → Prop), (∀ f ∈ L, f ∈ L') → Wd G.K G.O L' (C m ++ F) H →
    (∀ x m' H', E m = .ok x m' → Wd G.K G.O L' (C m' ++ F) H' → Q x H') → Bk G C F L' (E m) → to σ H Q
theorem pv_none : PV tNoPart σ L C G (part0 : SM μ _) := fun m F L' H Q s w q _ => q none m H rfl w
theorem pv_some (h1 : EV G te σ L C E) : PV (tPart te) σ L C G (part E) := by
  intro m F L' H Q s w q b
  refine h1 m F L' H _ s w (fun x m1 v H1 e1 w1 => ?_) b.fst
  have b1 := b.snd e1
  cases x with
  | int i =>
    obtain ⟨B, hd⟩ := w1.dt (.head _)
    refine ⟨i, hd.int_inv, q (some i) m1 H1 ?_ (w1.sub fun f hf => .tail _ hf)⟩
    show bd E _ m = _
    rw [bd_ok e1]; rfl
  | _ => exact absurd rfl b1.2
def rSlU (K : PySem.W.Frag) : V → Option Int → Option Int → Hp → VK → Prop := fun x lo hi H Q => rSlL K x lo hi H Q ∨ rSlT K x lo hi H Q
theorem sl_u : SlR X (rSlU X.K) := sl_list.or sl_tup
theorem ev_slice {tl th : TO} {P1 P2 : SM μ (Option Int)} (h : EV G te σ L C E) (h1 : PV tl σ L C G P1) (h2 : PV th σ L C G P2) : EV G (tSl (rSlU G.K) te tl th) σ L C (slice E P1 P2) := by
  intro m F L' H Q s w q b
  refine h m F L' H _ s w (fun x m1 v H1 e1 w1 => ?_) b.fst
  have b1 := b.snd e1
  refine h1 m1 F ((v, x) :: L') H1 _ (fun f hf => .tail _ (s f hf)) w1 (fun lo m2 H2 e2 w2 => ?_) (b1.fst.mono fun f hf => .tail _ hf)
  have b2 := b1.snd e2
  refine h2 m2 F ((v, x) :: L') H2 _ (fun f hf => .tail _ (s f hf)) w2 (fun hi m3 H3 e3 w3 => ?_) (b2.fst.mono fun f hf => .tail _ hf)
  have b3 := b2.snd e3
  have er : slice E P1 P2 m = of (sliD x lo hi) m3 := by
    show bd E _ m = _
    rw [bd_ok e1, bd_ok e2, bd_ok e3]
  obtain ⟨B, wb⟩ := w3
  have hx := wb.ft _ (.head _)
  have fin : ∀ {z : D} {v' : V} {H' : Hp}, sliD x lo hi = some z → Wd G.K G.O ((v', z) :: (v, x) :: L') (C m3 ++ F) H' → Q v' H' := fun {z v' H'} ez w' => by
    rw [ez] at er
    exact q z m3 v' H' er (w'.sub fun f hf => by
      rcases List.mem_cons.mp hf with e | e
      · rw [e]; exact .head _
      · exact .tail _ (.tail _ e))
  have nb : sliD x lo hi ≠ none := fun z => by rw [z] at b3; exact b3.2 rfl
  cases x with
  | list xs =>
    obtain ⟨p, vs, rfl, hl, ha⟩ := Dt.lst_inv hx
    exact .inl ⟨p, vs, rfl, hl.sq, fun r hr => fin rfl (wb.lstD hr (cutV_dt lo hi ha))⟩
  | tuple xs =>
    obtain ⟨p, vs, rfl, hl, ha⟩ := Dt.tup_inv hx
    simp only [sliD] at nb
    split at nb
    · exact absurd rfl nb
    · next c =>
      exact .inr ⟨p, vs, rfl, hl.sq, by rw [ha.len]; exact c, fun r hr => fin (by simp only [sliD]; rw [if_neg c]) (wb.tupD hr (cutV_dt lo hi ha))⟩
  | dict kvs =>
    obtain ⟨p, vs, ds, rfl, rfl, hl, ha⟩ := Dt.scr_inv hx
    exact .inl ⟨p, vs, rfl, hl, fun r hr => fin rfl (wb.lstD hr (cutV_dt lo hi ha))⟩
  | _ => exact absurd rfl nb
theorem ev_rev (h : EV G te σ L C E) : EV G (tRevL G.K te) σ L C (op1 revD E) := by
  refine ev_un (r := fun x H Q => ∃ a xs, x = .ref a ∧ SqL G.K H a xs ∧ ∀ p, H p = none → Q (.ref p) (upd H p (.lst xs.reverse))) ?_ h
  intro L C H x d z Q w hx hf q
  obtain ⟨B, wb⟩ := w
  have h1 := wb.ft _ hx
  cases d <;> simp only [revD] at hf <;> (try cases hf)
  obtain ⟨p, vs, rfl, hl, ha⟩ := Dt.lst_inv h1
  exact ⟨p, vs, rfl, hl.sq, fun r hr => q _ _ (wb.lstD hr ha.rev)⟩
theorem flat_dt {K : PySem.W.Frag} {B : Addr → Prop} {H : Hp} {v : V} {d : D} (h : Dt K B H v d) : flatV v = flatD d := by cases h <;> rfl
theorem flats_dt {K : PySem.W.Frag} {B : Addr → Prop} {H : Hp} : ∀ {vs : List V} {ds : List D}, DtAll K B H vs ds → vs.all flatV = ds.all flatD
  | [], _, h => by cases h; rfl
  | v :: vs, _, h => by
    cases h with
    | cons a b => rw [List.all_cons, List.all_cons, flat_dt a, flats_dt b]
theorem eqF_dt {K : PySem.W.Frag} {B : Addr → Prop} {H : Hp} {v u : V} {d e : D} (h : Dt K B H v d) (g : Dt K B H u e) : eqV v u = eqF d e := by cases h <;> cases g <;> rfl
theorem inL_dt {K : PySem.W.Frag} {B : Addr → Prop} {H : Hp} {v : V} {d : D} (g : Dt K B H v d) : ∀ {vs : List V} {ds : List D}, DtAll K B H vs ds → inV v vs = inL d ds
  | [], _, h => by cases h; rfl
  | x :: vs, _, h => by
    cases h with
    | cons a b =>
      show (eqV x v || inV v vs) = (eqF _ d || inL d _)
      rw [eqF_dt a g, inL_dt g b]
theorem os_in {neg : Bool} : OpS G (rIn G.K neg) (inD neg) := by
  intro L C H x y d e z Q w hx hy hf q
  obtain ⟨B, wb⟩ := w
  have h1 := wb.ft _ hx
  have h2 := wb.ft _ hy
  cases e <;> simp only [inD, seqD] at hf <;> (try cases hf)
  · split at hf
    · next c =>
      rw [Bool.and_eq_true] at c
      cases hf
      obtain ⟨p, vs, rfl, hl, ha⟩ := Dt.lst_inv h2
      refine ⟨p, vs, rfl, .inl hl.sq, by rw [flat_dt h1]; exact c.1, by rw [flats_dt ha]; exact c.2, ?_⟩
      rw [inL_dt h1 ha]
      exact q _ _ ⟨B, wb.fact (.bl _)⟩
    · cases hf
  · split at hf
    · next c =>
      rw [Bool.and_eq_true] at c
      cases hf
      obtain ⟨p, vs, rfl, hl, ha⟩ := Dt.tup_inv h2
      refine ⟨p, vs, rfl, .inr hl.sq, by rw [flat_dt h1]; exact c.1, by rw [flats_dt ha]; exact c.2, ?_⟩
      rw [inL_dt h1 ha]
      exact q _ _ ⟨B, wb.fact (.bl _)⟩
    · cases hf
/-! isinstance -/
theorem tyx_of {K : PySem.W.Frag} {B : Addr → Prop} {H : Hp} {v : V} {d : D} (h : Dt K B H v d) : TyX K H v (.type (tyN d)) := by
  cases h with
  | non => exact .base .non
  | bl z => exact .base (.bl z)
  | int i => exact .base (.int i)
  | str x => exact .base (.str x)
  | lst a b => exact .base (.lst a.2)
  | tup a b =>
    rcases a with ⟨_, a | ⟨o, a⟩⟩ | ⟨o, its, n, a, c, _⟩
    · exact .base (.tup a)
    · exact .fTuple a
    · exact .kTuple a c
  | scr a c =>
    rcases a with ⟨_, a | ⟨o, a⟩⟩ | ⟨o, its, n, a, c, _⟩
    · exact .base (.lst a)
    · exact .base (.frz a)
    · exact .kList a c
theorem ev_isi {n : String} (h : EV G te σ L C E) : EV G (tCB (rIsi G.K) (tCons te (tCons (tC (.ty n)) tNil))) σ L C (op1 (isiD n) E) := by
  refine ev_un (r := fun x H Q => rIsi G.K [x, .ty n] H Q) ?_ h
  intro L C H x d z Q w hx hf q
  obtain ⟨B, wb⟩ := w
  have h1 := wb.ft _ hx
  unfold isiD at hf
  cases hk : kitB (tyN d) n with
  | none => rw [hk] at hf; cases hf
  | some b =>
    rw [hk] at hf
    cases hf
    exact ⟨x, _, _, _, b, rfl, .ty n, tyx_of h1, kit_ty hk, q _ _ ⟨B, wb.fact (.bl _)⟩⟩
/-! calls -/
theorem In2.one {L : List (V × D)} {xs : List V} {d : D} (h : In2 L xs [d]) : ∃ x, xs = [x] ∧ (x, d) ∈ L := by
  cases h with
  | cons a b => cases b; exact ⟨_, rfl, a⟩
theorem In2.two {L : List (V × D)} {xs : List V} {d e : D} (h : In2 L xs [d, e]) : ∃ x y, xs = [x, y] ∧ (x, d) ∈ L ∧ (y, e) ∈ L := by
  cases h with
  | cons a b => cases b with | cons c b => cases b; exact ⟨_, _, rfl, a, c⟩
theorem cs_abs : CallS G (fun xs H Q => ∃ i, xs = [.int i] ∧ Q (.int (if i < 0 then -i else i)) H) absD := by
  intro L C H xs ds z Q w i e q
  unfold absD at e
  split at e
  · cases e
    obtain ⟨x, rfl, hx⟩ := i.one
    obtain ⟨B, hd⟩ := w.dt hx
    exact ⟨_, by rw [hd.int_inv], q _ _ (w.fact fun _ _ => .int _)⟩
  · cases e
def rMaxU (K : PySem.W.Frag) : List V → Hp → VK → Prop := fun xs H Q => (∃ i j, xs = [.int i, .int j] ∧ Q (.int (if j > i then j else i)) H) ∨ (∃ (a : Addr) (i j : Int), xs = [.ref a] ∧ SqT K H a [.int i, .int j] ∧ Q (.int (if j > i then j else i)) H)
theorem CallR.or {f : Value} {r r' : List V → Hp → VK → Prop} (h : CallR X f r) (h' : CallR X f r') : CallR X f (fun xs H Q => r xs H Q ∨ r' xs H Q) := by
  intro pins s σ H xs us Q I rv q
  rcases q with q | q
  · exact h pins s σ H xs us Q I rv q
  · exact h' pins s σ H xs us Q I rv q
theorem call_maxU (hc : X.calm = true) : CallR X (.builtin "max") (rMaxU X.K) := CallR.or (call_max2 hc) (cr_maxT2 hc)
theorem cs_max : CallS G (rMaxU G.K) maxD := by
  intro L C H xs ds z Q w i e q
  unfold maxD at e
  split at e
  · cases e
    obtain ⟨x, y, rfl, hx, hy⟩ := i.two
    obtain ⟨B, hd⟩ := w.dt hx
    obtain ⟨B, hd2⟩ := w.dt hy
    exact .inl ⟨_, _, by rw [hd.int_inv, hd2.int_inv], q _ _ (w.fact fun _ _ => .int _)⟩
  · cases e
    obtain ⟨x, rfl, hx⟩ := i.one
    obtain ⟨B, hd⟩ := w.dt hx
    obtain ⟨p, vs, rfl, hl, ha⟩ := Dt.tup_inv hd
    cases ha with
    | cons a b =>
      cases b with
      | cons a2 b =>
        cases b
        rw [a.int_inv, a2.int_inv] at hl
        exact .inr ⟨p, _, _, rfl, hl.sq, q _ _ (w.fact fun _ _ => .int _)⟩
  · cases e
theorem cs_min : CallS G (fun xs H Q => ∃ i j, xs = [.int i, .int j] ∧ Q (.int (if j < i then j else i)) H) minD := by
  intro L C H xs ds z Q w i e q
  unfold minD at e
  split at e
  · cases e
    obtain ⟨x, y, rfl, hx, hy⟩ := i.two
    obtain ⟨B, hd⟩ := w.dt hx
    obtain ⟨B, hd2⟩ := w.dt hy
    exact ⟨_, _, by rw [hd.int_inv, hd2.int_inv], q _ _ (w.fact fun _ _ => .int _)⟩
  · cases e
theorem cs_int : CallS G (fun xs H Q => (∃ i, xs = [.int i] ∧ Q (.int i) H) ∨ ∃ k, xs = [.bl k] ∧ Q (.int (if k then 1 else 0)) H) intD := by
  intro L C H xs ds z Q w i e q
  unfold intD at e
  split at e
  · cases e
    obtain ⟨x, rfl, hx⟩ := i.one
    obtain ⟨B, hd⟩ := w.dt hx
    exact .inl ⟨_, by rw [hd.int_inv], q _ _ (w.fact fun _ _ => .int _)⟩
  · cases e
    obtain ⟨x, rfl, hx⟩ := i.one
    obtain ⟨B, hd⟩ := w.dt hx
    exact .inr ⟨_, by rw [hd.bl_inv], q _ _ (w.fact fun _ _ => .int _)⟩
  · cases e
theorem cs_len : CallS G (fun xs H Q => ∃ x n, xs = [x] ∧ LenV G.K x H n ∧ Q (.int n) H) lenD := by
  intro L C H xs ds z Q w i e q
  unfold lenD at e
  split at e
  · cases e
    obtain ⟨x, rfl, hx⟩ := i.one
    obtain ⟨B, hd⟩ := w.dt hx
    obtain ⟨p, vs, rfl, hl, ha⟩ := Dt.lst_inv hd
    refine ⟨_, _, rfl, .inl ⟨vs, hl.sq, rfl⟩, ?_⟩
    rw [ha.len]
    exact q _ _ (w.fact fun _ _ => .int _)
  · cases e
    obtain ⟨x, rfl, hx⟩ := i.one
    obtain ⟨B, hd⟩ := w.dt hx
    obtain ⟨p, vs, rfl, hl, ha⟩ := Dt.tup_inv hd
    refine ⟨_, _, rfl, .inr ⟨vs, hl.sq, rfl⟩, ?_⟩
    rw [ha.len]
    exact q _ _ (w.fact fun _ _ => .int _)
  · split at e
    · next c =>
      cases e
      obtain ⟨x, rfl, hx⟩ := i.one
      obtain ⟨B, hd⟩ := w.dt hx
      refine ⟨_, _, rfl, by rw [hd.str_inv]; exact ⟨c, rfl⟩, q _ _ (w.fact fun _ _ => .int _)⟩
    · cases e
  · cases e
theorem cs_list : CallS G (fun xs H Q => ∃ p ys, xs = [.ref p] ∧ (SqL G.K H p ys ∨ SqT G.K H p ys) ∧ ∀ l, H l = none → Q (.ref l) (upd H l (.lst ys))) listD := by
  intro L C H xs ds z Q w i e q
  obtain ⟨B, wb⟩ := w
  unfold listD at e
  split at e
  · cases e
    obtain ⟨x, rfl, hx⟩ := i.one
    obtain ⟨p, vs, rfl, hl, ha⟩ := Dt.lst_inv (wb.ft _ hx)
    exact ⟨_, _, rfl, .inl hl.sq, fun r hr => q _ _ (wb.lstD hr ha)⟩
  · cases e
    obtain ⟨x, rfl, hx⟩ := i.one
    obtain ⟨p, vs, rfl, hl, ha⟩ := Dt.tup_inv (wb.ft _ hx)
    exact ⟨_, _, rfl, .inr hl.sq, fun r hr => q _ _ (wb.lstD hr ha)⟩
  · cases e
theorem cs_tuple : CallS G (fun xs H Q => ∃ p ys, xs = [.ref p] ∧ ((SqL G.K H p ys ∧ ∀ l, H l = none → Q (.ref l) (upd H l (.tup ys))) ∨ (SqT G.K H p ys ∧ Q (.ref p) H))) tupleD := by
  intro L C H xs ds z Q w i e q
  obtain ⟨B, wb⟩ := w
  unfold tupleD at e
  split at e
  · cases e
    obtain ⟨x, rfl, hx⟩ := i.one
    obtain ⟨p, vs, rfl, hl, ha⟩ := Dt.lst_inv (wb.ft _ hx)
    exact ⟨_, _, rfl, .inl ⟨hl.sq, fun r hr => q _ _ (wb.tupD hr ha)⟩⟩
  · cases e
    obtain ⟨x, rfl, hx⟩ := i.one
    have hd := wb.ft _ hx
    obtain ⟨p, vs, rfl, hl, ha⟩ := Dt.tup_inv hd
    exact ⟨_, _, rfl, .inr ⟨hl.sq, q _ _ ⟨B, wb.fact hd⟩⟩⟩
  · cases e
theorem intsD_map : ∀ {ds : List D} {ns : List Int}, intsD ds = some ns → ds = ns.map .int
  | [], _, h => by cases h; rfl
  | d :: ds, ns, h => by
    cases d <;> simp only [intsD] at h <;> (try cases h)
    rename_i i
    cases e : intsD ds with
    | none => rw [e] at h; cases h
    | some r => rw [e] at h; cases h; rw [intsD_map e]; rfl
theorem boolsD_map : ∀ {ds : List D} {ns : List Bool}, boolsD ds = some ns → ds = ns.map .bool
  | [], _, h => by cases h; rfl
  | d :: ds, ns, h => by
    cases d <;> simp only [boolsD] at h <;> (try cases h)
    rename_i i
    cases e : boolsD ds with
    | none => rw [e] at h; cases h
    | some r => rw [e] at h; cases h; rw [boolsD_map e]; rfl
theorem DtAll.ints_inv {K : PySem.W.Frag} {B : Addr → Prop} {H : Hp} : ∀ {ns : List Int} {vs : List V}, DtAll K B H vs (ns.map PyData.int) → vs = ns.map V.int
  | [], _, h => by cases h; rfl
  | n :: ns, _, h => by
    cases h with
    | cons a b => rw [a.int_inv, DtAll.ints_inv b]; rfl
theorem DtAll.bools_inv {K : PySem.W.Frag} {B : Addr → Prop} {H : Hp} : ∀ {ns : List Bool} {vs : List V}, DtAll K B H vs (ns.map PyData.bool) → vs = ns.map V.bl
  | [], _, h => by cases h; rfl
  | n :: ns, _, h => by
    cases h with
    | cons a b => rw [a.bl_inv, DtAll.bools_inv b]; rfl
theorem cs_sum : CallS G (rSum G.K) sumD := by
  intro L C H xs ds z Q w i e q
  unfold sumD at e
  split at e
  · next zs =>
    obtain ⟨x, rfl, hx⟩ := i.one
    obtain ⟨B, hd⟩ := w.dt hx
    obtain ⟨p, vs, rfl, hl, ha⟩ := Dt.lst_inv hd
    cases en : intsD zs with
    | none => rw [en] at e; cases e
    | some ns =>
      rw [en] at e; cases e
      rw [intsD_map en] at ha
      rw [DtAll.ints_inv ha] at hl
      exact ⟨p, ns, rfl, hl.sq, q _ _ (w.fact fun _ _ => .int _)⟩
  · cases e
theorem cs_any : CallS G (rAny G.K) anyD := by
  intro L C H xs ds z Q w i e q
  unfold anyD at e
  split at e
  · next zs =>
    obtain ⟨x, rfl, hx⟩ := i.one
    obtain ⟨B, hd⟩ := w.dt hx
    obtain ⟨p, vs, rfl, hl, ha⟩ := Dt.lst_inv hd
    cases en : boolsD zs with
    | none => rw [en] at e; cases e
    | some ns =>
      rw [en] at e; cases e
      rw [boolsD_map en] at ha
      rw [DtAll.bools_inv ha] at hl
      exact ⟨p, ns, rfl, hl.sq, q _ _ (w.fact fun _ _ => .bl _)⟩
  · cases e
theorem cs_all : CallS G (rAll G.K) allD := by
  intro L C H xs ds z Q w i e q
  unfold allD at e
  split at e
  · next zs =>
    obtain ⟨x, rfl, hx⟩ := i.one
    obtain ⟨B, hd⟩ := w.dt hx
    obtain ⟨p, vs, rfl, hl, ha⟩ := Dt.lst_inv hd
    cases en : boolsD zs with
    | none => rw [en] at e; cases e
    | some ns =>
      rw [en] at e; cases e
      rw [boolsD_map en] at ha
      rw [DtAll.bools_inv ha] at hl
      exact ⟨p, ns, rfl, hl.sq, q _ _ (w.fact fun _ _ => .bl _)⟩
  · cases e
theorem ev_bits (h : EV G te σ L C E) : EV G (tBits te) σ L C (op1 bitsD E) := by
  refine ev_un (r := fun x H Q => ∃ i, x = .int i ∧ Q (.int (Builtin.Int.intBits i : Nat)) H) ?_ h
  intro L C H x d z Q w hx hf q
  obtain ⟨B, h1⟩ := w.dt hx
  cases d <;> simp only [bitsD] at hf <;> (try cases hf)
  exact ⟨_, h1.int_inv, q _ _ (w.fact fun _ _ => .int _)⟩
theorem rg_dt {K : PySem.W.Frag} {B : Addr → Prop} {H : Hp} (a : Int) : ∀ (l : List Nat), DtAll K B H (l.map fun i => V.int (a + (i : Nat))) (l.map fun i => PyData.int (a + (i : Nat)))
  | [] => .nil
  | n :: r => .cons (.int _) (rg_dt a r)
theorem ev_lrg1 (h : EV G te σ L C E) : EV G (tLstRg (tRg1 te)) σ L C (opL lrg (ac E a0)) := by
  intro m F L' H Q s w q b
  refine h m F L' H _ s w (fun x m1 v H1 e1 w1 => ?_) b.fst.fst
  have er : ac E a0 m = .ok [x] m1 := by
    show bd E _ m = _
    rw [bd_ok e1]; rfl
  have b1 := b.snd er
  obtain ⟨B, wb⟩ := w1
  cases x with
  | int n =>
    simp only [lrg] at b1
    split at b1
    · next c =>
      refine ⟨n, (wb.ft _ (.head _)).int_inv, ⟨by decide, by decide, c.1, c.2.1, by rw [Int.sub_zero]; exact c.2.2⟩, fun r hr => q (rgD 0 n) m1 _ _ ?_ ?_⟩
      · show bd (ac E a0) _ m = _
        rw [bd_ok er]
        simp only [lrg]; rw [if_pos c]; rfl
      · refine (wb.lstD hr (rg_dt 0 (List.range (n - 0).toNat))).sub fun f hf => ?_
        rcases List.mem_cons.mp hf with e | e
        · rw [e]; exact .head _
        · exact .tail _ (.tail _ e)
    · exact absurd rfl b1.2
  | _ => exact absurd rfl b1.2
theorem ev_lrg2 (h1 : EV G ta σ L C E1) (h2 : EV G tb σ L C E2) : EV G (tLstRg (tRg2 ta tb)) σ L C (opL lrg (ac E1 (ac E2 a0))) := by
  intro m F L' H Q s w q b
  refine h1 m F L' H _ s w (fun x m1 v H1 e1 w1 => ?_) b.fst.fst
  have b1 := b.fst.snd e1
  refine h2 m1 F ((v, x) :: L') H1 _ (fun f hf => .tail _ (s f hf)) w1 (fun y m2 u H2 e2 w2 => ?_) (b1.fst.fst.mono fun f hf => .tail _ hf)
  have er : ac E1 (ac E2 a0) m = .ok [x, y] m2 := by
    show bd E1 _ m = _
    rw [bd_ok e1]
    have e3 : ac E2 a0 m1 = .ok [y] m2 := by
      show bd E2 _ m1 = _
      rw [bd_ok e2]; rfl
    rw [bd_ok e3]; rfl
  have b2 := b.snd er
  obtain ⟨B, wb⟩ := w2
  cases x with
  | int n =>
    cases y with
    | int k =>
      simp only [lrg] at b2
      split at b2
      · next c =>
        refine ⟨n, k, (wb.ft _ (.tail _ (.head _))).int_inv, (wb.ft _ (.head _)).int_inv, c, fun r hr => q (rgD n k) m2 _ _ ?_ ?_⟩
        · show bd (ac E1 (ac E2 a0)) _ m = _
          rw [bd_ok er]
          simp only [lrg]; rw [if_pos c]; rfl
        · refine (wb.lstD hr (rg_dt n (List.range (k - n).toNat))).sub fun f hf => ?_
          rcases List.mem_cons.mp hf with e | e
          · rw [e]; exact .head _
          · exact .tail _ (.tail _ (.tail _ e))
      · exact absurd rfl b2.2
    | _ => exact absurd rfl b2.2
  | _ => exact absurd rfl b2.2
end
/-! ### statements -/
inductive Fl (τ ρ : Type) where
  | nx (s : τ)
  | rt (d : D)
  | bk (s : ρ)
  | ct (s : ρ)
/-- what the slots, the facts and the roots are like, by the names' data -/
abbrev Shp (μ τ : Type) := τ → St → List (V × D) → (μ → List Root) → Prop
namespace SM
variable {μ τ ρ ρ' : Type}
def sq (R : SM μ (Fl τ ρ)) (k : τ → SM μ (Fl ρ' ρ)) : SM μ (Fl ρ' ρ) := bd R fun o => match o with
  | .nx s => k s
  | .rt d => pu (.rt d)
  | .bk s => pu (.bk s)
  | .ct s => pu (.ct s)
def forS : List D → τ → (D → τ → SM μ (Fl τ τ)) → SM μ (Fl τ ρ)
  | [], s, _ => pu (.nx s)
  | x :: xs, s, b => bd (b x s) fun o => match o with
    | .nx s' => forS xs s' b
    | .ct s' => forS xs s' b
    | .bk s' => pu (.nx s')
    | .rt d => pu (.rt d)
def whileS : Nat → (τ → SM μ Bool) → (τ → SM μ (Fl τ τ)) → τ → SM μ (Fl τ ρ)
  | 0, _, _, _ => bad
  | n + 1, T, b, s => bd (T s) fun c => if c then bd (b s) fun o => match o with
    | .nx s' => whileS n T b s'
    | .ct s' => whileS n T b s'
    | .bk s' => pu (.nx s')
    | .rt d => pu (.rt d)
    else pu (.nx s)
/-- how often a while may turn -/
def fuel : Nat := 1099511627776
def lcS (T : D → SM μ Bool) (E : D → SM μ D) : List D → List D → SM μ (List D)
  | [], acc => pu acc
  | x :: xs, acc => bd (T x) fun c => if c then bd (E x) fun y => if acc.length < sizeLine then lcS T E xs (acc ++ [y]) else bad else lcS T E xs acc
def unp2 {β : Type} (d : D) (k : D → D → SM μ β) : SM μ β := match d with
  | .tuple [a, b] => k a b
  | _ => bad
def unp3 {β : Type} (d : D) (k : D → D → D → SM μ β) : SM μ β := match d with
  | .tuple [a, b, c] => k a b c
  | _ => bad
def unp4 {β : Type} (d : D) (k : D → D → D → D → SM μ β) : SM μ β := match d with
  | .tuple [a, b, c, e] => k a b c e
  | _ => bad
def unp5 {β : Type} (d : D) (k : D → D → D → D → D → SM μ β) : SM μ β := match d with
  | .tuple [a, b, c, e, f] => k a b c e f
  | _ => bad
def par2 {β : Type} (ds : List D) (k : D → D → SM μ β) : SM μ β := match ds with
  | [a, b] => k a b
  | _ => bad
def par3 {β : Type} (ds : List D) (k : D → D → D → SM μ β) : SM μ β := match ds with
  | [a, b, c] => k a b c
  | _ => bad
def appD : D → D → Option D
  | .list ds, x => if ds.length < sizeLine then some (.list (ds ++ [x])) else none
  | _, _ => none
def extD : D → D → Option D
  | .list ds, .list es => if ds.length + es.length ≤ sizeLine then some (.list (ds ++ es)) else none
  | _, _ => none
def setD : D → D → D → Option D
  | .list ds, .int i, x => match ixN ds.length i with
    | some j => some (.list (ds.set j x))
    | none => none
  | _, _, _ => none
def gets : SM μ μ := fun m => .ok m m
def puts (m : μ) : SM μ Unit := fun _ => .ok () m
/-- what a def comes to: its return, or None behind its last statement -/
def fin {ρ : Type} (R : SM μ (Fl Unit ρ)) : SM μ D := bd R fun o => match o with
  | .rt d => pu d
  | .nx _ => pu .none
  | _ => bad
end SM
section
variable {μ τ ρ : Type} (G : Gx)
def SV (Cp : μ → List Root) (ts : TS) (σ : St) (L : List (V × D)) (C : μ → List Root) (R : SM μ (Fl τ ρ)) (Jn : Shp μ τ) (Jl : Shp μ ρ) : Prop :=
  ∀ m F L' H (d : Ends), (∀ f ∈ L, f ∈ L') → Wd G.K G.O L' (C m ++ F) H →
    (∀ s m' σ' L2 C2 H', R m = .ok (.nx s) m' → Jn s σ' L2 C2 → Wd G.K G.O (L2 ++ L') (C2 m' ++ F) H' → d.nx σ' H') →
    (∀ s m' σ' L2 C2 H', R m = .ok (.bk s) m' → Jl s σ' L2 C2 → Wd G.K G.O (L2 ++ L') (C2 m' ++ F) H' → d.bk σ' H') →
    (∀ s m' σ' L2 C2 H', R m = .ok (.ct s) m' → Jl s σ' L2 C2 → Wd G.K G.O (L2 ++ L') (C2 m' ++ F) H' → d.ct σ' H') →
    (∀ x m' v H' L1 C1, R m = .ok (.rt x) m' → G.rf v x L1 C1 → Wd G.K G.O (L1 ++ L') (C1 ++ (Cp m' ++ F)) H' → d.rt v H') →
    Bk G Cp F L' (R m) → ts d σ H
/-- an iterator that gives these data -/
def ItOk (J : It) (xs : List D) (L0 : List (V × D)) : Prop := ∀ L C H, (∀ f ∈ L0, f ∈ L) → Wd G.K G.O L C H → ∀ i : Nat,
  (∀ x, xs[i]? = some x → J.go i H ∧ ∀ v H', J.yld i H v H' → Wd G.K G.O ((v, x) :: L) C H') ∧ (xs.length ≤ i → J.stop i H)
def IV (wi : TI) (σ : St) (L : List (V × D)) (C : μ → List Root) (E : SM μ (List D)) : Prop :=
  ∀ m F L' H (R : It → Hp → Prop), (∀ f ∈ L, f ∈ L') → Wd G.K G.O L' (C m ++ F) H →
    (∀ xs m' J H' L2, E m = .ok xs m' → (∀ f ∈ L', f ∈ L2) → Wd G.K G.O L2 (C m' ++ F) H' → ItOk G J xs L2 → R J H') → Bk G C F L' (E m) → wi σ H R
end
section
open SM
variable {X : Cx} {μ τ τ' ρ : Type} {G : Gx} {σ : St} {L : List (V × D)} {C Cp : μ → List Root} {te ta tb tc : TE} {tt tu : TT} {t u : TS} {E E1 E2 E3 : SM μ D} {T T1 T2 : SM μ Bool} {Jn : Shp μ τ} {Jl : Shp μ ρ} {i j : Nat}
theorem fps_sub {H : Hp} : ∀ {C C' : List Root}, C'.Sublist C → (fps C' H).Sublist (fps C H)
  | _, _, .slnil => .slnil
  | _, _, .cons a h => by rw [fps_cons]; exact (fps_sub h).trans (List.sublist_append_right _ _)
  | _, _, .cons₂ a h => by rw [fps_cons, fps_cons]; exact (List.Sublist.refl _).append (fps_sub h)
theorem Wd.subC {K : PySem.W.Frag} {O : Og} {L : List (V × D)} {C C' : List Root} {H : Hp} (w : Wd K O L C H) (h : C'.Sublist C) : Wd K O L C' H := by
  obtain ⟨B, w⟩ := w
  have hs : (fps C' H).Sublist (fps C H) := fps_sub h
  exact ⟨B, w.lo, w.hi, hs.nodup w.nd, fun p hp => w.nb p (hs.mem hp), fun p hp => w.fr p (hs.mem hp), fun c hc => w.rt c (h.mem hc), w.ft, w.kp, w.oc, w.bo⟩
theorem Bk.subC {α : Type} {F : List Root} {r : Rs μ α} (h : ∀ m, (Cp m).Sublist (C m)) (b : Bk G Cp F L r) : Bk G C F L r := ⟨fun e m' cls d H' q w => b.1 e m' cls d H' q (w.subC (((h m').append_right F).cons₂ _)), b.2⟩
/-- how a def's own roots lie among all -/
abbrev Sub (Cp C : μ → List Root) : Prop := ∀ m, (Cp m).Sublist (C m)
theorem sv_ret (hc : Sub Cp C) (h : EV G te σ L C E) (hf : G.rf = rfF := by rfl) : SV G Cp (tSeq (tRet te) u) σ L C (bd E fun x => pu (.rt x)) Jn Jl := by
  intro m F L' H d s w _ _ _ q b
  refine h m F L' H _ s w (fun x m1 v H1 e1 w1 => q x m1 v H1 [(v, x)] [] ?_ (by rw [hf]; exact ⟨rfl, rfl⟩) (w1.subC ((hc m1).append_right F))) (b.fst.subC hc)
  rw [bd_ok e1]; rfl
theorem sv_retN (hc : Sub Cp C) (hf : G.rf = rfF := by rfl) : SV G Cp (tSeq tRetN u) σ L C (pu (.rt .none)) Jn Jl := by
  intro m F L' H d s w _ _ _ q b
  exact q .none m .non H [(.non, .none)] [] rfl (by rw [hf]; exact ⟨rfl, rfl⟩) ((w.subC ((hc m).append_right F)).fact fun _ _ => .non)
theorem sv_nil {s : τ} {L2 : List (V × D)} (hj : Jn s σ L2 C) (hl : ∀ f ∈ L2, f ∈ L) : SV G Cp tNext σ L C (pu (.nx s)) Jn Jl := by
  intro m F L' H d s' w q _ _ _ b
  refine q s m σ L2 C H rfl hj (w.sub fun f hf => ?_)
  rcases List.mem_append.mp hf with e | e
  · exact s' f (hl f e)
  · exact e
theorem sv_brk {s : ρ} {L2 : List (V × D)} (hj : Jl s σ L2 C) (hl : ∀ f ∈ L2, f ∈ L) : SV G Cp (tSeq tBreak u) σ L C (pu (.bk s)) Jn Jl := by
  intro m F L' H d s' w _ q _ _ b
  refine q s m σ L2 C H rfl hj (w.sub fun f hf => ?_)
  rcases List.mem_append.mp hf with e | e
  · exact s' f (hl f e)
  · exact e
theorem sv_cnt {s : ρ} {L2 : List (V × D)} (hj : Jl s σ L2 C) (hl : ∀ f ∈ L2, f ∈ L) : SV G Cp (tSeq tCont u) σ L C (pu (.ct s)) Jn Jl := by
  intro m F L' H d s' w _ _ q _ b
  refine q s m σ L2 C H rfl hj (w.sub fun f hf => ?_)
  rcases List.mem_append.mp hf with e | e
  · exact s' f (hl f e)
  · exact e
theorem sv_assoc {t1 t2 : TS} {R : SM μ (Fl τ ρ)} (h : SV G Cp (tSeq t1 (tSeq t2 u)) σ L C R Jn Jl) : SV G Cp (tSeq (tSeq t1 t2) u) σ L C R Jn Jl := h
theorem sv_skip {R : SM μ (Fl τ ρ)} (h : SV G Cp u σ L C R Jn Jl) : SV G Cp (tSeq tNext u) σ L C R Jn Jl := h
/-- a statement, then the rest, by the shape between -/
theorem sv_seq {R : SM μ (Fl τ' ρ)} {k : τ' → SM μ (Fl τ ρ)} {J1 : Shp μ τ'} (h1 : SV G Cp t σ L C R J1 Jl) (h2 : ∀ s σ' L2 C2, J1 s σ' L2 C2 → SV G Cp u σ' (L2 ++ L) C2 (k s) Jn Jl) : SV G Cp (tSeq t u) σ L C (sq R k) Jn Jl := by
  intro m F L' H d s w q1 q2 q3 q4 b
  refine h1 m F L' H { d with nx := u d } s w ?_ ?_ ?_ ?_ ?_
  · intro z m1 σ1 L2 C2 H1 e1 j1 w1
    have er : sq R k m = k z m1 := bd_ok e1
    rw [er] at b
    refine h2 z σ1 L2 C2 j1 m1 F (L2 ++ L') H1 d (fun f hf => ?_) w1 ?_ ?_ ?_ ?_ (b.mono fun f hf => List.mem_append.mpr (.inr hf))
    · rcases List.mem_append.mp hf with e | e
      · exact List.mem_append.mpr (.inl e)
      · exact List.mem_append.mpr (.inr (s f e))
    · intro z2 m2 σ2 L3 C3 H2 e2 j2 w2
      exact q1 z2 m2 σ2 L3 C3 H2 (er.trans e2) j2 (w2.sub fun f hf => by
        rcases List.mem_append.mp hf with e | e
        · exact List.mem_append.mpr (.inl e)
        · exact List.mem_append.mpr (.inr (List.mem_append.mpr (.inr e))))
    · intro z2 m2 σ2 L3 C3 H2 e2 j2 w2
      exact q2 z2 m2 σ2 L3 C3 H2 (er.trans e2) j2 (w2.sub fun f hf => by
        rcases List.mem_append.mp hf with e | e
        · exact List.mem_append.mpr (.inl e)
        · exact List.mem_append.mpr (.inr (List.mem_append.mpr (.inr e))))
    · intro z2 m2 σ2 L3 C3 H2 e2 j2 w2
      exact q3 z2 m2 σ2 L3 C3 H2 (er.trans e2) j2 (w2.sub fun f hf => by
        rcases List.mem_append.mp hf with e | e
        · exact List.mem_append.mpr (.inl e)
        · exact List.mem_append.mpr (.inr (List.mem_append.mpr (.inr e))))
    · intro x m2 v H2 L4 C4 e2 r2 w2
      exact q4 x m2 v H2 L4 C4 (er.trans e2) r2 (w2.sub fun f hf => by
        rcases List.mem_append.mp hf with e | e
        · exact List.mem_append.mpr (.inl e)
        · exact List.mem_append.mpr (.inr (List.mem_append.mpr (.inr e))))
  · intro z m1 σ1 L2 C2 H1 e1 j1 w1
    exact q2 z m1 σ1 L2 C2 H1 (bd_ok e1) j1 w1
  · intro z m1 σ1 L2 C2 H1 e1 j1 w1
    exact q3 z m1 σ1 L2 C2 H1 (bd_ok e1) j1 w1
  · intro x m1 v H1 L4 C4 e1 r1 w1
    exact q4 x m1 v H1 L4 C4 (bd_ok e1) r1 w1
  · exact b.fst
/-- more facts -/
theorem SV.sub {R : SM μ (Fl τ ρ)} {L0 : List (V × D)} (h : SV G Cp t σ L0 C R Jn Jl) (s : ∀ f ∈ L0, f ∈ L) : SV G Cp t σ L C R Jn Jl := by
  intro m F L' H d s' w q1 q2 q3 q4 b
  exact h m F L' H d (fun f hf => s' f (s f hf)) w q1 q2 q3 q4 b
/-- what is done first, then what follows -/
theorem sv_bd {α : Type} {x : SM μ α} {k : α → SM μ (Fl τ ρ)} (hc : Sub Cp C)
    (h1 : ∀ m F L' H (d : Ends), (∀ f ∈ L, f ∈ L') → Wd G.K G.O L' (C m ++ F) H →
      (∀ a m' σ' L2 C2 H', x m = .ok a m' → Wd G.K G.O (L2 ++ L') (C2 m' ++ F) H' → SV G Cp u σ' (L2 ++ L) C2 (k a) Jn Jl → u d σ' H') → Bk G C F L' (x m) → t { d with nx := u d } σ H) :
    SV G Cp (tSeq t u) σ L C (bd x k) Jn Jl := by
  intro m F L' H d s w q1 q2 q3 q4 b
  refine h1 m F L' H d s w (fun a m' σ' L2 C2 H' e1 w1 h2 => ?_) (b.fst.subC hc)
  have er : bd x k m = k a m' := bd_ok e1
  rw [er] at b
  have sb : ∀ {L3 : List (V × D)} {C3 : List Root} {H3 : Hp}, Wd G.K G.O (L3 ++ (L2 ++ L')) C3 H3 → Wd G.K G.O (L3 ++ L') C3 H3 := fun {L3 C3 H3} w3 => w3.sub fun f hf => by
    rcases List.mem_append.mp hf with e | e
    · exact List.mem_append.mpr (.inl e)
    · exact List.mem_append.mpr (.inr (List.mem_append.mpr (.inr e)))
  refine h2 m' F (L2 ++ L') H' d (fun f hf => ?_) w1 (fun z2 m2 σ2 L3 C3 H2 e2 j2 w2 => q1 z2 m2 σ2 L3 C3 H2 (er.trans e2) j2 (sb w2)) (fun z2 m2 σ2 L3 C3 H2 e2 j2 w2 => q2 z2 m2 σ2 L3 C3 H2 (er.trans e2) j2 (sb w2))
    (fun z2 m2 σ2 L3 C3 H2 e2 j2 w2 => q3 z2 m2 σ2 L3 C3 H2 (er.trans e2) j2 (sb w2)) (fun x m2 v H2 L4 C4 e2 r2 w2 => q4 x m2 v H2 L4 C4 (er.trans e2) r2 (sb w2)) (b.mono fun f hf => List.mem_append.mpr (.inr hf))
  rcases List.mem_append.mp hf with e | e
  · exact List.mem_append.mpr (.inl e)
  · exact List.mem_append.mpr (.inr (s f e))
theorem sv_asg {σ' : V → St} {k : D → SM μ (Fl τ ρ)} (hc : Sub Cp C) (h : EV G te σ L C E) (hσ : ∀ v, σ.set i (some v) = σ' v) (hk : ∀ v x, SV G Cp u (σ' v) ((v, x) :: L) C (k x) Jn Jl) : SV G Cp (tSeq (tAsg te (gName i)) u) σ L C (bd E k) Jn Jl :=
  sv_bd hc fun m F L' H d s w q b => h m F L' H _ s w (fun x m1 v H1 e1 w1 => by
    show u d (σ.set i (some v)) H1
    rw [hσ v]
    exact q x m1 (σ' v) [(v, x)] C H1 e1 w1 (hk v x)) b
theorem sv_expr {k : SM μ (Fl τ ρ)} (hc : Sub Cp C) (h : EV G te σ L C E) (hk : SV G Cp u σ L C k Jn Jl) : SV G Cp (tSeq (tDrop te) u) σ L C (bd E fun _ => k) Jn Jl :=
  sv_bd hc fun m F L' H d s w q b => h m F L' H _ s w (fun x m1 v H1 e1 w1 => q x m1 σ [] C H1 e1 (w1.sub fun f hf => .tail _ hf) hk) b
theorem sv_aug {σ' : V → St} {k : D → SM μ (Fl τ ρ)} {r : TIp} {f : D → D → Option D} {v0 : V} {d0 : D} (hc : Sub Cp C) (hf : OpS G r f) (hv : σ[i]? = some (some v0)) (hm : (v0, d0) ∈ L) (h : EV G te σ L C E) (hσ : ∀ v, σ.set i (some v) = σ' v)
    (hk : ∀ v x, SV G Cp u (σ' v) ((v, x) :: L) C (k x) Jn Jl) : SV G Cp (tSeq (tAug i te r) u) σ L C (bd (op2 f (pu d0) E) k) Jn Jl :=
  sv_bd hc fun m F L' H d s w q b => by
    refine ⟨v0, hv, h m F L' H _ s w (fun x m1 v H1 e1 w1 => ?_) (b.snd rfl : Bk G C F L' (bd E (fun y => of (f d0 y)) m)).fst⟩
    have b1 := (b.snd rfl : Bk G C F L' (bd E (fun y => of (f d0 y)) m)).snd e1
    cases ef : f d0 x with
    | none => rw [ef] at b1; exact absurd rfl b1.2
    | some z =>
      refine hf _ _ H1 v0 v d0 x z _ w1 (.tail _ (s _ hm)) (.head _) ef fun v' H' w' => ?_
      show u d (σ.set i (some v')) H'
      rw [hσ v']
      refine q z m1 (σ' v') [(v', z)] C H' ?_ (w'.sub fun f hf => ?_) (hk v' z)
      · show bd (pu d0) _ m = _
        rw [pu_bd, bd_ok e1, ef]; rfl
      · rcases List.mem_cons.mp hf with e | e
        · rw [e]; exact .head _
        · exact .tail _ (.tail _ e)
/-- a, b = e -/
theorem sv_unp2 {σ' : V → V → St} {k : D → D → SM μ (Fl τ ρ)} (hc : Sub Cp C) (h : EV G te σ L C E) (hσ : ∀ v w, (σ.set i (some v)).set j (some w) = σ' v w) (hk : ∀ v w x y, SV G Cp u (σ' v w) ((v, x) :: (w, y) :: L) C (k x y) Jn Jl) :
    SV G Cp (tSeq (tAsg te (gTup G.K 2 (gCons (gName i) (gCons (gName j) gNil)))) u) σ L C (bd E fun t => unp2 t k) Jn Jl := by
  have e0 : (bd E fun t => unp2 t k) = bd (bd E fun t => unp2 t fun a b => pu (a, b)) fun p => k p.1 p.2 := by
    rw [bd_assoc]
    congr 1; funext t; unfold unp2; split <;> rfl
  rw [e0]
  refine sv_bd hc fun m F L' H d s w q b => h m F L' H _ s w (fun x m1 v H1 e1 w1 => ?_) b.fst
  have b1 := b.snd e1
  unfold unp2 at b1
  split at b1
  · next a c =>
    obtain ⟨B, wb⟩ := w1
    obtain ⟨p, vs, rfl, hl, ha⟩ := Dt.tup_inv (wb.ft _ (.head _))
    cases ha with
    | @cons va _ _ _ ha hb =>
      cases hb with
      | @cons vc _ _ _ hb hn =>
        cases hn
        refine ⟨p, [va, vc], rfl, hl.sq, rfl, va, [vc], rfl, vc, [], rfl, rfl, ?_⟩
        show u d ((σ.set i (some va)).set j (some vc)) H1
        rw [hσ]
        refine q (a, c) m1 (σ' va vc) [(va, a), (vc, c)] C H1 ?_ ⟨B, wb.fts fun f hf => ?_⟩ (hk va vc a c)
        · show bd E _ m = _
          rw [bd_ok e1]; rfl
        · rcases List.mem_cons.mp hf with e | hf
          · subst e; exact ha
          · rcases List.mem_cons.mp hf with e | hf
            · subst e; exact hb
            · exact wb.ft f (.tail _ hf)
  · exact absurd rfl b1.2
theorem sv_unp3 {l : Nat} {σ' : V → V → V → St} {k : D → D → D → SM μ (Fl τ ρ)} (hc : Sub Cp C) (h : EV G te σ L C E) (hσ : ∀ v w z, ((σ.set i (some v)).set j (some w)).set l (some z) = σ' v w z) (hk : ∀ v w z x y q, SV G Cp u (σ' v w z) ((v, x) :: (w, y) :: (z, q) :: L) C (k x y q) Jn Jl) :
    SV G Cp (tSeq (tAsg te (gTup G.K 3 (gCons (gName i) (gCons (gName j) (gCons (gName l) gNil))))) u) σ L C (bd E fun t => unp3 t k) Jn Jl := by
  have e0 : (bd E fun t => unp3 t k) = bd (bd E fun t => unp3 t fun a b c => pu (a, b, c)) fun p => k p.1 p.2.1 p.2.2 := by
    rw [bd_assoc]
    congr 1; funext t; unfold unp3; split <;> rfl
  rw [e0]
  refine sv_bd hc fun m F L' H d s w q b => h m F L' H _ s w (fun x m1 v H1 e1 w1 => ?_) b.fst
  have b1 := b.snd e1
  unfold unp3 at b1
  split at b1
  · next a c e =>
    obtain ⟨B, wb⟩ := w1
    obtain ⟨p, vs, rfl, hl, ha⟩ := Dt.tup_inv (wb.ft _ (.head _))
    cases ha with
    | @cons va _ _ _ ha hb =>
      cases hb with
      | @cons vc _ _ _ hb hn =>
        cases hn with
        | @cons ve _ _ _ hc' hn =>
          cases hn
          refine ⟨p, [va, vc, ve], rfl, hl.sq, rfl, va, [vc, ve], rfl, vc, [ve], rfl, ve, [], rfl, rfl, ?_⟩
          show u d (((σ.set i (some va)).set j (some vc)).set l (some ve)) H1
          rw [hσ]
          refine q (a, c, e) m1 (σ' va vc ve) [(va, a), (vc, c), (ve, e)] C H1 ?_ ⟨B, wb.fts fun f hf => ?_⟩ (hk va vc ve a c e)
          · show bd E _ m = _
            rw [bd_ok e1]; rfl
          · rcases List.mem_cons.mp hf with e | hf
            · subst e; exact ha
            · rcases List.mem_cons.mp hf with e | hf
              · subst e; exact hb
              · rcases List.mem_cons.mp hf with e | hf
                · subst e; exact hc'
                · exact wb.ft f (.tail _ hf)
  · exact absurd rfl b1.2
/-- a, b = x, y -/
theorem sv_par2 {ta : TA} {Es : SM μ (List D)} {σ' : V → V → St} {k : D → D → SM μ (Fl τ ρ)} (hc : Sub Cp C) (h : AV G ta σ L C Es) (hσ : ∀ v w, (σ.set i (some v)).set j (some w) = σ' v w) (hk : ∀ v w x y, SV G Cp u (σ' v w) ((v, x) :: (w, y) :: L) C (k x y) Jn Jl) :
    SV G Cp (tSeq (tPar i j ta) u) σ L C (bd Es fun t => par2 t k) Jn Jl := by
  have e0 : (bd Es fun t => par2 t k) = bd (bd Es fun t => par2 t fun a b => pu (a, b)) fun p => k p.1 p.2 := by
    rw [bd_assoc]
    congr 1; funext t; unfold par2; split <;> rfl
  rw [e0]
  refine sv_bd hc fun m F L' H d s w q b => h m F L' H _ s w (fun xs m1 vs H1 L2 e1 s2 i2 w1 => ?_) b.fst
  have b1 := b.snd e1
  unfold par2 at b1
  split at b1
  · next a c =>
    obtain ⟨x, y, rfl, hx, hy⟩ := i2.two
    refine ⟨x, y, rfl, ?_⟩
    show u d ((σ.set i (some x)).set j (some y)) H1
    rw [hσ]
    refine q (a, c) m1 (σ' x y) [(x, a), (y, c)] C H1 ?_ (w1.sub fun f hf => ?_) (hk x y a c)
    · show bd Es _ m = _
      rw [bd_ok e1]; rfl
    · rcases List.mem_cons.mp hf with e | hf
      · subst e; exact hx
      · rcases List.mem_cons.mp hf with e | hf
        · subst e; exact hy
        · exact s2 f hf
  · exact absurd rfl b1.2
theorem sv_if {A B : SM μ (Fl τ ρ)} {t1 t2 : TS} (hc : Sub Cp C) (h : TV G tt σ L C T) (h1 : SV G Cp (tSeq t1 u) σ L C A Jn Jl) (h2 : SV G Cp (tSeq t2 u) σ L C B Jn Jl) : SV G Cp (tSeq (tIfS tt t1 t2) u) σ L C (bd T fun c => if c then A else B) Jn Jl :=
  fun m F L' H d s w q1 q2 q3 q4 b => h m F L' H _ s w (fun c m1 H1 e1 w1 => by
    have er : bd T (fun c => if c then A else B) m = (if c then A else B) m1 := bd_ok e1
    rw [er] at b
    cases c with
    | true =>
      exact h1 m1 F L' H1 d s w1 (fun z2 m2 σ2 L3 C3 H2 e2 j2 w2 => q1 z2 m2 σ2 L3 C3 H2 (er.trans e2) j2 w2) (fun z2 m2 σ2 L3 C3 H2 e2 j2 w2 => q2 z2 m2 σ2 L3 C3 H2 (er.trans e2) j2 w2)
        (fun z2 m2 σ2 L3 C3 H2 e2 j2 w2 => q3 z2 m2 σ2 L3 C3 H2 (er.trans e2) j2 w2) (fun x m2 v H2 L4 C4 e2 r2 w2 => q4 x m2 v H2 L4 C4 (er.trans e2) r2 w2) b
    | false =>
      exact h2 m1 F L' H1 d s w1 (fun z2 m2 σ2 L3 C3 H2 e2 j2 w2 => q1 z2 m2 σ2 L3 C3 H2 (er.trans e2) j2 w2) (fun z2 m2 σ2 L3 C3 H2 e2 j2 w2 => q2 z2 m2 σ2 L3 C3 H2 (er.trans e2) j2 w2)
        (fun z2 m2 σ2 L3 C3 H2 e2 j2 w2 => q3 z2 m2 σ2 L3 C3 H2 (er.trans e2) j2 w2) (fun x m2 v H2 L4 C4 e2 r2 w2 => q4 x m2 v H2 L4 C4 (er.trans e2) r2 w2) b) (b.fst.subC hc)
/-- the same, without what follows -/
theorem sv_if1 {A B : SM μ (Fl τ ρ)} {t1 t2 : TS} (hc : Sub Cp C) (h : TV G tt σ L C T) (h1 : SV G Cp t1 σ L C A Jn Jl) (h2 : SV G Cp t2 σ L C B Jn Jl) : SV G Cp (tIfS tt t1 t2) σ L C (bd T fun c => if c then A else B) Jn Jl :=
  fun m F L' H d s w q1 q2 q3 q4 b => h m F L' H _ s w (fun c m1 H1 e1 w1 => by
    have er : bd T (fun c => if c then A else B) m = (if c then A else B) m1 := bd_ok e1
    rw [er] at b
    cases c with
    | true =>
      exact h1 m1 F L' H1 d s w1 (fun z2 m2 σ2 L3 C3 H2 e2 j2 w2 => q1 z2 m2 σ2 L3 C3 H2 (er.trans e2) j2 w2) (fun z2 m2 σ2 L3 C3 H2 e2 j2 w2 => q2 z2 m2 σ2 L3 C3 H2 (er.trans e2) j2 w2)
        (fun z2 m2 σ2 L3 C3 H2 e2 j2 w2 => q3 z2 m2 σ2 L3 C3 H2 (er.trans e2) j2 w2) (fun x m2 v H2 L4 C4 e2 r2 w2 => q4 x m2 v H2 L4 C4 (er.trans e2) r2 w2) b
    | false =>
      exact h2 m1 F L' H1 d s w1 (fun z2 m2 σ2 L3 C3 H2 e2 j2 w2 => q1 z2 m2 σ2 L3 C3 H2 (er.trans e2) j2 w2) (fun z2 m2 σ2 L3 C3 H2 e2 j2 w2 => q2 z2 m2 σ2 L3 C3 H2 (er.trans e2) j2 w2)
        (fun z2 m2 σ2 L3 C3 H2 e2 j2 w2 => q3 z2 m2 σ2 L3 C3 H2 (er.trans e2) j2 w2) (fun x m2 v H2 L4 C4 e2 r2 w2 => q4 x m2 v H2 L4 C4 (er.trans e2) r2 w2) b) (b.fst.subC hc)
end
/-! ### what is walked -/
section
open PySem.Spec PyProof.Rows SM
variable {X : Cx} {tg : Expr}
def iSeq (K : PySem.W.Frag) (tl : TE) : TI := fun σ H R => tl σ H fun x H1 => ∃ a, x = .ref a ∧ (((∃ xs, SqL K H1 a xs) ∧ R (Itl K a) H1) ∨ ((∃ xs, SqT K H1 a xs) ∧ R (Itt K a) H1))
theorem pi_seq {l : Expr} {tl : TE} (hl : PE X l tl) : PI X tg l (iSeq X.K tl) := by
  refine ⟨fun pins s σ H R I h => ?_⟩
  refine thn (hl.run pins s σ H _ I h) fun v s1 ⟨x, H1, I1, r1, q1⟩ => ?_
  obtain ⟨a, e, q1⟩ := q1
  subst e
  cases r1
  rcases q1 with ⟨⟨xs, hq⟩, q⟩ | ⟨⟨xs, hq⟩, q⟩
  · obtain ⟨its, rv, p, hz⟩ := I1.list hq
    refine wpAny_pyIter_list p.isList ?_
    refine ⟨s1.heap.objs.size, [s1.heap.objs.size], _, _, H1, rfl, I1.kept (t' := s1.toks) fun b o e => Heap.get?_push_of_some _ e, turn_list a _, ⟨_, Heap.get?_push_size _ rfl, rfl, rfl⟩, fun b hb => ?_, q⟩
    have e : b = s1.heap.objs.size := by simpa using hb
    subst e
    exact I1.fpOk (Nat.le_refl _) (I1.hok.fresh (Nat.le_refl _))
  · obtain ⟨its, rv, p, hz⟩ := I1.tuple hq
    refine wpAny_pyIter_tuple (show s1.heap.IsTuple a its.toArray from p) ?_
    refine ⟨s1.heap.objs.size, [s1.heap.objs.size], _, _, H1, rfl, I1.kept (t' := s1.toks) fun b o e => Heap.get?_push_of_some _ e, turn_tuple a _, ⟨_, Heap.get?_push_size _ rfl, rfl, rfl⟩, fun b hb => ?_, q⟩
    have e : b = s1.heap.objs.size := by simpa using hb
    subst e
    exact I1.fpOk (Nat.le_refl _) (I1.hok.fresh (Nat.le_refl _))
end
namespace SM
variable {μ : Type}
def itS (E : SM μ D) : SM μ (List D) := bd E fun d => of (seqD d)
def rgL (a b : Int) : List D := (List.range (b - a).toNat).map fun i => .int (a + (i : Nat))
def rngD : List D → Option (List D)
  | [.int b] => if -(2 ^ 62) ≤ b ∧ b < 2 ^ 62 then some (rgL 0 b) else none
  | [.int a, .int b] => if -(2 ^ 62) ≤ a ∧ a < 2 ^ 62 ∧ -(2 ^ 62) ≤ b ∧ b < 2 ^ 62 then some (rgL a b) else none
  | _ => none
def itR (Es : SM μ (List D)) : SM μ (List D) := bd Es fun ds => of (rngD ds)
def lc (I : SM μ (List D)) (T : D → SM μ Bool) (E : D → SM μ D) : SM μ D := bd I fun xs => bd (lcS T E xs []) fun ys => pu (.list ys)
end SM
section
open SM
variable {X : Cx} {μ τ τ' ρ : Type} {G : Gx} {σ : St} {L : List (V × D)} {C Cp : μ → List Root} {te ta tb tc : TE} {tt tu : TT} {t u : TS} {E E1 E2 E3 : SM μ D} {T T1 T2 : SM μ Bool} {Jn : Shp μ τ} {Jl : Shp μ ρ} {i j : Nat}
theorem itok_lst {a : Addr} {xs : List D} {L0 : List (V × D)} (h : (V.ref a, PyData.list xs) ∈ L0) : ItOk G (Itl G.K a) xs L0 := by
  intro L C H s w i
  obtain ⟨B, wb⟩ := w
  obtain ⟨p, vs, e, hl, ha⟩ := Dt.lst_inv (wb.ft _ (s _ h))
  cases e
  refine ⟨fun x hx => ?_, fun hi => ⟨vs, hl.sq, by rw [ha.len]; exact hi⟩⟩
  obtain ⟨v, hv, hd⟩ := ha.get hx
  refine ⟨⟨vs, v, hl.sq, hv⟩, fun u H' y => ?_⟩
  obtain ⟨e, y⟩ := y
  subst e
  have := y vs hl.sq
  rw [hv] at this
  cases this
  exact ⟨B, wb.fact hd⟩
theorem itok_tup {a : Addr} {xs : List D} {L0 : List (V × D)} (h : (V.ref a, PyData.tuple xs) ∈ L0) : ItOk G (Itt G.K a) xs L0 := by
  intro L C H s w i
  obtain ⟨B, wb⟩ := w
  obtain ⟨p, vs, e, hl, ha⟩ := Dt.tup_inv (wb.ft _ (s _ h))
  cases e
  refine ⟨fun x hx => ?_, fun hi => ⟨vs, hl.sq, by rw [ha.len]; exact hi⟩⟩
  obtain ⟨v, hv, hd⟩ := ha.get hx
  refine ⟨⟨vs, v, hl.sq, hv⟩, fun u H' y => ?_⟩
  obtain ⟨e, y⟩ := y
  subst e
  have := y vs hl.sq
  rw [hv] at this
  cases this
  exact ⟨B, wb.fact hd⟩
theorem iv_seq (h : EV G te σ L C E) : IV G (iSeq G.K te) σ L C (itS E) := by
  intro m F L' H R s w q b
  refine h m F L' H _ s w (fun x m1 v H1 e1 w1 => ?_) b.fst
  have b1 := b.snd e1
  have fin : ∀ {xs : List D}, seqD x = some xs → itS E m = .ok xs m1 := fun {xs} e => by
    show bd E _ m = _
    rw [bd_ok e1, e]; rfl
  obtain ⟨B, wb⟩ := w1
  cases x with
  | list xs =>
    obtain ⟨p, vs, rfl, hl, ha⟩ := Dt.lst_inv (wb.ft _ (.head _))
    exact ⟨p, rfl, .inl ⟨⟨vs, hl.sq⟩, q xs m1 _ H1 _ (fin rfl) (fun f hf => .tail _ hf) ⟨B, wb⟩ (itok_lst (.head _))⟩⟩
  | tuple xs =>
    obtain ⟨p, vs, rfl, hl, ha⟩ := Dt.tup_inv (wb.ft _ (.head _))
    exact ⟨p, rfl, .inr ⟨⟨vs, hl.sq⟩, q xs m1 _ H1 _ (fin rfl) (fun f hf => .tail _ hf) ⟨B, wb⟩ (itok_tup (.head _))⟩⟩
  | _ => exact absurd rfl b1.2
theorem rgL_get {a b : Int} {i : Nat} {x : D} (h : (rgL a b)[i]? = some x) : i < (b - a).toNat ∧ x = .int (a + i) := by
  unfold rgL at h
  rw [List.getElem?_map] at h
  cases e : (List.range (b - a).toNat)[i]? with
  | none => rw [e] at h; cases h
  | some k =>
    rw [e] at h
    cases h
    rw [List.getElem?_eq_some_iff] at e
    obtain ⟨h1, h2⟩ := e
    rw [List.getElem_range] at h2
    rw [List.length_range] at h1
    exact ⟨h1, by rw [h2]⟩
theorem itok_rng {a b : Int} {L0 : List (V × D)} : ItOk G (Itr a (b - a).toNat) (rgL a b) L0 := by
  intro L C H s w i
  refine ⟨fun x hx => ?_, fun hi => ?_⟩
  · obtain ⟨h1, rfl⟩ := rgL_get hx
    refine ⟨h1, fun u H' y => ?_⟩
    obtain ⟨e, y⟩ := y
    subst e y
    exact w.fact fun _ _ => .int _
  · unfold rgL at hi
    rw [List.length_map, List.length_range] at hi
    exact hi
theorem iv_rng1 {ta : TA} {E : SM μ D} (h : AV G ta σ L C (ac E a0)) : IV G (iRng1 ta) σ L C (itR (ac E a0)) := by
  intro m F L' H R s w q b
  refine h m F L' H _ s w (fun xs m1 vs H1 L2 e1 s2 i2 w1 => ?_) b.fst
  have b1 := b.snd e1
  have hx : ∃ x, xs = [x] := by
    unfold ac at e1
    cases eE : E m with
    | ok x m' => rw [bd_ok eE] at e1; cases e1; exact ⟨x, rfl⟩
    | exc x m' => rw [bd_exc eE] at e1; cases e1
    | bad => rw [bd_bad eE] at e1; cases e1
  obtain ⟨x, rfl⟩ := hx
  cases x with
  | int n =>
    simp only [rngD] at b1
    split at b1
    · next c =>
      obtain ⟨v, rfl, hv⟩ := i2.one
      obtain ⟨B, hd⟩ := w1.dt hv
      rw [hd.int_inv]
      refine ⟨n, rfl, c.1, c.2, ?_⟩
      have hi : ItOk G (Itr 0 n.toNat) (rgL 0 n) L2 := by
        have := itok_rng (G := G) (a := 0) (b := n) (L0 := L2)
        rw [Int.sub_zero] at this
        exact this
      refine q (rgL 0 n) m1 _ H1 L2 ?_ s2 w1 hi
      show bd (ac E a0) _ m = _
      rw [bd_ok e1]
      simp only [rngD]; rw [if_pos c]; rfl
    · exact absurd rfl b1.2
  | _ => exact absurd rfl b1.2
theorem iv_rng2 {ta : TA} {E E' : SM μ D} (h : AV G ta σ L C (ac E (ac E' a0))) : IV G (iRng2 ta) σ L C (itR (ac E (ac E' a0))) := by
  intro m F L' H R s w q b
  refine h m F L' H _ s w (fun xs m1 vs H1 L2 e1 s2 i2 w1 => ?_) b.fst
  have b1 := b.snd e1
  have hx : ∃ x y, xs = [x, y] := by
    unfold ac at e1
    cases eE : E m with
    | ok x m' =>
      rw [bd_ok eE] at e1
      cases eE' : E' m' with
      | ok y m2 =>
        have e3 : (bd E' fun x => bd (a0 : SM μ (List D)) fun xs => pu (x :: xs)) m' = .ok [y] m2 := by rw [bd_ok eE']; rfl
        rw [bd_ok e3] at e1; cases e1; exact ⟨x, y, rfl⟩
      | exc y m2 =>
        have e3 : (bd E' fun x => bd (a0 : SM μ (List D)) fun xs => pu (x :: xs)) m' = .exc y m2 := by rw [bd_exc eE']
        rw [bd_exc e3] at e1; cases e1
      | bad =>
        have e3 : (bd E' fun x => bd (a0 : SM μ (List D)) fun xs => pu (x :: xs)) m' = .bad := by rw [bd_bad eE']
        rw [bd_bad e3] at e1; cases e1
    | exc x m' => rw [bd_exc eE] at e1; cases e1
    | bad => rw [bd_bad eE] at e1; cases e1
  obtain ⟨x, y, rfl⟩ := hx
  cases x with
  | int n =>
    cases y with
    | int k =>
      simp only [rngD] at b1
      split at b1
      · next c =>
        obtain ⟨v, v2, rfl, hv, hv2⟩ := i2.two
        obtain ⟨B, hd⟩ := w1.dt hv
        obtain ⟨B2, hd2⟩ := w1.dt hv2
        rw [hd.int_inv, hd2.int_inv]
        refine ⟨n, k, rfl, c, ?_⟩
        refine q (rgL n k) m1 _ H1 L2 ?_ s2 w1 itok_rng
        show bd (ac E (ac E' a0)) _ m = _
        rw [bd_ok e1]
        simp only [rngD]; rw [if_pos c]; rfl
      · exact absurd rfl b1.2
    | _ => exact absurd rfl b1.2
  | _ => exact absurd rfl b1.2
/-! ### for -/
/-- what is stored at a target, then the rest -/
def tTgt (g : TG) (v : V) (t : TS) : TS := fun d σ H => g v σ H fun σ2 H2 => t d σ2 H2
theorem forS_step {xs : List D} {i : Nat} {x : D} (h : xs[i]? = some x) : xs.drop i = x :: xs.drop (i + 1) := by
  rw [List.getElem?_eq_some_iff] at h
  obtain ⟨h1, h2⟩ := h
  rw [List.drop_eq_getElem_cons h1, h2]
theorem sv_for {wi : TI} {I : SM μ (List D)} {b : D → τ' → SM μ (Fl τ' τ')} {J : Shp μ τ'} {s0 : τ'} {L0 : List (V × D)} {g : TG} {tb : TS} (hc : Sub Cp C) (hi : IV G wi σ L C I) (h0 : J s0 σ L0 C) (hl : ∀ f ∈ L0, f ∈ L)
    (hC : ∀ s σ' L2 C2, J s σ' L2 C2 → Sub Cp C2)
    (hb : ∀ s σ' L2 C2, J s σ' L2 C2 → ∀ v x, SV G Cp (tTgt g v tb) σ' ((v, x) :: (L2 ++ L)) C2 (b x s) J J) : SV G Cp (tFor wi g tb) σ L C (bd I fun xs => forS xs s0 b) J Jl := by
  intro m F L' H d s w q1 q2 q3 q4 bk
  refine hi m F L' H _ s w (fun xs m1 It H1 L1 e1 s1 w1 hit => ?_) (bk.fst.subC hc)
  have er : bd I (fun xs => forS xs s0 b) m = (forS xs s0 b : SM μ (Fl τ' ρ)) m1 := bd_ok e1
  rw [er] at bk
  refine ⟨fun i n σ' H' => n = xs.length - i ∧ i ≤ xs.length ∧ ∃ z m' L2 C2, (forS xs s0 b : SM μ (Fl τ' ρ)) m1 = forS (xs.drop i) z b m' ∧ J z σ' L2 C2 ∧ Wd G.K G.O (L2 ++ L1) (C2 m' ++ F) H', ⟨xs.length, by simp, Nat.zero_le _, s0, m1, L0, C, rfl, h0, w1.sub fun f hf => ?_⟩, ?_⟩
  · rcases List.mem_append.mp hf with e | e
    · exact s1 f (s f (hl f e))
    · exact e
  · rintro i n σ' H' ⟨rfl, hin, z, m', L2, C2, ez, jz, wz⟩
    have hI := hit _ _ _ (fun f hf => List.mem_append.mpr (.inr hf)) wz i
    by_cases hlt : i < xs.length
    · have hx : xs[i]? = some xs[i] := List.getElem?_eq_getElem hlt
      obtain ⟨go, hy⟩ := hI.1 _ hx
      rw [forS_step hx] at ez
      rw [ez] at bk
      refine .inr ⟨go, fun σ'' H'' => ∃ z m' L2 C2, (forS xs s0 b : SM μ (Fl τ' ρ)) m1 = forS (xs.drop (i + 1)) z b m' ∧ J z σ'' L2 C2 ∧ Wd G.K G.O (L2 ++ L1) (C2 m' ++ F) H'', fun σ'' H'' hN => ⟨xs.length - (i + 1), by omega, rfl, hlt, hN⟩, fun v H2 y => ?_⟩
      have w2 := hy v H2 y
      have bb : Bk G Cp F L' ((b xs[i] z) m') := (show Bk G Cp F L' (bd (b xs[i] z) _ m') from bk).fst
      have sb : ∀ {L3 : List (V × D)} {C3 : List Root} {H3 : Hp}, Wd G.K G.O (L3 ++ ((v, xs[i]) :: (L2 ++ L1))) C3 H3 → Wd G.K G.O (L3 ++ L1) C3 H3 := fun {L3 C3 H3} w3 => w3.sub fun f hf => by
        rcases List.mem_append.mp hf with e | e
        · exact List.mem_append.mpr (.inl e)
        · exact List.mem_append.mpr (.inr (.tail _ (List.mem_append.mpr (.inr e))))
      have sb' : ∀ {L3 : List (V × D)} {C3 : List Root} {H3 : Hp}, Wd G.K G.O (L3 ++ L1) C3 H3 → Wd G.K G.O (L3 ++ L') C3 H3 := fun {L3 C3 H3} w3 => w3.sub fun f hf => by
        rcases List.mem_append.mp hf with e | e
        · exact List.mem_append.mpr (.inl e)
        · exact List.mem_append.mpr (.inr (s1 f e))
      refine hb z σ' L2 C2 jz v xs[i] m' F ((v, xs[i]) :: (L2 ++ L1)) H2 _ (fun f hf => ?_) w2 ?_ ?_ ?_ ?_ (bb.mono fun f hf => .tail _ (List.mem_append.mpr (.inr (s1 f hf))))
      · rcases List.mem_cons.mp hf with e | e
        · rw [e]; exact .head _
        · rcases List.mem_append.mp e with e | e
          · exact .tail _ (List.mem_append.mpr (.inl e))
          · exact .tail _ (List.mem_append.mpr (.inr (s1 f (s f e))))
      · intro z2 m2 σ3 L3 C3 H3 e3 j3 w3
        exact ⟨z2, m2, L3, C3, ez.trans (bd_ok e3), j3, sb w3⟩
      · intro z2 m2 σ3 L3 C3 H3 e3 j3 w3
        exact q1 z2 m2 σ3 L3 C3 H3 (er.trans (ez.trans (bd_ok e3))) j3 (sb' (sb w3))
      · intro z2 m2 σ3 L3 C3 H3 e3 j3 w3
        exact ⟨z2, m2, L3, C3, ez.trans (bd_ok e3), j3, sb w3⟩
      · intro x m2 v2 H3 L4 C4 e3 r3 w3
        exact q4 x m2 v2 H3 L4 C4 (er.trans (ez.trans (bd_ok e3))) r3 (sb' (sb w3))
    · have e : i = xs.length := by omega
      subst e
      rw [List.drop_length] at ez
      refine .inl ⟨hI.2 (Nat.le_refl _), q1 z m' σ' L2 C2 H' (er.trans ez) jz (wz.sub fun f hf => ?_)⟩
      rcases List.mem_append.mp hf with e | e
      · exact List.mem_append.mpr (.inl e)
      · exact List.mem_append.mpr (.inr (s1 f e))
/-! ### while -/
theorem sv_while {b : τ' → SM μ (Fl τ' τ')} {T : τ' → SM μ Bool} {J : Shp μ τ'} {s0 : τ'} {L0 : List (V × D)} {tb : TS} {n : Nat} (h0 : J s0 σ L0 C) (hl : ∀ f ∈ L0, f ∈ L)
    (hC : ∀ s σ' L2 C2, J s σ' L2 C2 → Sub Cp C2)
    (ht : ∀ s σ' L2 C2, J s σ' L2 C2 → TV G tt σ' (L2 ++ L) C2 (T s))
    (hb : ∀ s σ' L2 C2, J s σ' L2 C2 → SV G Cp tb σ' (L2 ++ L) C2 (b s) J J) : SV G Cp (tWhile tt tb) σ L C (whileS n T b s0) J Jl := by
  intro m F L' H d s w q1 q2 q3 q4 bk
  refine ⟨fun k σ' H' => ∃ z m' L2 C2, (whileS n T b s0 : SM μ (Fl τ' ρ)) m = whileS k T b z m' ∧ J z σ' L2 C2 ∧ Wd G.K G.O (L2 ++ L') (C2 m' ++ F) H', ⟨n, s0, m, L0, C, rfl, h0, w.sub fun f hf => ?_⟩, ?_⟩
  · rcases List.mem_append.mp hf with e | e
    · exact s f (hl f e)
    · exact e
  · rintro k σ' H' ⟨z, m', L2, C2, ez, jz, wz⟩
    rw [ez] at bk
    cases k with
    | zero => exact absurd rfl bk.2
    | succ k =>
      have sb : ∀ {L3 : List (V × D)} {C3 : List Root} {H3 : Hp}, Wd G.K G.O (L3 ++ (L2 ++ L')) C3 H3 → Wd G.K G.O (L3 ++ L') C3 H3 := fun {L3 C3 H3} w3 => w3.sub fun f hf => by
        rcases List.mem_append.mp hf with e | e
        · exact List.mem_append.mpr (.inl e)
        · exact List.mem_append.mpr (.inr (List.mem_append.mpr (.inr e)))
      have b1 : Bk G Cp F L' (T z m') := (show Bk G Cp F L' (bd (T z) _ m') from bk).fst
      have sL : ∀ f ∈ L2 ++ L, f ∈ L2 ++ L' := fun f hf => by
        rcases List.mem_append.mp hf with e | e
        · exact List.mem_append.mpr (.inl e)
        · exact List.mem_append.mpr (.inr (s f e))
      refine ht z σ' L2 C2 jz m' F (L2 ++ L') H' _ sL wz (fun c m2 H2 e2 w2 => ?_) ((b1.subC (hC _ _ _ _ jz)).mono fun f hf => List.mem_append.mpr (.inr hf))
      have e3 : (whileS (k + 1) T b z : SM μ (Fl τ' ρ)) m' = (if c then bd (b z) fun o => match o with
        | .nx s' => whileS k T b s'
        | .ct s' => whileS k T b s'
        | .bk s' => pu (.nx s')
        | .rt d => pu (.rt d)
        else pu (.nx z)) m2 := bd_ok e2
      cases c with
      | false => exact q1 z m2 σ' L2 C2 H2 (ez.trans e3) jz w2
      | true =>
        rw [if_pos rfl]
        rw [e3] at bk
        have b2 : Bk G Cp F L' (b z m2) := (show Bk G Cp F L' (bd (b z) _ m2) from bk).fst
        refine ⟨fun σ'' H'' => ∃ z m' L2 C2, (whileS n T b s0 : SM μ (Fl τ' ρ)) m = whileS k T b z m' ∧ J z σ'' L2 C2 ∧ Wd G.K G.O (L2 ++ L') (C2 m' ++ F) H'', fun σ'' H'' hN => ⟨k, by omega, hN⟩, ?_⟩
        refine hb z σ' L2 C2 jz m2 F (L2 ++ L') H2 _ sL w2 ?_ ?_ ?_ ?_ (b2.mono fun f hf => List.mem_append.mpr (.inr hf))
        · intro z2 m3 σ3 L3 C3 H3 e4 j3 w3
          exact ⟨z2, m3, L3, C3, ez.trans (e3.trans (bd_ok e4)), j3, sb w3⟩
        · intro z2 m3 σ3 L3 C3 H3 e4 j3 w3
          exact q1 z2 m3 σ3 L3 C3 H3 (ez.trans (e3.trans (bd_ok e4))) j3 (sb w3)
        · intro z2 m3 σ3 L3 C3 H3 e4 j3 w3
          exact ⟨z2, m3, L3, C3, ez.trans (e3.trans (bd_ok e4)), j3, sb w3⟩
        · intro x m3 v2 H3 L4 C4 e4 r3 w3
          exact q4 x m3 v2 H3 L4 C4 (ez.trans (e3.trans (bd_ok e4))) r3 (sb w3)
end
/-! ### targets -/
section
open SM
variable {X : Cx} {μ τ τ' ρ : Type} {G : Gx} {σ : St} {L : List (V × D)} {C Cp : μ → List Root} {te ta tb tc : TE} {tt tu : TT} {t u : TS} {E E1 E2 E3 : SM μ D} {T T1 T2 : SM μ Bool} {Jn : Shp μ τ} {Jl : Shp μ ρ} {i j : Nat} {v : V} {x : D}
def tTgts (g : TGs) (vs : List V) (t : TS) : TS := fun d σ H => g vs σ H fun σ2 H2 => t d σ2 H2
theorem tg_name {R : SM μ (Fl τ ρ)} {σ' : St} (hσ : σ.set i (some v) = σ') (h : SV G Cp u σ' L C R Jn Jl) : SV G Cp (tTgt (gName i) v u) σ L C R Jn Jl := by
  subst hσ
  exact h
theorem tgs_nil {R : SM μ (Fl τ ρ)} (h : SV G Cp u σ L C R Jn Jl) : SV G Cp (tTgts gNil [] u) σ L C R Jn Jl := fun m F L' H d s w q1 q2 q3 q4 bk => ⟨rfl, h m F L' H d s w q1 q2 q3 q4 bk⟩
theorem tgs_cons {R : SM μ (Fl τ ρ)} {g : TG} {gs : TGs} {vs : List V} (h : SV G Cp (tTgt g v (tTgts gs vs u)) σ L C R Jn Jl) : SV G Cp (tTgts (gCons g gs) (v :: vs) u) σ L C R Jn Jl := fun m F L' H d s w q1 q2 q3 q4 bk => ⟨v, vs, rfl, h m F L' H d s w q1 q2 q3 q4 bk⟩
/-- names in slots, one by one -/
theorem tgs_name {R : SM μ (Fl τ ρ)} {gs : TGs} {vs : List V} {σ' : St} (hσ : σ.set i (some v) = σ') (h : SV G Cp (tTgts gs vs u) σ' L C R Jn Jl) : SV G Cp (tTgts (gCons (gName i) gs) (v :: vs) u) σ L C R Jn Jl := tgs_cons (tg_name hσ h)
/-- parts of a tuple, found among the facts -/
theorem dt_parts {K : PySem.W.Frag} {O : Og} {L : List (V × D)} {C : List Root} {H : Hp} {v : V} {ds : List D} (w : Wd K O L C H) (h : (v, PyData.tuple ds) ∈ L) : ∃ p vs, v = .ref p ∧ SqT K H p vs ∧ vs.length = ds.length ∧ Wd K O (vs.zip ds ++ L) C H := by
  obtain ⟨B, wb⟩ := w
  obtain ⟨p, vs, rfl, hl, ha⟩ := Dt.tup_inv (wb.ft _ h)
  refine ⟨p, vs, rfl, hl.sq, ha.len, B, wb.fts fun f hf => ?_⟩
  rcases List.mem_append.mp hf with e | e
  · have : ∀ {vs : List V} {ds : List D}, DtAll K B H vs ds → ∀ f ∈ vs.zip ds, Dt K B H f.1 f.2 := by
      intro vs
      induction vs with
      | nil => intro ds h f hf; cases hf
      | cons a r ih =>
        intro ds h f hf
        cases h with
        | cons x y =>
          rcases List.mem_cons.mp hf with e | e
          · subst e; exact x
          · exact ih y f e
    exact this ha f e
  · exact wb.ft f e
/-- more facts on top, taken off at the end -/
theorem sv_more {R : SM μ (Fl τ ρ)} {L1 : List (V × D)} (h : SV G Cp t σ (L1 ++ L) C R Jn Jl) {m : μ} {F : List Root} {L' : List (V × D)} {H : Hp} {d : Ends} (s : ∀ f ∈ L, f ∈ L') (w : Wd G.K G.O (L1 ++ L') (C m ++ F) H)
    (q1 : ∀ s m' σ' L2 C2 H', R m = .ok (.nx s) m' → Jn s σ' L2 C2 → Wd G.K G.O (L2 ++ L') (C2 m' ++ F) H' → d.nx σ' H')
    (q2 : ∀ s m' σ' L2 C2 H', R m = .ok (.bk s) m' → Jl s σ' L2 C2 → Wd G.K G.O (L2 ++ L') (C2 m' ++ F) H' → d.bk σ' H')
    (q3 : ∀ s m' σ' L2 C2 H', R m = .ok (.ct s) m' → Jl s σ' L2 C2 → Wd G.K G.O (L2 ++ L') (C2 m' ++ F) H' → d.ct σ' H')
    (q4 : ∀ x m' v H' L1 C1, R m = .ok (.rt x) m' → G.rf v x L1 C1 → Wd G.K G.O (L1 ++ L') (C1 ++ (Cp m' ++ F)) H' → d.rt v H') (bk : Bk G Cp F L' (R m)) : t d σ H := by
  have sb : ∀ {L3 : List (V × D)} {C3 : List Root} {H3 : Hp}, Wd G.K G.O (L3 ++ (L1 ++ L')) C3 H3 → Wd G.K G.O (L3 ++ L') C3 H3 := fun {L3 C3 H3} w3 => w3.sub fun f hf => by
    rcases List.mem_append.mp hf with e | e
    · exact List.mem_append.mpr (.inl e)
    · exact List.mem_append.mpr (.inr (List.mem_append.mpr (.inr e)))
  refine h m F (L1 ++ L') H d (fun f hf => ?_) w (fun z2 m2 σ2 L3 C3 H2 e2 j2 w2 => q1 z2 m2 σ2 L3 C3 H2 e2 j2 (sb w2)) (fun z2 m2 σ2 L3 C3 H2 e2 j2 w2 => q2 z2 m2 σ2 L3 C3 H2 e2 j2 (sb w2))
    (fun z2 m2 σ2 L3 C3 H2 e2 j2 w2 => q3 z2 m2 σ2 L3 C3 H2 e2 j2 (sb w2)) (fun x m2 v H2 L4 C4 e2 r2 w2 => q4 x m2 v H2 L4 C4 e2 r2 (sb w2)) (bk.mono fun f hf => List.mem_append.mpr (.inr hf))
  rcases List.mem_append.mp hf with e | e
  · exact List.mem_append.mpr (.inl e)
  · exact List.mem_append.mpr (.inr (s f e))
theorem tg_tup2 {gs : TGs} {k : D → D → SM μ (Fl τ ρ)} (hm : (v, x) ∈ L) (h : ∀ v1 v2 a b, SV G Cp (tTgts gs [v1, v2] u) σ ((v1, a) :: (v2, b) :: L) C (k a b) Jn Jl) : SV G Cp (tTgt (gTup G.K 2 gs) v u) σ L C (unp2 x k) Jn Jl := by
  intro m F L' H d s w q1 q2 q3 q4 bk
  unfold unp2 at bk q1 q2 q3 q4
  split at bk
  · next a b =>
    obtain ⟨p, vs, rfl, hl, hlen, w2⟩ := dt_parts w (s _ hm)
    match vs, hlen with
    | [v1, v2], _ => exact ⟨p, [v1, v2], rfl, hl, rfl, sv_more (L1 := [(v1, a), (v2, b)]) (h v1 v2 a b) s w2 q1 q2 q3 q4 bk⟩
  · exact absurd rfl bk.2
theorem tg_tup3 {gs : TGs} {k : D → D → D → SM μ (Fl τ ρ)} (hm : (v, x) ∈ L) (h : ∀ v1 v2 v3 a b c, SV G Cp (tTgts gs [v1, v2, v3] u) σ ((v1, a) :: (v2, b) :: (v3, c) :: L) C (k a b c) Jn Jl) : SV G Cp (tTgt (gTup G.K 3 gs) v u) σ L C (unp3 x k) Jn Jl := by
  intro m F L' H d s w q1 q2 q3 q4 bk
  unfold unp3 at bk q1 q2 q3 q4
  split at bk
  · next a b c =>
    obtain ⟨p, vs, rfl, hl, hlen, w2⟩ := dt_parts w (s _ hm)
    match vs, hlen with
    | [v1, v2, v3], _ => exact ⟨p, [v1, v2, v3], rfl, hl, rfl, sv_more (L1 := [(v1, a), (v2, b), (v3, c)]) (h v1 v2 v3 a b c) s w2 q1 q2 q3 q4 bk⟩
  · exact absurd rfl bk.2
theorem tg_tup4 {gs : TGs} {k : D → D → D → D → SM μ (Fl τ ρ)} (hm : (v, x) ∈ L) (h : ∀ v1 v2 v3 v4 a b c e, SV G Cp (tTgts gs [v1, v2, v3, v4] u) σ ((v1, a) :: (v2, b) :: (v3, c) :: (v4, e) :: L) C (k a b c e) Jn Jl) : SV G Cp (tTgt (gTup G.K 4 gs) v u) σ L C (unp4 x k) Jn Jl := by
  intro m F L' H d s w q1 q2 q3 q4 bk
  unfold unp4 at bk q1 q2 q3 q4
  split at bk
  · next a b c e =>
    obtain ⟨p, vs, rfl, hl, hlen, w2⟩ := dt_parts w (s _ hm)
    match vs, hlen with
    | [v1, v2, v3, v4], _ => exact ⟨p, [v1, v2, v3, v4], rfl, hl, rfl, sv_more (L1 := [(v1, a), (v2, b), (v3, c), (v4, e)]) (h v1 v2 v3 v4 a b c e) s w2 q1 q2 q3 q4 bk⟩
  · exact absurd rfl bk.2
/-- target = e, any target -/
theorem sv_asgT {g : TG} {k : D → SM μ (Fl τ ρ)} (hc : Sub Cp C) (h : EV G te σ L C E) (hk : ∀ v x, SV G Cp (tTgt g v u) σ ((v, x) :: L) C (k x) Jn Jl) : SV G Cp (tSeq (tAsg te g) u) σ L C (bd E k) Jn Jl := by
  intro m F L' H d s w q1 q2 q3 q4 b
  refine h m F L' H _ s w (fun x m1 v H1 e1 w1 => ?_) (b.fst.subC hc)
  have er : bd E k m = k x m1 := bd_ok e1
  exact sv_more (t := tTgt g v u) (L1 := [(v, x)]) (hk v x) s w1 (fun z2 m2 σ2 L3 C3 H2 e2 j2 w2 => q1 z2 m2 σ2 L3 C3 H2 (er.trans e2) j2 w2) (fun z2 m2 σ2 L3 C3 H2 e2 j2 w2 => q2 z2 m2 σ2 L3 C3 H2 (er.trans e2) j2 w2)
    (fun z2 m2 σ2 L3 C3 H2 e2 j2 w2 => q3 z2 m2 σ2 L3 C3 H2 (er.trans e2) j2 w2) (fun x m2 v H2 L4 C4 e2 r2 w2 => q4 x m2 v H2 L4 C4 (er.trans e2) r2 w2) (by rw [er] at b; exact b)
/-! ### comprehensions -/
theorem tv_yes : TV G tYes σ L C (pu true : SM μ Bool) := fun m F L' H Q s w q _ => q true m H rfl w
/-- the new list, on top of what is not told -/
theorem Wd.acc {K : PySem.W.Frag} {O : Og} {L : List (V × D)} {C F : List Root} {H : Hp} {p : Addr} (w : Wd K O L (C ++ F) H) (hp : H p = none) : Wd K O L (C ++ (rootL K p (.list []) :: F)) (upd H p (.lst [])) :=
  (Wd.root (ds := []) w hp .nil).perm List.perm_middle.symm
theorem lcS_step {T : D → SM μ Bool} {E : D → SM μ D} {xs acc : List D} : True := trivial
/-- the walk of a comprehension: g, the target, in σ2; by turns -/
theorem ev_lcG {wi : TI} {I : SM μ (List D)} {T : D → SM μ Bool} {E : D → SM μ D} {g : TG} {vs : List Nat} (hi : IV G wi σ L C I)
    (ht : ∀ v x m F L' H (Q : St → Hp → Prop), (∀ f ∈ (v, x) :: L, f ∈ L') → Wd G.K G.O L' (C m ++ F) H → T x m ≠ .bad →
      (∀ σ2 L1, (∀ f ∈ L', f ∈ L1) → wipe σ2 vs = wipe σ vs → Wd G.K G.O L1 (C m ++ F) H → TV G tt σ2 L1 C (T x) → EV G te σ2 L1 C (E x) → Q σ2 H) → g v (wipe σ vs) H Q) :
    EV G (tLc wi g tt te vs) σ L C (lc I T E) := by
  intro m F L' H Q s w q bk
  refine hi m F L' H _ s w (fun xs m1 It H1 L1 e1 s1 w1 hit => ?_) bk.fst
  have b1 := bk.snd e1
  have er : lc I T E m = bd (lcS T E xs []) (fun ys => pu (.list ys)) m1 := bd_ok e1
  intro A hA
  refine ⟨fun i n H' => n = xs.length - i ∧ i ≤ xs.length ∧ ∃ m' acc, lcS T E xs [] m1 = lcS T E (xs.drop i) acc m' ∧ Wd G.K G.O L1 (C m' ++ (rootL G.K A (.list acc) :: F)) H', ⟨xs.length, by simp, Nat.zero_le _, m1, [], rfl, w1.acc hA⟩, ?_⟩
  rintro i n H' ⟨rfl, hin, m', acc, ez, wz⟩
  have hI := hit _ _ _ (fun f hf => hf) wz i
  have hAO : A ∉ G.O.fp := by
    obtain ⟨B, wb⟩ := w1
    exact wb.nofp hA
  by_cases hlt : i < xs.length
  · have hx : xs[i]? = some xs[i] := List.getElem?_eq_getElem hlt
    obtain ⟨go, hy⟩ := hI.1 _ hx
    rw [forS_step hx] at ez
    refine .inr ⟨go, fun H'' => ∃ m' acc, lcS T E xs [] m1 = lcS T E (xs.drop (i + 1)) acc m' ∧ Wd G.K G.O L1 (C m' ++ (rootL G.K A (.list acc) :: F)) H'', fun H'' hN => ⟨xs.length - (i + 1), by omega, rfl, hlt, hN⟩, fun v H2 y => ?_⟩
    have w2 := hy v H2 y
    have b2 : Bk G C F L' (lcS T E (xs[i] :: xs.drop (i + 1)) acc m') := by
      have := b1.fst
      rw [ez] at this
      exact this
    have b3 : Bk G C F L' (T xs[i] m') := (show Bk G C F L' (bd (T xs[i]) _ m') from b2).fst
    have toF : ∀ {α : Type} {acc : List D} {r : Rs μ α}, Bk G C F L' r → Bk G C (rootL G.K A (.list acc) :: F) L' r := fun {α acc r} b => ⟨fun e m' cls d H' q w => b.1 e m' cls d H' q (w.subC (((List.Sublist.refl _).append (List.sublist_cons_self _ _)).cons₂ _)), b.2⟩
    refine ht v xs[i] m' (rootL G.K A (.list acc) :: F) ((v, xs[i]) :: L1) H2 _ (fun f hf => ?_) w2 b3.2 (fun σ2 L2 sL2 hw w3 hT hE => ⟨hw, ?_⟩)
    · rcases List.mem_cons.mp hf with e | e
      · rw [e]; exact .head _
      · exact .tail _ (s1 f (s f e))
    · refine hT m' (rootL G.K A (.list acc) :: F) L2 H2 _ (fun f hf => hf) w3 (fun c m3 H3 e3 w4 => ?_) ((toF b3).mono fun f hf => sL2 f (.tail _ (s1 f hf)))
      have e4 : lcS T E (xs[i] :: xs.drop (i + 1)) acc m' = (if c then bd (E xs[i]) fun y => if acc.length < sizeLine then lcS T E (xs.drop (i + 1)) (acc ++ [y]) else bad else lcS T E (xs.drop (i + 1)) acc) m3 := bd_ok e3
      have sb : ∀ {C3 : List Root} {H3 : Hp}, Wd G.K G.O L2 C3 H3 → Wd G.K G.O L1 C3 H3 := fun {C3 H3} w => w.sub fun f hf => sL2 f (.tail _ hf)
      cases c with
      | false =>
        rw [if_neg (by decide)]
        exact ⟨m3, acc, ez.trans e4, sb w4⟩
      | true =>
        rw [if_pos rfl]
        have b4 : Bk G C F L' (bd (E xs[i]) (fun y => if acc.length < sizeLine then lcS T E (xs.drop (i + 1)) (acc ++ [y]) else bad) m3) := by
          rw [e4] at b2
          exact b2
        refine hE m3 (rootL G.K A (.list acc) :: F) L2 H3 _ (fun f hf => hf) w4 (fun y m4 u H4 e5 w5 => ?_) ((toF b4.fst).mono fun f hf => sL2 f (.tail _ (s1 f hf)))
        have b5 := b4.snd e5
        by_cases hz : acc.length < sizeLine
        · have w6 := w5.perm List.perm_middle
          obtain ⟨B, wb⟩ := w6
          obtain ⟨ds, us, e6, hA4, hda⟩ := wb.rt _ (.head _)
          cases e6
          refine ⟨us, hA4, by rw [hda.len]; exact hz, m4, acc ++ [y], ez.trans (e4.trans ?_), ?_⟩
          · show bd (E xs[i]) _ m3 = _
            rw [bd_ok e5, if_pos hz]
          · have w7 : Wd G.K G.O ((u, y) :: L2) (rootL G.K A (.list (acc ++ [y])) :: (C m4 ++ F)) (upd H4 A (.lst (us ++ [u]))) :=
              Wd.put ⟨B, wb⟩ fun B' f hr => by
                obtain ⟨ds', us', e6, hA5, hda5⟩ := hr
                cases e6
                rw [hA4] at hA5
                cases hA5
                exact hda5.app (.cons (f _ (.head _)) .nil)
            exact (w7.perm List.perm_middle.symm).sub fun f hf => .tail _ (sL2 f (.tail _ hf))
        · rw [if_neg hz] at b5
          exact absurd rfl b5.2
  · have e : i = xs.length := by omega
    subst e
    rw [List.drop_length] at ez
    refine .inl ⟨hI.2 (Nat.le_refl _), ?_⟩
    have w2 := (wz.perm List.perm_middle).freeze hAO
    refine q (.list acc) m' (.ref A) H' ?_ (w2.sub fun f hf => ?_)
    · rw [er]
      show bd (lcS T E xs []) _ m1 = _
      rw [bd_ok (show lcS T E xs [] m1 = .ok acc m' from ez)]; rfl
    · rcases List.mem_cons.mp hf with e | e
      · rw [e]; exact .head _
      · exact .tail _ (s1 f e)
theorem TV.sub {T : SM μ Bool} {L0 : List (V × D)} (h : TV G tt σ L0 C T) (s : ∀ f ∈ L0, f ∈ L) : TV G tt σ L C T := fun m F L' H Q s' w q b => h m F L' H Q (fun f hf => s' f (s f hf)) w q b
theorem EV.sub {L0 : List (V × D)} (h : EV G te σ L0 C E) (s : ∀ f ∈ L0, f ∈ L) : EV G te σ L C E := fun m F L' H Q s' w q b => h m F L' H Q (fun f hf => s' f (s f hf)) w q b
/-- one name -/
theorem ev_lc1 {wi : TI} {I : SM μ (List D)} {T : D → SM μ Bool} {E : D → SM μ D} {vs : List Nat} {σ2 : V → St} (hi : IV G wi σ L C I) (hσ : ∀ v, (wipe σ vs).set i (some v) = σ2 v) (hw : ∀ v, wipe (σ2 v) vs = wipe σ vs)
    (hT : ∀ v x, TV G tt (σ2 v) ((v, x) :: L) C (T x)) (hE : ∀ v x, EV G te (σ2 v) ((v, x) :: L) C (E x)) : EV G (tLc wi (gName i) tt te vs) σ L C (lc I T E) :=
  ev_lcG hi fun v x m F L' H Q s w _ q => by
    show Q ((wipe σ vs).set i (some v)) H
    rw [hσ]
    exact q (σ2 v) L' (fun f hf => hf) (hw v) w ((hT v x).sub s) ((hE v x).sub s)
/-- two names -/
theorem ev_lc2 {wi : TI} {I : SM μ (List D)} {T : D → D → SM μ Bool} {E : D → D → SM μ D} {vs : List Nat} {σ2 : V → V → St} (hi : IV G wi σ L C I) (hσ : ∀ v w, ((wipe σ vs).set i (some v)).set j (some w) = σ2 v w) (hw : ∀ v w, wipe (σ2 v w) vs = wipe σ vs)
    (hT : ∀ v w x y, TV G tt (σ2 v w) ((v, x) :: (w, y) :: L) C (T x y)) (hE : ∀ v w x y, EV G te (σ2 v w) ((v, x) :: (w, y) :: L) C (E x y)) : EV G (tLc wi (gTup G.K 2 (gCons (gName i) (gCons (gName j) gNil))) tt te vs) σ L C (lc I (fun z => unp2 z T) (fun z => unp2 z E)) :=
  ev_lcG hi fun v x m F L' H Q s w b q => by
    unfold unp2 at b
    split at b
    · next a c =>
      obtain ⟨p, us, rfl, hl, hlen, w2⟩ := dt_parts w (s _ (.head _))
      match us, hlen with
      | [v1, v2], _ =>
        refine ⟨p, [v1, v2], rfl, hl, rfl, v1, [v2], rfl, v2, [], rfl, rfl, ?_⟩
        show Q (((wipe σ vs).set i (some v1)).set j (some v2)) H
        rw [hσ]
        have s2 : ∀ f ∈ (v1, a) :: (v2, c) :: L, f ∈ [v1, v2].zip [a, c] ++ L' := fun f hf => by
          rcases List.mem_cons.mp hf with e | hf
          · rw [e]; exact .head _
          · rcases List.mem_cons.mp hf with e | hf
            · rw [e]; exact .tail _ (.head _)
            · exact .tail _ (.tail _ (s f (.tail _ hf)))
        exact q (σ2 v1 v2) _ (fun f hf => .tail _ (.tail _ hf)) (hw v1 v2) w2 ((hT v1 v2 a c).sub s2) ((hE v1 v2 a c).sub s2)
    · exact absurd rfl b
end
/-! ### defs: promises by mirrors -/
section
open SM
/-- a def that changes nothing -/
def SpPX (K : PySem.W.Frag) (XR : D → Value → Option Addr → Root) (n : Nat) (mf : List D → SM Unit D) : Sp := fun vs H Q E => vs.length = n ∧ ∃ (B : Addr → Prop) (ds : List D), (∀ p, B p → ∃ o, H p = some o) ∧ DtAll K B H vs ds ∧ mf ds () ≠ .bad ∧
  (∀ x v H' B', mf ds () = .ok x () → Same H H' → (∀ p, B p → B' p) → (∀ p, B' p → B p ∨ (H p = none ∧ ∃ o, H' p = some o)) → Dt K B' H' v x → Q v H') ∧
  (∀ e cls d H' B', mf ds () = .exc e () → Same H H' → (∀ p, B p → B' p) → (∀ p, B' p → B p ∨ (H p = none ∧ ∃ o, H' p = some o)) → (XR e cls d).P B' H' → (∀ p ∈ (XR e cls d).fp H', H p = none ∧ ¬ B' p) → ((XR e cls d).fp H').Nodup → E cls d H')
/-- a def that changes the list that it is handed first -/
def SpDX (K : PySem.W.Frag) (XR : D → Value → Option Addr → Root) (n : Nat) (mf : List D → SM D D) : Sp := fun vs H Q E => vs.length = n + 1 ∧ ∃ (B : Addr → Prop) (a : Addr) (us : List V) (ds : List D) (m : D), vs = .ref a :: us ∧ (∀ p, B p → ∃ o, H p = some o) ∧ ¬ B a ∧ DtAll K B H us ds ∧ (rootL K a m).P B H ∧ mf ds m ≠ .bad ∧
  (∀ x m' v H' B', mf ds m = .ok x m' → (∀ p o, p ≠ a → H p = some o → H' p = some o) → (∀ p, B p → B' p) → (∀ p, B' p → B p ∨ (H p = none ∧ ∃ o, H' p = some o)) → Dt K B' H' v x → (rootL K a m').P B' H' → Q v H') ∧
  (∀ e m' cls d H' B', mf ds m = .exc e m' → (∀ p o, p ≠ a → H p = some o → H' p = some o) → (∀ p, B p → B' p) → (∀ p, B' p → B p ∨ (H p = none ∧ ∃ o, H' p = some o)) → (XR e cls d).P B' H' → (∀ p ∈ (XR e cls d).fp H', H p = none ∧ ¬ B' p) → ((XR e cls d).fp H').Nodup → (rootL K a m').P B' H' → E cls d H')
/-- the same of defs that raise nothing -/
def SpP (K : PySem.W.Frag) (n : Nat) (mf : List D → SM Unit D) : Sp := fun vs H Q _ => vs.length = n ∧ ∃ (B : Addr → Prop) (ds : List D) (x : D), (∀ p, B p → ∃ o, H p = some o) ∧ DtAll K B H vs ds ∧ mf ds () = .ok x () ∧
  (∀ v H' B', Same H H' → (∀ p, B p → B' p) → (∀ p, B' p → B p ∨ (H p = none ∧ ∃ o, H' p = some o)) → Dt K B' H' v x → Q v H')
def SpD (K : PySem.W.Frag) (n : Nat) (mf : List D → SM D D) : Sp := fun vs H Q _ => vs.length = n + 1 ∧ ∃ (B : Addr → Prop) (a : Addr) (us : List V) (ds : List D) (m x m' : D), vs = .ref a :: us ∧ (∀ p, B p → ∃ o, H p = some o) ∧ ¬ B a ∧ DtAll K B H us ds ∧ (rootL K a m).P B H ∧ mf ds m = .ok x m' ∧
  (∀ v H' B', (∀ p o, p ≠ a → H p = some o → H' p = some o) → (∀ p, B p → B' p) → (∀ p, B' p → B p ∨ (H p = none ∧ ∃ o, H' p = some o)) → Dt K B' H' v x → (rootL K a m').P B' H' → Q v H')
def SpN (K : PySem.W.Frag) (n : Nat) (mf : List D → SM Unit D) : Sp := fun vs H Q _ => vs.length = n ∧ ∃ (B : Addr → Prop) (ds : List D) (x : D), (∀ p, B p → ∃ o, H p = some o) ∧ DtAll K B H vs ds ∧ mf ds () = .ok x () ∧
  (∀ a H' B', Same H H' → (∀ p, B p → B' p) → (∀ p, B' p → B p ∨ (H p = none ∧ ∃ o, H' p = some o)) → H a = none → ¬ B' a → (rootL K a x).P B' H' → Q (.ref a) H')
end
namespace SM
variable {μ : Type}
def u0 (f : SM μ D) : List D → SM μ D
  | [] => f
  | _ => bad
def u1 (f : D → SM μ D) : List D → SM μ D
  | [a] => f a
  | _ => bad
def u2 (f : D → D → SM μ D) : List D → SM μ D
  | [a, b] => f a b
  | _ => bad
def u3 (f : D → D → D → SM μ D) : List D → SM μ D
  | [a, b, c] => f a b c
  | _ => bad
def u4 (f : D → D → D → D → SM μ D) : List D → SM μ D
  | [a, b, c, d] => f a b c d
  | _ => bad
def u5 (f : D → D → D → D → D → SM μ D) : List D → SM μ D
  | [a, b, c, d, e] => f a b c d e
  | _ => bad
def u6 (f : D → D → D → D → D → D → SM μ D) : List D → SM μ D
  | [a, b, c, d, e, g] => f a b c d e g
  | _ => bad
def u7 (f : D → D → D → D → D → D → D → SM μ D) : List D → SM μ D
  | [a, b, c, d, e, g, h] => f a b c d e g h
  | _ => bad
def cP (mf : List D → SM Unit D) (Es : SM μ (List D)) : SM μ D := bd Es fun xs => px (mf xs)
def cD (mf : List D → SM μ D) (Es : SM μ (List D)) : SM μ D := bd Es fun xs => qx (mf xs)
def cPX (mf : List D → SM Unit D) (Es : SM μ (List D)) : SM μ D := bd Es fun xs => p0 (mf xs)
def cDX (mf : List D → SM μ D) (Es : SM μ (List D)) : SM μ D := bd Es fun xs => mf xs
theorem u0_len {f : SM μ D} {ds : List D} {m : μ} (h : u0 f ds m ≠ .bad) : ds.length = 0 := by unfold u0 at h; split at h <;> first | rfl | exact absurd rfl h
theorem u1_len {f : D → SM μ D} {ds : List D} {m : μ} (h : u1 f ds m ≠ .bad) : ds.length = 1 := by unfold u1 at h; split at h <;> first | rfl | exact absurd rfl h
theorem u2_len {f : D → D → SM μ D} {ds : List D} {m : μ} (h : u2 f ds m ≠ .bad) : ds.length = 2 := by unfold u2 at h; split at h <;> first | rfl | exact absurd rfl h
theorem u3_len {f : D → D → D → SM μ D} {ds : List D} {m : μ} (h : u3 f ds m ≠ .bad) : ds.length = 3 := by unfold u3 at h; split at h <;> first | rfl | exact absurd rfl h
theorem u4_len {f : D → D → D → D → SM μ D} {ds : List D} {m : μ} (h : u4 f ds m ≠ .bad) : ds.length = 4 := by unfold u4 at h; split at h <;> first | rfl | exact absurd rfl h
theorem u5_len {f : D → D → D → D → D → SM μ D} {ds : List D} {m : μ} (h : u5 f ds m ≠ .bad) : ds.length = 5 := by unfold u5 at h; split at h <;> first | rfl | exact absurd rfl h
theorem u6_len {f : D → D → D → D → D → D → SM μ D} {ds : List D} {m : μ} (h : u6 f ds m ≠ .bad) : ds.length = 6 := by unfold u6 at h; split at h <;> first | rfl | exact absurd rfl h
theorem u7_len {f : D → D → D → D → D → D → D → SM μ D} {ds : List D} {m : μ} (h : u7 f ds m ≠ .bad) : ds.length = 7 := by unfold u7 at h; split at h <;> first | rfl | exact absurd rfl h
end SM
section
open SM
variable {X : Cx} {μ τ τ' ρ : Type} {G : Gx} {σ : St} {L : List (V × D)} {C Cp : μ → List Root} {te ta tb tc : TE} {tt tu : TT} {t u : TS} {E E1 E2 E3 : SM μ D} {T T1 T2 : SM μ Bool} {Jn : Shp μ τ} {Jl : Shp μ ρ} {i j : Nat} {v : V} {x : D}
theorem AV.len {ta : TA} {Es : SM μ (List D)} : True := trivial
/-- a further root beside what stands -/
theorem Wb.addR {K : PySem.W.Frag} {O : Og} {B : Addr → Prop} {L : List (V × D)} {Z : List Root} {H : Hp} {r : Root} (wb : Wb K O B L Z H) (hr : r.P B H) (hf : ∀ p ∈ r.fp H, O.H p = Option.none ∧ ¬ B p ∧ p ∉ fps Z H) (hn : (r.fp H).Nodup) : Wb K O B L (r :: Z) H := by
  refine ⟨wb.lo, wb.hi, ?_, fun p hp => ?_, fun p hp => ?_, fun c hc => ?_, wb.ft, wb.kp, wb.oc, wb.bo⟩
  · rw [fps_cons]
    exact List.nodup_append.mpr ⟨hn, wb.nd, fun a ha b hb e => (hf a ha).2.2 (e ▸ hb)⟩
  · rw [fps_cons] at hp
    rcases List.mem_append.mp hp with z | z
    · exact (hf p z).2.1
    · exact wb.nb p z
  · rw [fps_cons] at hp
    rcases List.mem_append.mp hp with z | z
    · exact .inr (hf p z).1
    · exact wb.fr p z
  · rcases List.mem_cons.mp hc with e | e
    · rw [e]; exact hr
    · exact wb.rt c e
theorem ev_cPX {ta : TA} {Es : SM μ (List D)} {mf : List D → SM Unit D} {n : Nat} (hn : ∀ ds, mf ds () ≠ .bad → ds.length = n) (h : AV G ta σ L C Es) : EV G (tCall (SpPX G.K G.XR n mf) [] G.Xk ta) σ L C (cPX mf Es) := by
  intro m F L' H Q s w q b
  refine h m F L' H _ s w (fun xs m1 vs H1 L2 e1 s2 i2 w1 => ?_) b.fst
  have b1 := b.snd e1
  have er : cPX mf Es m = p0 (mf xs) m1 := bd_ok e1
  rw [List.append_nil]
  have nb : mf xs () ≠ .bad := fun z => by
    exact b1.2 (p0_bad z)
  obtain ⟨B, wb⟩ := w1
  refine ⟨by rw [i2.len]; exact hn xs nb, B, xs, wb.bo, i2.dt wb.ft, nb, fun x v H' B' ex sm h1 h2 hd => ?_, fun e cls d H' B' ex sm h1 h2 xr xf xn => ?_⟩
  · refine q x m1 v H' ?_ ⟨B', ((wb.grow sm h1 h2).fact hd).fts fun f hf => ?_⟩
    · rw [er]
      exact p0_ok ex
    · rcases List.mem_cons.mp hf with e | e
      · subst e; exact hd
      · exact (wb.grow sm h1 h2).ft f (s2 f e)
  · refine b.1 e m1 cls d H' ?_ ⟨B', ((wb.grow sm h1 h2).addR xr (fun p hp => ⟨wb.none (xf p hp).1, (xf p hp).2, by rw [wb.same sm]; exact wb.free (xf p hp).1⟩) xn).fts fun f hf => (wb.grow sm h1 h2).ft f (s2 f hf)⟩
    rw [er]
    exact p0_exc ex
theorem Wb.chg_same {K : PySem.W.Frag} {O : Og} {B B' : Addr → Prop} {L : List (V × D)} {Z : List Root} {H H' : Hp} {a : Addr} {m m' : D} (wb : Wb K O B L (rootL K a m :: Z) H) (hk : ∀ p o, p ≠ a → H p = some o → H' p = some o) (h1 : ∀ p, B p → B' p) : fps (rootL K a m' :: Z) H' = fps (rootL K a m :: Z) H := by
  have ha : ¬ B a := wb.nb a (by rw [fps_cons]; exact .head _)
  have hnd := wb.nd
  rw [fps_cons] at hnd
  have hna : a ∉ fps Z H := (List.nodup_cons.mp hnd).1
  have k : Kp B H B' H' := fun p o b e => ⟨h1 p b, hk p o (fun z => ha (by rw [← z]; exact b)) e⟩
  rw [fps_cons, fps_cons, fps_same k (fun c hc => wb.rt c (.tail _ hc)) fun q hq => ?_]
  · rfl
  · obtain ⟨c, hc, hq2⟩ := List.mem_flatMap.mp hq
    obtain ⟨o, ho⟩ := c.occ (wb.rt c (.tail _ hc)) q hq2
    rw [ho]
    exact hk q o (fun z => hna (by rw [← z]; exact hq)) ho
/-- the first root was changed, the rest kept -/
theorem Wb.chg {K : PySem.W.Frag} {O : Og} {B B' : Addr → Prop} {L : List (V × D)} {Z : List Root} {H H' : Hp} {a : Addr} {m m' : D} (wb : Wb K O B L (rootL K a m :: Z) H) (hk : ∀ p o, p ≠ a → H p = some o → H' p = some o)
    (h1 : ∀ p, B p → B' p) (h2 : ∀ p, B' p → B p ∨ (H p = Option.none ∧ ∃ o, H' p = some o)) (hr : (rootL K a m').P B' H') : Wb K O B' L (rootL K a m' :: Z) H' := by
  have ha : ¬ B a := wb.nb a (by rw [fps_cons]; exact .head _)
  have hnd := wb.nd
  rw [fps_cons] at hnd
  have hna : a ∉ fps Z H := (List.nodup_cons.mp hnd).1
  obtain ⟨_, _, _, hoc, _⟩ := wb.rt _ (.head _)
  have k : Kp B H B' H' := fun p o b e => ⟨h1 p b, hk p o (fun z => ha (by rw [← z]; exact b)) e⟩
  have es : fps (rootL K a m' :: Z) H' = fps (rootL K a m :: Z) H := wb.chg_same hk h1
  refine ⟨fun p b => h1 p (wb.lo p b), fun p b => ?_, by rw [es]; exact wb.nd, fun p hp b => ?_, fun p hp => wb.fr p (by rw [← es]; exact hp), fun c hc => ?_, fun f hf => Dt.mono k _ _ (wb.ft f hf), fun p o hp e => ?_, fun p hp => ?_, fun p b => ?_⟩
  · rcases h2 p b with b | n
    · exact wb.hi p b
    · exact .inr (wb.none n.1)
  · rw [es] at hp
    rcases h2 p b with b | n
    · exact wb.nb p hp b
    · exact wb.free n.1 hp
  · rcases List.mem_cons.mp hc with e | e
    · subst e; exact hr
    · refine c.mono k (fun p hp => ?_) (wb.rt c (.tail _ e))
      obtain ⟨o, ho⟩ := c.occ (wb.rt c (.tail _ e)) p hp
      rw [ho]
      exact hk p o (fun z => hna (by rw [← z]; exact mem_fps e hp)) ho
  · by_cases z : p = a
    · subst z
      rcases wb.fr p (by rw [fps_cons]; exact .head _) with y | y
      · exact absurd y hp
      · rw [y] at e; cases e
    · exact hk p o z (wb.kp p o hp e)
  · by_cases z : p = a
    · subst z
      obtain ⟨_, vs, _, h, _⟩ := hr
      exact ⟨_, h⟩
    · obtain ⟨o, ho⟩ := wb.oc p hp
      exact ⟨o, hk p o z ho⟩
  · rcases h2 p b with b | n
    · obtain ⟨o, ho⟩ := wb.bo p b
      exact ⟨o, hk p o (fun z => ha (by rw [← z]; exact b)) ho⟩
    · exact n.2
/-- a call that changes the root, which is the state -/
theorem ev_cDX {ta : TA} {Z : List Root} {Es : SM D (List D)} {mf : List D → SM D D} {n : Nat} {a : Addr} (hσ : σ[i]? = some (some (.ref a))) (hn : ∀ ds m, mf ds m ≠ .bad → ds.length = n) (h : AV G ta σ L (fun m => rootL G.K a m :: Z) Es) :
    EV G (tCall (SpDX G.K G.XR n mf) [] G.Xk (tCons (tVar i) ta)) σ L (fun m => rootL G.K a m :: Z) (cDX mf Es) := by
  intro m F L' H Q s w q b
  refine ⟨.ref a, hσ, h m F L' H _ s w (fun xs m1 vs H1 L2 e1 s2 i2 w1 => ?_) b.fst⟩
  have b1 := b.snd e1
  have er : cDX mf Es m = mf xs m1 := bd_ok e1
  show SpDX G.K G.XR n mf ((.ref a :: vs) ++ []) H1 Q G.Xk
  rw [List.append_nil]
  obtain ⟨B, wb⟩ := w1
  have ha : ¬ B a := wb.nb a (by rw [List.cons_append, fps_cons]; exact .head _)
  refine ⟨by rw [List.length_cons, i2.len, hn xs m1 b1.2], B, a, vs, xs, m1, rfl, wb.bo, ha, i2.dt wb.ft, wb.rt _ (.head _), b1.2, fun x m' v H' B' ex hk h1 h2 hd hr => ?_, fun e m' cls d H' B' ex hk h1 h2 xr xf xn hr => ?_⟩
  · have w2 := Wb.chg (Z := Z ++ F) wb hk h1 h2 hr
    refine q x m' v H' (er.trans ex) ⟨B', ?_⟩
    refine (w2.fact hd).fts fun f hf => ?_
    rcases List.mem_cons.mp hf with e | e
    · subst e; exact hd
    · exact w2.ft f (s2 f e)
  · have w2 := Wb.chg (Z := Z ++ F) wb hk h1 h2 hr
    refine b.1 e m' cls d H' (er.trans ex) ⟨B', ?_⟩
    exact (w2.addR xr (fun p hp => ⟨wb.none (xf p hp).1, (xf p hp).2, by rw [Wb.chg_same (Z := Z ++ F) wb hk h1]; exact wb.free (xf p hp).1⟩) xn).fts fun f hf => w2.ft f (s2 f hf)
theorem ev_cP {ta : TA} {Es : SM μ (List D)} {mf : List D → SM Unit D} {n : Nat} (hn : ∀ ds, mf ds () ≠ .bad → ds.length = n) (h : AV G ta σ L C Es) : EV G (tCall (SpP G.K n mf) [] E0 ta) σ L C (cP mf Es) := by
  intro m F L' H Q s w q b
  refine h m F L' H _ s w (fun xs m1 vs H1 L2 e1 s2 i2 w1 => ?_) b.fst
  have b1 := b.snd e1
  have er : cP mf Es m = px (mf xs) m1 := bd_ok e1
  rw [List.append_nil]
  obtain ⟨x, ex⟩ := px_nb b1.2
  obtain ⟨B, wb⟩ := w1
  refine ⟨by rw [i2.len]; exact hn xs (by rw [ex]; intro z; cases z), B, xs, x, wb.bo, i2.dt wb.ft, ex, fun v H' B' sm h1 h2 hd => ?_⟩
  refine q x m1 v H' (er.trans (px_ok ex)) ⟨B', ((wb.grow sm h1 h2).fact hd).fts fun f hf => ?_⟩
  rcases List.mem_cons.mp hf with e | e
  · subst e; exact hd
  · exact (wb.grow sm h1 h2).ft f (s2 f e)
theorem ev_cP0 {mf : List D → SM Unit D} {n : Nat} (hn : ∀ ds, mf ds () ≠ .bad → ds.length = n) : EV G (fun _ H Q => SpP G.K n mf [] H Q E0) σ L C (cP mf a0) := by
  intro m F L' H Q s w q b
  have b1 : Bk G C F L' (px (mf []) m) := b.snd (a := []) (m' := m) rfl
  obtain ⟨x, ex⟩ := px_nb b1.2
  obtain ⟨B, wb⟩ := w
  refine ⟨hn [] (by rw [ex]; intro z; cases z), B, [], x, wb.bo, .nil, ex, fun v H' B' sm h1 h2 hd => ?_⟩
  exact q x m v H' (px_ok ex) ⟨B', (wb.grow sm h1 h2).fact hd⟩
theorem ev_cD {ta : TA} {Z : List Root} {Es : SM D (List D)} {mf : List D → SM D D} {n : Nat} {a : Addr} (hσ : σ[i]? = some (some (.ref a))) (hn : ∀ ds m, mf ds m ≠ .bad → ds.length = n) (h : AV G ta σ L (fun m => rootL G.K a m :: Z) Es) :
    EV G (tCall (SpD G.K n mf) [] E0 (tCons (tVar i) ta)) σ L (fun m => rootL G.K a m :: Z) (cD mf Es) := by
  intro m F L' H Q s w q b
  refine ⟨.ref a, hσ, h m F L' H _ s w (fun xs m1 vs H1 L2 e1 s2 i2 w1 => ?_) b.fst⟩
  have b1 := b.snd e1
  have er : cD mf Es m = qx (mf xs) m1 := bd_ok e1
  show SpD G.K n mf ((.ref a :: vs) ++ []) H1 Q E0
  rw [List.append_nil]
  obtain ⟨x, m', ex⟩ := qx_nb b1.2
  obtain ⟨B, wb⟩ := w1
  have ha : ¬ B a := wb.nb a (by rw [List.cons_append, fps_cons]; exact .head _)
  refine ⟨by rw [List.length_cons, i2.len, hn xs m1 (by rw [ex]; intro z; cases z)], B, a, vs, xs, m1, x, m', rfl, wb.bo, ha, i2.dt wb.ft, wb.rt _ (.head _), ex, fun v H' B' hk h1 h2 hd hr => ?_⟩
  have w2 := Wb.chg (Z := Z ++ F) wb hk h1 h2 hr
  refine q x m' v H' (er.trans (qx_ok ex)) ⟨B', (w2.fact hd).fts fun f hf => ?_⟩
  rcases List.mem_cons.mp hf with e | e
  · subst e; exact hd
  · exact w2.ft f (s2 f e)
/-! ### bodies -/
theorem in2_zip : ∀ {vs : List V} {ds : List D}, vs.length = ds.length → In2 (vs.zip ds) vs ds
  | [], [], _ => .nil
  | v :: vs, d :: ds, h => .cons (.head _) ((in2_zip (by simpa using h)).mono fun f hf => .tail _ hf)
theorem zip_dt {K : PySem.W.Frag} {B : Addr → Prop} {H : Hp} : ∀ {vs : List V} {ds : List D}, DtAll K B H vs ds → ∀ f ∈ vs.zip ds, Dt K B H f.1 f.2
  | [], _, _, f, hf => by cases hf
  | a :: r, _, h, f, hf => by
    cases h with
    | cons x y =>
      rcases List.mem_cons.mp hf with e | e
      · subst e; exact x
      · exact zip_dt y f e
/-- the body of a def that changes nothing keeps its promise -/
theorem body_PX {K : PySem.W.Frag} {XR : D → Value → Option Addr → Root} {n : Nat} {mf : List D → SM Unit D} {ts : TS} {N : List Str} {H : Hp} {vs : List V} {Q : VK} {E : XK} (hsp : SpPX K XR n mf vs H Q E)
    (h : ∀ (ds : List D) (O : Og), vs.length = ds.length → ∃ (R : SM Unit (Fl Unit Empty)), mf ds = fin R ∧ SV ⟨K, O, E, XR, rfF⟩ (fun _ => []) ts (start N vs) (vs.zip ds) (fun _ => []) R (fun _ _ _ _ => True) (fun z _ _ _ => z.elim)) : ts { nx := fun _ H' => Q .non H', rt := Q } (start N vs) H := by
  obtain ⟨_, B, ds, hb, hd, nb, q, qx⟩ := hsp
  obtain ⟨R, hR, hS⟩ := h ds ⟨B, H, []⟩ hd.len
  have w0 : Wd K ⟨B, H, []⟩ (vs.zip ds) ([] ++ []) H := ⟨B, fun p b => b, fun p b => .inl b, List.nodup_nil, fun p hp => (by cases hp), fun p hp => (by cases hp), fun c hc => (by cases hc), zip_dt hd, fun p o _ e => e, fun p hp => (by cases hp), hb⟩
  have same : ∀ {L : List (V × D)} {C : List Root} {H' : Hp}, Wd K ⟨B, H, []⟩ L C H' → Same H H' := fun {L C H'} w p o e => by
    obtain ⟨B', wb⟩ := w
    exact wb.kp p o (by intro z; cases z) e
  refine hS () [] (vs.zip ds) H _ (fun f hf => hf) w0 ?_ ?_ ?_ ?_ ?_
  · intro s m' σ' L2 C2 H' e _ w
    have sm := same w
    obtain ⟨B', wb⟩ := w
    refine q .none .non H' B' ?_ sm wb.lo (fun p b => ?_) .non
    · rw [hR]
      exact bd_ok e
    · rcases wb.hi p b with z | z
      · exact .inl z
      · exact .inr ⟨z, wb.bo p b⟩
  · intro s; exact s.elim
  · intro s; exact s.elim
  · rintro x m' v H' _ _ e ⟨rfl, rfl⟩ w
    have sm := same w
    obtain ⟨B', wb⟩ := w
    refine q x v H' B' ?_ sm wb.lo (fun p b => ?_) (wb.ft _ (.head _))
    · rw [hR]
      exact bd_ok e
    · rcases wb.hi p b with z | z
      · exact .inl z
      · exact .inr ⟨z, wb.bo p b⟩
  · refine ⟨fun e m' cls d H' ex w => ?_, fun z => nb ?_⟩
    · have sm := same w
      obtain ⟨B', wb⟩ := w
      have hm : ∀ p ∈ (XR e cls d).fp H', p ∈ fps (XR e cls d :: ([] ++ [])) H' := fun p hp => by rw [fps_cons]; exact List.mem_append.mpr (.inl hp)
      refine qx e cls d H' B' ?_ sm wb.lo (fun p b => ?_) (wb.rt _ (.head _)) (fun p hp => ⟨(wb.fr p (hm p hp)).resolve_left (by intro z; cases z), wb.nb p (hm p hp)⟩) ?_
      · rw [hR]
        exact bd_exc ex
      · rcases wb.hi p b with z | z
        · exact .inl z
        · exact .inr ⟨z, wb.bo p b⟩
      · have := wb.nd
        rw [fps_cons] at this
        exact (List.nodup_append.mp this).1
    · rw [hR]
      exact bd_bad z
/-- the body of a def that changes the list that it is handed first -/
theorem body_DX {K : PySem.W.Frag} {XR : D → Value → Option Addr → Root} {n : Nat} {mf : List D → SM D D} {ts : TS} {N : List Str} {H : Hp} {vs : List V} {Q : VK} {E : XK} (hsp : SpDX K XR n mf vs H Q E)
    (h : ∀ (a : Addr) (us : List V) (ds : List D) (O : Og), vs = .ref a :: us → us.length = ds.length → ∃ (R : SM D (Fl Unit Empty)), mf ds = fin R ∧ SV ⟨K, O, E, XR, rfF⟩ (fun m => [rootL K a m]) ts (start N vs) (us.zip ds) (fun m => [rootL K a m]) R (fun _ _ _ C2 => C2 = fun m => [rootL K a m]) (fun z _ _ _ => z.elim)) : ts { nx := fun _ H' => Q .non H', rt := Q } (start N vs) H := by
  obtain ⟨_, B, a, us, ds, m, rfl, hb, hna, hd, hr, nb, q, qx⟩ := hsp
  obtain ⟨R, hR, hS⟩ := h a us ds ⟨B, H, [a]⟩ rfl hd.len
  have hoc : ∃ o, H a = some o := by
    obtain ⟨_, _, _, h, _⟩ := hr
    exact ⟨_, h⟩
  have w0 : Wd K ⟨B, H, [a]⟩ (us.zip ds) ([rootL K a m] ++ []) H := by
    refine ⟨B, fun p b => b, fun p b => .inl b, ?_, fun p hp => ?_, fun p hp => ?_, fun c hc => ?_, zip_dt hd, fun p o _ e => e, fun p hp => ?_, hb⟩
    · show [a].Nodup; simp
    · have : p = a := by simpa [fps, rootL] using hp
      subst this; exact hna
    · have : p = a := by simpa [fps, rootL] using hp
      subst this; exact .inl (.head _)
    · have : c = rootL K a m := by simpa using hc
      subst this; exact hr
    · have : p = a := by simpa using hp
      subst this; exact hoc
  have same : ∀ {L : List (V × D)} {C : List Root} {H' : Hp}, Wd K ⟨B, H, [a]⟩ L C H' → ∀ p o, p ≠ a → H p = some o → H' p = some o := fun {L C H'} w p o hp e => by
    obtain ⟨B', wb⟩ := w
    exact wb.kp p o (by simpa using hp) e
  refine hS m [] (us.zip ds) H _ (fun f hf => hf) w0 ?_ ?_ ?_ ?_ ?_
  · intro s m' σ' L2 C2 H' e hC2 w
    rw [show C2 = fun m => [rootL K a m] from hC2] at w
    have sm := same w
    obtain ⟨B', wb⟩ := w
    refine q .none m' .non H' B' ?_ sm wb.lo (fun p b => ?_) .non (wb.rt _ (.head _))
    · rw [hR]
      exact bd_ok e
    · rcases wb.hi p b with z | z
      · exact .inl z
      · exact .inr ⟨z, wb.bo p b⟩
  · intro s; exact s.elim
  · intro s; exact s.elim
  · rintro x m' v H' _ _ e ⟨rfl, rfl⟩ w
    have sm := same w
    obtain ⟨B', wb⟩ := w
    refine q x m' v H' B' ?_ sm wb.lo (fun p b => ?_) (wb.ft _ (.head _)) (wb.rt _ (.head _))
    · rw [hR]
      exact bd_ok e
    · rcases wb.hi p b with z | z
      · exact .inl z
      · exact .inr ⟨z, wb.bo p b⟩
  · refine ⟨fun e m' cls d H' ex w => ?_, fun z => nb ?_⟩
    · have sm := same w
      obtain ⟨B', wb⟩ := w
      have hm : ∀ p ∈ (XR e cls d).fp H', p ∈ fps (XR e cls d :: ([rootL K a m'] ++ [])) H' := fun p hp => by rw [fps_cons]; exact List.mem_append.mpr (.inl hp)
      have hnd := wb.nd
      rw [fps_cons] at hnd
      refine qx e m' cls d H' B' ?_ sm wb.lo (fun p b => ?_) (wb.rt _ (.head _)) (fun p hp => ⟨(wb.fr p (hm p hp)).resolve_left (fun z => ?_), wb.nb p (hm p hp)⟩) (List.nodup_append.mp hnd).1 (wb.rt _ (.tail _ (.head _)))
      · rw [hR]
        exact bd_exc ex
      · rcases wb.hi p b with z | z
        · exact .inl z
        · exact .inr ⟨z, wb.bo p b⟩
      · exact (List.nodup_append.mp hnd).2.2 p hp a (.head _) (List.mem_singleton.mp z)
    · rw [hR]
      exact bd_bad z
theorem body_P {K : PySem.W.Frag} {n : Nat} {mf : List D → SM Unit D} {ts : TS} {N : List Str} {H : Hp} {vs : List V} {Q : VK} {E : XK} (hsp : SpP K n mf vs H Q E)
    (h : ∀ (ds : List D) (O : Og), vs.length = ds.length → ∃ (R : SM Unit (Fl Unit Empty)), mf ds = fin R ∧ SV ⟨K, O, E0, noX, rfF⟩ (fun _ => []) ts (start N vs) (vs.zip ds) (fun _ => []) R (fun _ _ _ _ => True) (fun z _ _ _ => z.elim)) : ts { nx := fun _ H' => Q .non H', rt := Q } (start N vs) H := by
  obtain ⟨hlen, B, ds, x, hb, hd, ex, q⟩ := hsp
  refine body_PX (K := K) (XR := noX) (n := n) (mf := mf) (N := N) (E := E0) ⟨hlen, B, ds, hb, hd, (by rw [ex]; intro z; cases z), fun x' v H' B' ex' sm h1 h2 hd' => ?_, fun e cls d H' B' ex' => ?_⟩ h
  · rw [ex] at ex'
    cases ex'
    exact q v H' B' sm h1 h2 hd'
  · rw [ex] at ex'
    cases ex'
theorem body_D {K : PySem.W.Frag} {n : Nat} {mf : List D → SM D D} {ts : TS} {N : List Str} {H : Hp} {vs : List V} {Q : VK} {E : XK} (hsp : SpD K n mf vs H Q E)
    (h : ∀ (a : Addr) (us : List V) (ds : List D) (O : Og), vs = .ref a :: us → us.length = ds.length → ∃ (R : SM D (Fl Unit Empty)), mf ds = fin R ∧ SV ⟨K, O, E0, noX, rfF⟩ (fun m => [rootL K a m]) ts (start N vs) (us.zip ds) (fun m => [rootL K a m]) R (fun _ _ _ C2 => C2 = fun m => [rootL K a m]) (fun z _ _ _ => z.elim)) : ts { nx := fun _ H' => Q .non H', rt := Q } (start N vs) H := by
  obtain ⟨hlen, B, a, us, ds, m, x, m', e0, hb, hna, hd, hr, ex, q⟩ := hsp
  refine body_DX (K := K) (XR := noX) (n := n) (mf := mf) (N := N) (E := E0) ⟨hlen, B, a, us, ds, m, e0, hb, hna, hd, hr, (by rw [ex]; intro z; cases z), fun x' m2 v H' B' ex' hk h1 h2 hd' hr' => ?_, fun e m2 cls d H' B' ex' => ?_⟩ h
  · rw [ex] at ex'
    cases ex'
    exact q v H' B' hk h1 h2 hd' hr'
  · rw [ex] at ex'
    cases ex'
end
/-! ### roots: made, changed, read, frozen -/
section
open SM
variable {X : Cx} {μ τ τ' ρ : Type} {G : Gx} {σ : St} {L : List (V × D)} {C Cp : μ → List Root} {te ta tb tc : TE} {tt tu : TT} {t u : TS} {E E1 E2 E3 : SM μ D} {T T1 T2 : SM μ Bool} {Jn : Shp μ τ} {Jl : Shp μ ρ} {i j : Nat} {v : V} {x d : D} {l : Addr}
/-- a root is frozen -/
theorem sv_freeze {R : SM μ (Fl τ ρ)} {C' : μ → List Root} (hC : ∀ m, (C m).Perm (rootL G.K l d :: C' m)) (hl : l ∉ G.O.fp) (h : SV G Cp t σ ((.ref l, d) :: L) C' R Jn Jl) : SV G Cp t σ L C R Jn Jl := by
  intro m F L' H e s w q1 q2 q3 q4 b
  have w2 : Wd G.K G.O ((.ref l, d) :: L') (C' m ++ F) H := Wd.freeze (C := C' m ++ F) (w.perm ((hC m).append_right F)) hl
  exact sv_more (L1 := [(.ref l, d)]) h s w2 q1 q2 q3 q4 b
/-- roots in another order -/
theorem sv_perm {R : SM μ (Fl τ ρ)} {C' : μ → List Root} (hC : ∀ m, (C m).Perm (C' m)) (h : SV G Cp t σ L C' R Jn Jl) : SV G Cp t σ L C R Jn Jl :=
  fun m F L' H e s w q1 q2 q3 q4 b => h m F L' H e s (w.perm ((hC m).append_right F)) q1 q2 q3 q4 b
/-- roots forgotten -/
theorem sv_drop {R : SM μ (Fl τ ρ)} {C' : μ → List Root} (hC : ∀ m, (C' m).Sublist (C m)) (h : SV G Cp t σ L C' R Jn Jl) : SV G Cp t σ L C R Jn Jl :=
  fun m F L' H e s w q1 q2 q3 q4 b => h m F L' H e s (w.subC ((hC m).append_right F)) q1 q2 q3 q4 b
/-- x = [..], a root -/
theorem sv_new {ta : TA} {Es : SM μ (List D)} {k : D → SM μ (Fl τ ρ)} {σ' : V → St} {C' : Addr → D → μ → List Root} (hc : Sub Cp C) (h : AV G ta σ L C Es) (hσ : ∀ v, σ.set i (some v) = σ' v) (hC : ∀ p d m, (rootL G.K p d :: C m).Perm (C' p d m))
    (hk : ∀ p d, p ∉ G.O.fp → SV G Cp u (σ' (.ref p)) L (C' p d) (k d) Jn Jl) : SV G Cp (tSeq (tAsg (tLst ta) (gName i)) u) σ L C (bd (opL lstD Es) k) Jn Jl := by
  refine sv_bd hc fun m F L' H d s w q b => ?_
  refine h m F L' H _ s w (fun xs m1 vs H1 L2 e1 s2 i2 w1 => ?_) b.fst
  have b1 := b.snd e1
  unfold lstD at b1
  split at b1
  · next c =>
    refine ⟨by rw [i2.len]; exact c, fun p hp => ?_⟩
    show u d (σ.set i (some (.ref p))) _
    rw [hσ]
    have hpf : p ∉ G.O.fp := by
      obtain ⟨B, wb⟩ := w1
      exact wb.nofp hp
    have w2 : Wd G.K G.O L2 (rootL G.K p (.list xs) :: (C m1 ++ F)) (upd H1 p (.lst vs)) := w1.root hp i2
    have w3 : Wd G.K G.O L2 (C' p (.list xs) m1 ++ F) (upd H1 p (.lst vs)) := w2.perm ((hC p (.list xs) m1).append_right F)
    refine q (.list xs) m1 (σ' (.ref p)) [] (C' p (.list xs)) _ ?_ (w3.sub fun f hf => s2 f hf) (hk p (.list xs) hpf)
    show bd Es _ m = _
    rw [bd_ok e1]
    show of (lstD xs) m1 = _
    unfold lstD
    rw [if_pos c]; rfl
  · exact absurd rfl b1.2
/-- the root's object -/
theorem rootAt {K : PySem.W.Frag} {O : Og} {L : List (V × D)} {Z : List Root} {H : Hp} (w : Wd K O L (rootL K l d :: Z) H) : ∃ B ds vs, Wb K O B L (rootL K l d :: Z) H ∧ d = .list ds ∧ H l = some (.lst vs) ∧ DtAll K B H vs ds := by
  obtain ⟨B, wb⟩ := w
  obtain ⟨ds, vs, h1, h2, h3⟩ := wb.rt _ (.head _)
  exact ⟨B, ds, vs, wb, h1, h2, h3⟩
theorem sv_app {k : D → SM μ (Fl τ ρ)} {Z : μ → List Root} {C' : D → μ → List Root} (hc : Sub Cp C) (hv : σ[i]? = some (some (.ref l))) (h : EV G te σ L C E) (hC : ∀ m, (C m).Perm (rootL G.K l d :: Z m)) (hC' : ∀ d' m, (rootL G.K l d' :: Z m).Perm (C' d' m))
    (hk : ∀ d', SV G Cp u σ L (C' d') (k d') Jn Jl) : SV G Cp (tSeq (tDrop (tBM G.K "list" rAppend (tVar i) (tCons te tNil))) u) σ L C (bd (bd E fun x => of (appD d x)) k) Jn Jl := by
  refine sv_bd hc fun m F L' H e s w q b => ?_
  obtain ⟨B0, ds0, vs0, wb0, rfl, h0, _⟩ := rootAt (Z := Z m ++ F) (w.perm ((hC m).append_right F))
  refine ⟨.ref l, hv, .inl ⟨rfl, vs0, SqL.of h0⟩, h m F L' H _ s w (fun x m1 v H1 e1 w1 => ?_) b.fst⟩
  have b1 := b.snd e1
  obtain ⟨B, ds, vs, wb, ed, h1, hd⟩ := rootAt (Z := Z m1 ++ F) (w1.perm ((hC m1).append_right F))
  cases ed
  simp only [appD] at b1
  split at b1
  · next c =>
    refine ⟨l, vs, v, rfl, rfl, h1, by rw [hd.len]; exact c, ?_⟩
    have w2 : Wd G.K G.O ((v, x) :: L') (rootL G.K l (.list (ds0 ++ [x])) :: (Z m1 ++ F)) (upd H1 l (.lst (vs ++ [v]))) := Wd.put ⟨B, wb⟩ fun B' f hr => by
      obtain ⟨ds', us', e6, hA5, hda5⟩ := hr
      cases e6
      rw [h1] at hA5
      cases hA5
      exact hda5.app (.cons (f _ (.head _)) .nil)
    have w3 : Wd G.K G.O ((v, x) :: L') (C' (.list (ds0 ++ [x])) m1 ++ F) (upd H1 l (.lst (vs ++ [v]))) := w2.perm ((hC' _ m1).append_right F)
    refine q (.list (ds0 ++ [x])) m1 σ [] (C' (.list (ds0 ++ [x]))) _ ?_ (w3.sub fun f hf => .tail _ hf) (hk _)
    show bd E _ m = _
    rw [bd_ok e1]
    simp only [appD]
    rw [if_pos c]; rfl
  · exact absurd rfl b1.2
theorem sv_ext {k : D → SM μ (Fl τ ρ)} {Z : μ → List Root} {C' : D → μ → List Root} (hc : Sub Cp C) (hv : σ[i]? = some (some (.ref l))) (h : EV G te σ L C E) (hC : ∀ m, (C m).Perm (rootL G.K l d :: Z m)) (hC' : ∀ d' m, (rootL G.K l d' :: Z m).Perm (C' d' m))
    (hk : ∀ d', SV G Cp u σ L (C' d') (k d') Jn Jl) : SV G Cp (tSeq (tDrop (tBM G.K "list" rExtend (tVar i) (tCons te tNil))) u) σ L C (bd (bd E fun x => of (extD d x)) k) Jn Jl := by
  refine sv_bd hc fun m F L' H e s w q b => ?_
  obtain ⟨B0, ds0, vs0, wb0, rfl, h0, _⟩ := rootAt (Z := Z m ++ F) (w.perm ((hC m).append_right F))
  refine ⟨.ref l, hv, .inl ⟨rfl, vs0, SqL.of h0⟩, h m F L' H _ s w (fun x m1 v H1 e1 w1 => ?_) b.fst⟩
  have b1 := b.snd e1
  obtain ⟨B, ds, vs, wb, ed, h1, hd⟩ := rootAt (Z := Z m1 ++ F) (w1.perm ((hC m1).append_right F))
  cases ed
  cases x with
  | list es =>
    simp only [extD] at b1
    split at b1
    · next c =>
      obtain ⟨p, us, rfl, hl, ha⟩ := Dt.lst_inv (wb.ft _ (.head _))
      refine ⟨l, p, vs, us, rfl, rfl, h1, hl.2, by rw [hd.len, ha.len]; exact c, ?_⟩
      have w2 : Wd G.K G.O ((.ref p, .list es) :: L') (rootL G.K l (.list (ds0 ++ es)) :: (Z m1 ++ F)) (upd H1 l (.lst (vs ++ us))) := Wd.put ⟨B, wb⟩ fun B' f hr => by
        obtain ⟨ds', us', e6, hA5, hda5⟩ := hr
        cases e6
        rw [h1] at hA5
        cases hA5
        obtain ⟨p', us'', e7, hl', ha'⟩ := Dt.lst_inv (f _ (.head _))
        cases e7
        have e8 := hl'.2
        rw [hl.2] at e8
        cases e8
        exact hda5.app ha'
      have w3 : Wd G.K G.O ((.ref p, .list es) :: L') (C' (.list (ds0 ++ es)) m1 ++ F) (upd H1 l (.lst (vs ++ us))) := w2.perm ((hC' _ m1).append_right F)
      refine q (.list (ds0 ++ es)) m1 σ [] (C' (.list (ds0 ++ es))) _ ?_ (w3.sub fun f hf => .tail _ hf) (hk _)
      show bd E _ m = _
      rw [bd_ok e1]
      simp only [extD]
      rw [if_pos c]; rfl
    · exact absurd rfl b1.2
  | _ => exact absurd rfl b1.2
/-- a root read at a place -/
theorem ev_ridx {Z : μ → List Root} (hv : σ[i]? = some (some (.ref l))) (h : EV G te σ L C E) (hC : ∀ m, (C m).Perm (rootL G.K l d :: Z m)) : EV G (tOp (rIx G.K) (tVar i) te) σ L C (bd E fun x => of (idxD d x)) := by
  intro m F L' H Q s w q b
  refine ⟨.ref l, hv, h m F L' H _ s w (fun x m1 v H1 e1 w1 => ?_) b.fst⟩
  have b1 := b.snd e1
  obtain ⟨B, ds, vs, wb, ed, h1, hd⟩ := rootAt (Z := Z m1 ++ F) (w1.perm ((hC m1).append_right F))
  subst ed
  cases x with
  | int n =>
    simp only [idxD] at b1
    cases ea : atI ds n with
    | none => rw [ea] at b1; exact absurd rfl b1.2
    | some y =>
      obtain ⟨v', hv', hd'⟩ := atI_dt hd ea
      refine .inl ⟨l, vs, n, v', rfl, (wb.ft _ (.head _)).int_inv, SqL.of h1, hv', q y m1 v' H1 ?_ ?_⟩
      · show bd E _ m = _
        rw [bd_ok e1]
        simp only [idxD]
        rw [ea]; rfl
      · have w2 : Wd G.K G.O ((v', y) :: (v, .int n) :: L') (rootL G.K l (.list ds) :: (Z m1 ++ F)) H1 := ⟨B, wb.fact hd'⟩
        refine (w2.perm ((hC m1).symm.append_right F)).sub fun f hf => ?_
        rcases List.mem_cons.mp hf with e | e
        · rw [e]; exact .head _
        · exact .tail _ (.tail _ e)
  | _ => exact absurd rfl b1.2
theorem ev_rlen {Z : μ → List Root} (hv : σ[i]? = some (some (.ref l))) (hC : ∀ m, (C m).Perm (rootL G.K l d :: Z m)) : EV G (tCB (fun xs H Q => ∃ x n, xs = [x] ∧ LenV G.K x H n ∧ Q (.int n) H) (tCons (tVar i) tNil)) σ L C (of (lenD [d])) := by
  intro m F L' H Q s w q b
  obtain ⟨B, ds, vs, wb, ed, h1, hd⟩ := rootAt (Z := Z m ++ F) (w.perm ((hC m).append_right F))
  subst ed
  refine ⟨.ref l, hv, .ref l, vs.length, rfl, .inl ⟨vs, SqL.of h1, rfl⟩, ?_⟩
  rw [hd.len]
  exact q _ m _ H rfl (w.fact fun _ _ => .int _)
/-! the root that is the state -/
theorem ev_sidx {Z : List Root} {E : SM D D} (hv : σ[i]? = some (some (.ref l))) (h : EV G te σ L (fun m => rootL G.K l m :: Z) E) : EV G (tOp (rIx G.K) (tVar i) te) σ L (fun m => rootL G.K l m :: Z) (bd E fun x => bd gets fun m => of (idxD m x)) := by
  intro m F L' H Q s w q b
  refine ⟨.ref l, hv, h m F L' H _ s w (fun x m1 v H1 e1 w1 => ?_) b.fst⟩
  have b1 : Bk G _ F L' (of (idxD m1 x) m1) := b.snd e1
  obtain ⟨B, ds, vs, wb, ed, h1, hd⟩ := rootAt (Z := Z ++ F) w1
  subst ed
  cases x with
  | int n =>
    simp only [idxD] at b1
    cases ea : atI ds n with
    | none => rw [ea] at b1; exact absurd rfl b1.2
    | some y =>
      obtain ⟨v', hv', hd'⟩ := atI_dt hd ea
      refine .inl ⟨l, vs, n, v', rfl, (wb.ft _ (.head _)).int_inv, SqL.of h1, hv', q y (.list ds) v' H1 ?_ ?_⟩
      · show bd E _ m = _
        rw [bd_ok e1]
        show of (idxD (.list ds) (.int n)) _ = _
        simp only [idxD]
        rw [ea]; rfl
      · have w2 : Wd G.K G.O ((v', y) :: (v, .int n) :: L') (rootL G.K l (.list ds) :: (Z ++ F)) H1 := ⟨B, wb.fact hd'⟩
        refine w2.sub fun f hf => ?_
        rcases List.mem_cons.mp hf with e | e
        · rw [e]; exact .head _
        · exact .tail _ (.tail _ e)
  | _ => exact absurd rfl b1.2
theorem sv_sset {Z : List Root} {E1 E2 : SM D D} {Cp : D → List Root} {Jn : Shp D τ} {Jl : Shp D ρ} {k : SM D (Fl τ ρ)} (hc : Sub Cp (fun m => rootL G.K l m :: Z)) (hv : σ[i]? = some (some (.ref l))) (h1 : EV G ta σ L (fun m => rootL G.K l m :: Z) E1) (h2 : EV G tb σ L (fun m => rootL G.K l m :: Z) E2)
    (hk : SV G Cp u σ L (fun m => rootL G.K l m :: Z) k Jn Jl) : SV G Cp (tSeq (tAsg ta (gSub (tVar i) tb rSetL)) u) σ L (fun m => rootL G.K l m :: Z) (bd (bd E1 fun y => bd E2 fun x => bd gets fun m => bd (of (setD m x y)) fun m' => puts m') fun _ => k) Jn Jl := by
  refine sv_bd hc fun m F L' H e s w q b => ?_
  refine h1 m F L' H _ s w (fun y m1 vy H1 e1 w1 => ?_) b.fst
  have b1 := b.snd e1
  refine ⟨.ref l, hv, h2 m1 F _ H1 _ (fun f hf => .tail _ (s f hf)) w1 (fun x m2 v H2 e2 w2 => ?_) (b1.fst.mono fun f hf => .tail _ hf)⟩
  have b2 : Bk G _ F L' (bd (of (setD m2 x y)) (fun m' => puts m') m2) := b1.snd e2
  obtain ⟨B, ds, vs, wb, ed, hl, hd⟩ := rootAt (Z := Z ++ F) w2
  subst ed
  cases x with
  | int n =>
    have hset : setD (.list ds) (.int n) y = (match ixN ds.length n with | some j => some (.list (ds.set j y)) | none => none) := rfl
    cases ea : ixN ds.length n with
    | none =>
      rw [hset, ea] at b2
      exact absurd rfl b2.2
    | some j =>
      rw [ea] at hset
      refine ⟨l, vs, n, j, rfl, (wb.ft _ (.head _)).int_inv, hl, by rw [hd.len]; exact ea, ?_⟩
      have w3 : Wd G.K G.O ((v, .int n) :: (vy, y) :: L') (rootL G.K l (.list (ds.set j y)) :: (Z ++ F)) (upd H2 l (.lst (vs.set j vy))) := Wd.put ⟨B, wb⟩ fun B' f hr => by
        obtain ⟨ds', us', e6, hA5, hda5⟩ := hr
        cases e6
        rw [hl] at hA5
        cases hA5
        exact hda5.set (f _ (.tail _ (.head _)))
      refine q () (.list (ds.set j y)) σ [] (fun m => rootL G.K l m :: Z) _ ?_ (w3.sub fun f hf => .tail _ (.tail _ hf)) hk
      show bd E1 _ m = _
      rw [bd_ok e1, bd_ok e2]
      show bd (of (setD (.list ds) (.int n) y)) _ _ = _
      rw [hset]; rfl
  | _ => exact absurd rfl b2.2
/-- a def's body that returns a new list -/
def NV (G : Gx) (ts : TS) (σ : St) (L : List (V × D)) (R : SM Unit (Fl Unit Empty)) : Prop :=
  ∀ m F L' H (d : Ends), (∀ f ∈ L, f ∈ L') → Wd G.K G.O L' ([] ++ F) H → (∀ x m' a H', R m = .ok (.rt x) m' → a ∉ G.O.fp → Wd G.K G.O L' (rootL G.K a x :: F) H' → d.rt (.ref a) H') → Bk G (fun _ => []) F L' (R m) → ts d σ H
/-- x = f(..), a new root that becomes the state -/
theorem sv_newD {ta : TA} {Es : SM D (List D)} {mf : List D → SM Unit D} {n : Nat} {Cp C : D → List Root} {Z : List Root} {Jn : Shp D τ} {Jl : Shp D ρ} {k : SM D (Fl τ ρ)} {σ' : V → St} (hc : Sub Cp C) (hZ : ∀ m, Z.Sublist (C m)) (hn : ∀ ds, mf ds () ≠ .bad → ds.length = n) (h : AV G ta σ L C Es) (hσ : ∀ v, σ.set i (some v) = σ' v)
    (hk : ∀ a, a ∉ G.O.fp → SV G Cp u (σ' (.ref a)) L (fun m => rootL G.K a m :: Z) k Jn Jl) : SV G Cp (tSeq (tAsg (tCall (SpN G.K n mf) [] E0 ta) (gName i)) u) σ L C (bd (bd (cP mf Es) fun d => puts d) fun _ => k) Jn Jl := by
  refine sv_bd hc fun m F L' H e s w q b => ?_
  refine h m F L' H _ s w (fun xs m1 vs H1 L2 e1 s2 i2 w1 => ?_) b.fst.fst
  have b1 := b.fst.snd e1
  have er : cP mf Es m = px (mf xs) m1 := bd_ok e1
  show SpN G.K n mf (vs ++ []) H1 _ E0
  rw [List.append_nil]
  obtain ⟨x, ex⟩ := px_nb b1.2
  obtain ⟨B, wb⟩ := w1
  refine ⟨by rw [i2.len]; exact hn xs (by rw [ex]; intro z; cases z), B, xs, x, wb.bo, i2.dt wb.ft, ex, fun a H' B' sm h1 h2 hna hnB hr => ?_⟩
  · show u e (σ.set i (some (.ref a))) H'
    rw [hσ]
    have wg := wb.grow sm h1 h2
    have hz : (fps (Z ++ F) H').Sublist (fps (C m1 ++ F) H') := fps_sub ((hZ m1).append_right F)
    have w2 : Wb G.K G.O B' L2 (rootL G.K a x :: (Z ++ F)) H' := by
      refine ⟨wg.lo, wg.hi, ?_, ?_, ?_, ?_, wg.ft, wg.kp, wg.oc, wg.bo⟩
      · rw [fps_cons]
        exact List.nodup_cons.mpr ⟨fun z => wb.free hna (by rw [← wb.same sm]; exact hz.mem z), hz.nodup wg.nd⟩
      · intro p hp
        rw [fps_cons] at hp
        rcases List.mem_cons.mp hp with z | z
        · subst z; exact hnB
        · exact wg.nb p (hz.mem z)
      · intro p hp
        rw [fps_cons] at hp
        rcases List.mem_cons.mp hp with z | z
        · subst z; exact .inr (wb.none hna)
        · exact wg.fr p (hz.mem z)
      · intro c hc
        rcases List.mem_cons.mp hc with z | z
        · subst z; exact hr
        · exact wg.rt c (((hZ m1).append_right F).mem z)
    refine q () x (σ' (.ref a)) [] (fun m => rootL G.K a m :: Z) H' ?_ ⟨B', w2.fts fun f hf => w2.ft f (s2 f hf)⟩ (hk a (wb.nofp hna))
    show bd (cP mf Es) _ m = _
    rw [bd_ok (er.trans (px_ok ex))]; rfl
/-- the body of a def that makes a list -/
theorem body_N {K : PySem.W.Frag} {n : Nat} {mf : List D → SM Unit D} {ts : TS} {N : List Str} {H : Hp} {vs : List V} {Q : VK} {E : XK} (hsp : SpN K n mf vs H Q E)
    (h : ∀ (ds : List D) (O : Og), vs.length = ds.length → ∃ (R : SM Unit (Fl Unit Empty)), mf ds = fin R ∧ NV ⟨K, O, E0, noX, rfF⟩ ts (start N vs) (vs.zip ds) R) : ts { nx := fun _ H' => Q .non H', rt := Q } (start N vs) H := by
  obtain ⟨hlen, B, ds, x0, hb, hd, ex, q⟩ := hsp
  obtain ⟨R, hR, hS⟩ := h ds ⟨B, H, []⟩ hd.len
  have w0 : Wd K ⟨B, H, []⟩ (vs.zip ds) ([] ++ []) H := ⟨B, fun p b => b, fun p b => .inl b, List.nodup_nil, fun p hp => (by cases hp), fun p hp => (by cases hp), fun c hc => (by cases hc), zip_dt hd, fun p o _ e => e, fun p hp => (by cases hp), hb⟩
  rw [hR] at ex
  refine hS () [] (vs.zip ds) H _ (fun f hf => hf) w0 (fun x m' a H' e _ w => ?_) ⟨fun e m' cls d H' z => ?_, fun z => ?_⟩
  · have e2 : fin R () = .ok x m' := bd_ok e
    rw [e2] at ex
    cases ex
    obtain ⟨B', wb⟩ := w
    refine q a H' B' (fun p o e => wb.kp p o (by intro z; cases z) e) wb.lo (fun p b => ?_) ?_ (wb.nb a (.head _)) (wb.rt _ (.head _))
    · rcases wb.hi p b with z | z
      · exact .inl z
      · exact .inr ⟨z, wb.bo p b⟩
    · exact (wb.fr a (.head _)).resolve_left (by intro z; cases z)
  · have e2 : fin R () = .exc e m' := bd_exc z
    rw [e2] at ex
    cases ex
  · have e2 : fin R () = .bad := bd_bad z
    rw [e2] at ex
    cases ex
/-- return [..] of such a def -/
theorem nv_ret {ta : TA} {Es : SM Unit (List D)} (h : AV G ta σ L (fun _ => []) Es) : NV G (tSeq (tRet (tLst ta)) u) σ L (bd (opL lstD Es) fun x => pu (.rt x)) := by
  intro m F L' H d s w q b
  refine h m F L' H _ s w (fun xs m1 vs H1 L2 e1 s2 i2 w1 => ?_) b.fst.fst
  have b1 := b.fst.snd e1
  unfold lstD at b1
  split at b1
  · next c =>
    refine ⟨by rw [i2.len]; exact c, fun p hp => ?_⟩
    have hpf : p ∉ G.O.fp := by
      obtain ⟨B, wb⟩ := w1
      exact wb.nofp hp
    have w2 : Wd G.K G.O L2 (rootL G.K p (.list xs) :: F) (upd H1 p (.lst vs)) := Wd.root w1 hp i2
    refine q (.list xs) m1 p _ ?_ hpf (w2.sub fun f hf => s2 f hf)
    have e2 : opL lstD Es m = .ok (.list xs) m1 := by
      show bd Es _ m = _
      rw [bd_ok e1]
      show of (lstD xs) m1 = _
      unfold lstD
      rw [if_pos c]; rfl
    rw [bd_ok e2]; rfl
  · exact absurd rfl b1.2
theorem nv_if {A B : SM Unit (Fl Unit Empty)} {T : SM Unit Bool} {t1 t2 : TS} (h : TV G tt σ L (fun _ => []) T) (h1 : NV G (tSeq t1 u) σ L A) (h2 : NV G (tSeq t2 u) σ L B) : NV G (tSeq (tIfS tt t1 t2) u) σ L (bd T fun c => if c then A else B) :=
  fun m F L' H d s w q b => h m F L' H _ s w (fun c m1 H1 e1 w1 => by
    have er : bd T (fun c => if c then A else B) m = (if c then A else B) m1 := bd_ok e1
    rw [er] at b
    cases c with
    | true => exact h1 m1 F L' H1 d s w1 (fun x m' a H' e => q x m' a H' (er.trans e)) b
    | false => exact h2 m1 F L' H1 d s w1 (fun x m' a H' e => q x m' a H' (er.trans e)) b) b.fst
theorem nv_assoc {t1 t2 : TS} {R : SM Unit (Fl Unit Empty)} (h : NV G (tSeq t1 (tSeq t2 u)) σ L R) : NV G (tSeq (tSeq t1 t2) u) σ L R := h
theorem nv_skip {R : SM Unit (Fl Unit Empty)} (h : NV G u σ L R) : NV G (tSeq tNext u) σ L R := h
/-! ### the law -/
def sp_law (K : PySem.W.Frag) : Sp := fun vs H Q _ => ∃ (a : Addr) (ns : List Int), vs = [.ref a] ∧ SqL K H a (ns.map V.int) ∧ ns.length ≤ 63 ∧ (∀ z ∈ ns, Builtin.Int.intBits z ≤ 1048576) ∧ ∀ H', Q (.bl true) H'
theorem body_law {K : PySem.W.Frag} {ts : TS} {N : List Str} {H : Hp} {vs : List V} {Q : VK} {E : XK} (ml : D → SM D D) (hsp : sp_law K vs H Q E) (hm : ∀ ns : List Int, ns.length ≤ 63 → (∀ z ∈ ns, Builtin.Int.intBits z ≤ 1048576) → ∃ m', ml (scrD (ns.map .int)) .none = .ok (.bool true) m')
    (h : ∀ (v : V) (x : D) (O : Og), vs = [v] → ∃ (R : SM D (Fl Unit Empty)), ml x = fin R ∧ SV ⟨K, O, E0, noX, rfF⟩ (fun _ => []) ts (start N vs) [(v, x)] (fun _ => []) R (fun _ _ _ _ => True) (fun z _ _ _ => z.elim)) : ts { nx := fun _ H' => Q .non H', rt := Q } (start N vs) H := by
  obtain ⟨a, ns, rfl, hS, h63, hbits, q⟩ := hsp
  obtain ⟨m', em⟩ := hm ns h63 hbits
  obtain ⟨R, hR, hV⟩ := h (.ref a) (scrD (ns.map .int)) ⟨fun p => ∃ o, H p = some o, H, []⟩ rfl
  have hf : FzS K (fun p => ∃ o, H p = some o) H a (ns.map V.int) := by
    rcases hS with (z | ⟨u, z⟩) | z
    · exact .inl ⟨⟨_, z⟩, .inl z⟩
    · exact .inl ⟨⟨_, z⟩, .inr ⟨u, z⟩⟩
    · exact .inr z
  have w0 : Wd K ⟨fun p => ∃ o, H p = some o, H, []⟩ [(.ref a, scrD (ns.map .int))] ([] ++ []) H := by
    refine ⟨fun p => ∃ o, H p = some o, fun p b => b, fun p b => .inl b, List.nodup_nil, fun p hp => (by cases hp), fun p hp => (by cases hp), fun c hc => (by cases hc), fun f hf' => ?_, fun p o _ e => e, fun p hp => (by cases hp), fun p b => b⟩
    rcases List.mem_cons.mp hf' with e | e
    · subst e
      exact .scr hf (DtAll.ints ns)
    · cases e
  rw [hR] at em
  refine hV .none [] _ H _ (fun f hf => hf) w0 ?_ ?_ ?_ ?_ ?_
  · intro s m1 σ' L2 C2 H' e _ w
    have : fin R .none = .ok .none m1 := bd_ok e
    rw [this] at em
    cases em
  · intro s; exact s.elim
  · intro s; exact s.elim
  · rintro x m1 v H' _ _ e ⟨rfl, rfl⟩ w
    have : fin R .none = .ok x m1 := bd_ok e
    rw [this] at em
    cases em
    obtain ⟨B, hd⟩ := w.dt (.head _)
    rw [hd.bl_inv]
    exact q H'
  · refine ⟨fun e m1 cls d H' ex w => ?_, fun z => ?_⟩
    · have : fin R .none = .exc e m1 := bd_exc ex
      rw [this] at em
      cases em
    · have : fin R .none = .bad := bd_bad z
      rw [this] at em
      cases em
end
/-! ### for the printed scripts -/
section
open SM
variable {μ τ ρ : Type} {G : Gx} {σ σ' : St} {L L0 : List (V × D)} {C Cp : μ → List Root} {t : TS} {Jn : Shp μ τ} {Jl : Shp μ ρ} {f : V × D}
theorem sub0 {C : μ → List Root} : Sub (fun _ => []) C := fun _ => List.nil_sublist _
theorem sub1 {r : μ → Root} {Z : μ → List Root} : Sub (fun m => [r m]) (fun m => r m :: Z m) := fun _ => List.Sublist.cons₂ _ (List.nil_sublist _)
theorem lnil : ∀ f ∈ ([] : List (V × D)), f ∈ L := fun _ h => by cases h
theorem lcons (h : f ∈ L) (h2 : ∀ f ∈ L0, f ∈ L) : ∀ g ∈ f :: L0, g ∈ L := fun g hg => by
  rcases List.mem_cons.mp hg with e | e
  · subst e; exact h
  · exact h2 g e
theorem sv_st {R : SM μ (Fl τ ρ)} (e : σ = σ') (h : SV G Cp t σ' L C R Jn Jl) : SV G Cp t σ L C R Jn Jl := by rw [e]; exact h
theorem nv_st {R : SM Unit (Fl Unit Empty)} (e : σ = σ') (h : NV G t σ' L R) : NV G t σ L R := by rw [e]; exact h
end
namespace SM
def addI : D → D → Option D
  | .int a, .int b => some (.int (a + b))
  | _, _ => none
def subI : D → D → Option D
  | .int a, .int b => some (.int (a - b))
  | _, _ => none
end SM
section
open SM
variable {G : Gx}
theorem os_ipa : OpS G (ipI fun i j => i + j) addI := opI0_s (f := fun i j => i + j) fun d e z h => by
  cases d <;> cases e <;> simp [addI] at h
  exact ⟨_, _, rfl, rfl, h.symm⟩
theorem os_ips : OpS G (ipI fun i j => i - j) subI := opI0_s (f := fun i j => i - j) fun d e z h => by
  cases d <;> cases e <;> simp [subI] at h
  exact ⟨_, _, rfl, rfl, h.symm⟩
end
/-! ### a list made on the way, handed to a def that changes it; a list made and kept as data -/
namespace SM
variable {μ α : Type}
/-- a thing whose state is d, which nobody has behind it -/
def wth (d : D) (x : SM D α) : SM μ α := fun m => match x d with
  | .ok a _ => .ok a m
  | _ => .bad
def cDN (mn : List D → SM Unit D) (Ns : SM μ (List D)) (mf : List D → SM D D) (Es : SM μ (List D)) : SM μ D := bd (cP mn Ns) fun d => bd Es fun xs => wth d (mf xs)
theorem wth_ok {d d' : D} {x : SM D α} {a : α} {m : μ} (h : x d = .ok a d') : wth d x m = .ok a m := by unfold wth; rw [h]
theorem wth_nb {d : D} {x : SM D α} {m : μ} (h : (wth d x : SM μ α) m ≠ .bad) : ∃ a d', x d = .ok a d' := by
  unfold wth at h
  cases e : x d with
  | ok a u => exact ⟨a, u, rfl⟩
  | exc e' u => rw [e] at h; exact absurd rfl h
  | bad => rw [e] at h; exact absurd rfl h
end SM
section
open SM
variable {μ : Type} {G : Gx} {σ : St} {L : List (V × D)} {C : μ → List Root}
theorem Bk.frm {α : Type} {C : μ → List Root} {F F' : List Root} {L : List (V × D)} {r : Rs μ α} (h : Bk G C F L r) (s : F.Sublist F') : Bk G C F' L r := ⟨fun e m' cls d H' q w => h.1 e m' cls d H' q (w.subC ((s.append_left _).cons₂ _)), h.2⟩
/-- a new root beside what stands -/
theorem Wb.newr {K : PySem.W.Frag} {O : Og} {B B' : Addr → Prop} {L : List (V × D)} {Z : List Root} {H H' : Hp} {a : Addr} {x : D} (wb : Wb K O B L Z H) (sm : Same H H') (h1 : ∀ p, B p → B' p) (h2 : ∀ p, B' p → B p ∨ (H p = Option.none ∧ ∃ o, H' p = some o)) (hna : H a = Option.none) (hnB : ¬ B' a) (hr : (rootL K a x).P B' H') : Wb K O B' L (rootL K a x :: Z) H' := by
  have wg := wb.grow sm h1 h2
  refine ⟨wg.lo, wg.hi, ?_, ?_, ?_, ?_, wg.ft, wg.kp, wg.oc, wg.bo⟩
  · rw [fps_cons]
    exact List.nodup_cons.mpr ⟨fun z => wb.free hna (by rw [← wb.same sm]; exact z), wg.nd⟩
  · intro p hp
    rw [fps_cons] at hp
    rcases List.mem_cons.mp hp with z | z
    · subst z; exact hnB
    · exact wg.nb p z
  · intro p hp
    rw [fps_cons] at hp
    rcases List.mem_cons.mp hp with z | z
    · subst z; exact .inr (wb.none hna)
    · exact wg.fr p z
  · intro c hc
    rcases List.mem_cons.mp hc with z | z
    · subst z; exact hr
    · exact wg.rt c z
theorem ev_cDN {ta tn : TA} {Es Ns : SM μ (List D)} {mf : List D → SM D D} {mn : List D → SM Unit D} {n k : Nat} (hk : ∀ ds, mn ds () ≠ .bad → ds.length = k) (hn : ∀ ds m, mf ds m ≠ .bad → ds.length = n) (h0 : AV G tn σ L C Ns) (h : AV G ta σ L C Es) :
    EV G (tCall (SpD G.K n mf) [] E0 (tCons (tCall (SpN G.K k mn) [] E0 tn) ta)) σ L C (cDN mn Ns mf Es) := by
  intro m F L' H Q s w q b
  refine h0 m F L' H _ s w (fun ys m1 us H1 L2 e1 s2 i2 w1 => ?_) b.fst.fst
  have b0 : Bk G C F L' (px (mn ys) m1) := b.fst.snd e1
  show SpN G.K k mn (us ++ []) H1 _ E0
  rw [List.append_nil]
  obtain ⟨d, ed⟩ := px_nb b0.2
  have ed1 : cP mn Ns m = .ok d m1 := (bd_ok e1).trans (px_ok ed)
  have b1 := b.snd ed1
  obtain ⟨B, wb⟩ := w1
  refine ⟨by rw [i2.len]; exact hk ys (by rw [ed]; intro z; cases z), B, ys, d, wb.bo, i2.dt wb.ft, ed, fun a H2 B2 sm g1 g2 hna hnB hr => ?_⟩
  have w2 : Wd G.K G.O L2 (rootL G.K a d :: (C m1 ++ F)) H2 := ⟨B2, wb.newr sm g1 g2 hna hnB hr⟩
  have w3 : Wd G.K G.O L2 (C m1 ++ (rootL G.K a d :: F)) H2 := w2.perm List.perm_middle.symm
  refine h m1 (rootL G.K a d :: F) L2 H2 _ (fun f hf => s2 f (s f hf)) w3 (fun xs m2 vs H3 L3 e2 s3 i3 w4 => ?_) ((b1.fst.mono s2).frm (List.sublist_cons_self _ _))
  have b2 : Bk G C F L' (wth d (mf xs) m2) := b1.snd e2
  obtain ⟨x, d', ex⟩ := wth_nb b2.2
  show SpD G.K n mf ((.ref a :: vs) ++ []) H3 Q E0
  rw [List.append_nil]
  obtain ⟨B3, wb3⟩ := w4.perm List.perm_middle
  have ha : ¬ B3 a := wb3.nb a (by rw [fps_cons]; exact .head _)
  refine ⟨by rw [List.length_cons, i3.len, hn xs d (by rw [ex]; intro z; cases z)], B3, a, vs, xs, d, x, d', rfl, wb3.bo, ha, i3.dt wb3.ft, wb3.rt _ (.head _), ex, fun v H' B' hk' h1 h2 hd hr' => ?_⟩
  have w5 := Wb.chg (Z := C m2 ++ F) wb3 hk' h1 h2 hr'
  have w6 : Wd G.K G.O ((v, x) :: L') (rootL G.K a d' :: (C m2 ++ F)) H' := ⟨B', (w5.fact hd).fts fun f hf => by
    rcases List.mem_cons.mp hf with e | e
    · subst e; exact hd
    · exact w5.ft f (s3 f (s2 f e))⟩
  refine q x m2 v H' ?_ (w6.subC (List.sublist_cons_self _ _))
  rw [show cDN mn Ns mf Es m = bd Es (fun xs => wth d (mf xs)) m1 from bd_ok ed1, bd_ok e2]
  exact wth_ok ex
end
/-- a test by a value's truth, its text named (for blocks of their own) -/
def tTru (K : PySem.W.Frag) (te : TE) : TT := fun σ H Q => te σ H fun x H' => ∃ k, TruV K x H' k ∧ Q k H'
/-! ### a list of lists of one's own -/
section
variable {K : PySem.W.Frag} {O : Og} {B B' : Addr → Prop} {L L' : List (V × D)} {C C' Z F : List Root} {H H' : Hp} {a p : Addr}
/-- roots are changed within their own places -/
theorem Wb.swap (w : Wb K O B L (C ++ Z) H) (hfp : (fps C H).Perm (fps C' H')) (hk : ∀ q, q ∉ fps C H → H' q = H q) (hoc : ∀ q ∈ fps C H, ∃ o, H' q = some o) (hr : Kp B H B H' → ∀ c ∈ C', c.P B H') : Wb K O B L (C' ++ Z) H' := by
  have hnd := w.nd
  rw [fps_app] at hnd
  obtain ⟨n1, n2, n3⟩ := List.nodup_append.mp hnd
  have hC : ∀ q ∈ fps C H, q ∈ fps (C ++ Z) H := fun q hq => by rw [fps_app]; exact List.mem_append.mpr (.inl hq)
  have hZ : ∀ q ∈ fps Z H, q ∈ fps (C ++ Z) H := fun q hq => by rw [fps_app]; exact List.mem_append.mpr (.inr hq)
  have k : Kp B H B H' := fun q o b e => ⟨b, by rw [hk q fun z => w.nb q (hC q z) b]; exact e⟩
  have es : fps Z H' = fps Z H := fps_same k (fun c hc => w.rt c (List.mem_append.mpr (.inr hc))) fun q hq => hk q fun z => n3 q z q hq rfl
  have hm : ∀ q ∈ fps (C' ++ Z) H', q ∈ fps (C ++ Z) H := fun q hq => by
    rw [fps_app, es] at hq
    rcases List.mem_append.mp hq with e | e
    · exact hC q (hfp.mem_iff.mpr e)
    · exact hZ q e
  refine ⟨w.lo, w.hi, ?_, fun q hq => w.nb q (hm q hq), fun q hq => w.fr q (hm q hq), fun c hc => ?_, fun f hf => Dt.mono k _ _ (w.ft f hf), fun q o hq e => ?_, fun q hq => ?_, fun q b => ?_⟩
  · rw [fps_app, es]
    exact List.nodup_append.mpr ⟨hfp.nodup_iff.mp n1, n2, fun x hx y hy => n3 x (hfp.mem_iff.mpr hx) y hy⟩
  · rcases List.mem_append.mp hc with e | e
    · exact hr k c e
    · refine c.mono k (fun q hq => hk q fun z => n3 q z q (mem_fps e hq) rfl) (w.rt c (List.mem_append.mpr (.inr e)))
  · by_cases z : q ∈ fps C H
    · rcases w.fr q (hC q z) with y | y
      · exact absurd y hq
      · rw [y] at e; cases e
    · rw [hk q z]; exact w.kp q o hq e
  · by_cases z : q ∈ fps C H
    · exact hoc q z
    · rw [hk q z]; exact w.oc q hq
  · rw [hk q fun z => w.nb q (hC q z) b]; exact w.bo q b
/-- lists at ps, their items frozen -/
inductive Rws (K : PySem.W.Frag) (B : Addr → Prop) (H : Hp) : List Addr → List D → Prop
  | nil : Rws K B H [] []
  | cons {p : Addr} {ps : List Addr} {vs : List V} {ds : List D} {rs : List D} : H p = some (.lst vs) → DtAll K B H vs ds → Rws K B H ps rs → Rws K B H (p :: ps) (.list ds :: rs)
theorem Rws.mono (k : Kp B H B' H') : ∀ {ps : List Addr} {rs : List D}, (∀ q ∈ ps, H' q = H q) → Rws K B H ps rs → Rws K B' H' ps rs
  | _, _, _, .nil => .nil
  | p :: _, _, e, .cons h d r => .cons (by rw [e p (.head _)]; exact h) (Dt.monoAll k _ _ d) (Rws.mono k (fun q hq => e q (.tail _ hq)) r)
theorem Rws.occ : ∀ {ps : List Addr} {rs : List D}, Rws K B H ps rs → ∀ q ∈ ps, ∃ o, H q = some o
  | _, _, .nil, q, hq => by cases hq
  | _, _, .cons h d r, q, hq => by
    rcases List.mem_cons.mp hq with e | e
    · subst e; exact ⟨_, h⟩
    · exact r.occ q e
theorem Rws.len : ∀ {ps : List Addr} {rs : List D}, Rws K B H ps rs → ps.length = rs.length
  | _, _, .nil => rfl
  | _, _, .cons h d r => by rw [List.length_cons, List.length_cons, r.len]
theorem Rws.app : ∀ {ps : List Addr} {rs : List D} {p : Addr} {vs : List V} {ds : List D}, Rws K B H ps rs → H p = some (.lst vs) → DtAll K B H vs ds → Rws K B H (ps ++ [p]) (rs ++ [.list ds])
  | _, _, _, _, _, .nil, h, d => .cons h d .nil
  | _, _, _, _, _, .cons h' d' r, h, d => .cons h' d' (r.app h d)
theorem Rws.get : ∀ {ps : List Addr} {rs : List D} {i : Nat} {d : D}, Rws K B H ps rs → rs[i]? = some d → ∃ p vs ds, ps[i]? = some p ∧ d = .list ds ∧ H p = some (.lst vs) ∧ DtAll K B H vs ds
  | _, _, i, d, .nil, e => by cases e
  | _, _, 0, d, .cons h d' r, e => by cases e; exact ⟨_, _, _, rfl, rfl, h, d'⟩
  | _, _, i + 1, d, .cons h d' r, e => by
    obtain ⟨p, vs, ds, a1, a2, a3, a4⟩ := r.get (i := i) e
    exact ⟨p, vs, ds, a1, a2, a3, a4⟩
/-- the row at i is changed -/
theorem Rws.set (k : Kp B H B H') : ∀ {ps : List Addr} {rs : List D} {i : Nat} {p : Addr} {vs : List V} {ds : List D}, ps.Nodup → ps[i]? = some p → (∀ q, q ≠ p → H' q = H q) → H' p = some (.lst vs) → DtAll K B H' vs ds → Rws K B H ps rs → Rws K B H' ps (rs.set i (.list ds))
  | _, _, i, p, _, _, _, hi, _, _, _, .nil => by cases hi
  | _, _, 0, p, vs, ds, hn, hi, hq, hp, hd, .cons h d r => by
    cases hi
    exact .cons hp hd (r.mono k fun q hq' => hq q fun z => (List.nodup_cons.mp hn).1 (by rw [← z]; exact hq'))
  | p0 :: _, _, i + 1, p, vs, ds, hn, hi, hq, hp, hd, .cons h d r => by
    refine .cons ?_ (Dt.monoAll k _ _ d) (Rws.set k (i := i) (List.nodup_cons.mp hn).2 hi hq hp hd r)
    rw [hq p0 fun z => (List.nodup_cons.mp hn).1 (by rw [z]; exact List.mem_of_getElem? hi)]
    exact h
theorem Rws.dt (hb : ∀ p, B p → B' p) : ∀ {ps : List Addr} {rs : List D}, (∀ q ∈ ps, B' q) → Rws K B H ps rs → DtAll K B' H (ps.map .ref) rs
  | _, _, _, .nil => .nil
  | p :: _, _, e, .cons h d r => .cons (.lst ⟨e p (.head _), h⟩ (Dt.monoAll (fun q o b z => ⟨hb q b, z⟩) _ _ d)) (Rws.dt hb (fun q hq => e q (.tail _ hq)) r)
/-- a list at a of the lists at ps -/
def rootLL (K : PySem.W.Frag) (a : Addr) (ps : List Addr) (d : D) : Root where
  fp := fun _ => a :: ps
  same := fun _ _ _ => rfl
  P := fun B H => ∃ rs, d = .list rs ∧ H a = some (.lst (ps.map .ref)) ∧ Rws K B H ps rs
  mono := fun k e h => by
    obtain ⟨rs, h1, h2, h3⟩ := h
    exact ⟨rs, h1, by rw [e a (.head _)]; exact h2, h3.mono k fun q hq => e q (.tail _ hq)⟩
  occ := fun h q hq => by
    obtain ⟨rs, h1, h2, h3⟩ := h
    rcases List.mem_cons.mp hq with z | z
    · subst z; exact ⟨_, h2⟩
    · exact h3.occ q z
/-- the rows are frozen -/
theorem Wd.half {ps : List Addr} {d : D} (w : Wd K O L (rootLL K a ps d :: Z) H) (ho : ∀ q ∈ ps, q ∉ O.fp) : Wd K O L (rootL K a d :: Z) H := by
  obtain ⟨B, w⟩ := w
  have hnd := w.nd
  rw [fps_cons] at hnd
  obtain ⟨n1, n2, n3⟩ := List.nodup_append.mp hnd
  obtain ⟨rs, rfl, h0, h1⟩ := w.rt _ (.head _)
  have k : Kp B H (fun q => B q ∨ q ∈ ps) H := fun q o b e => ⟨.inl b, e⟩
  have hps : ∀ q ∈ ps, q ∈ fps (rootLL K a ps (.list rs) :: Z) H := fun q hq => by
    rw [fps_cons]
    exact List.mem_append.mpr (.inl (.tail _ hq))
  have hsub : ∀ q ∈ fps (rootL K a (.list rs) :: Z) H, q ∈ fps (rootLL K a ps (.list rs) :: Z) H := fun q hq => by
    rw [fps_cons] at hq ⊢
    rcases List.mem_append.mp hq with e | e
    · rw [List.mem_singleton.mp e]
      exact List.mem_append.mpr (.inl (.head _))
    · exact List.mem_append.mpr (.inr e)
  refine ⟨fun q => B q ∨ q ∈ ps, fun q b => .inl (w.lo q b), fun q b => ?_, ?_, fun q hq b => ?_, fun q hq => w.fr q (hsub q hq), fun c hc => ?_, fun f hf => Dt.mono k _ _ (w.ft f hf), w.kp, w.oc, fun q b => ?_⟩
  · rcases b with b | e
    · exact w.hi q b
    · exact .inr ((w.fr q (hps q e)).resolve_left (ho q e))
  · rw [fps_cons]
    exact List.nodup_cons.mpr ⟨fun z => n3 a (.head _) a z rfl, n2⟩
  · rcases b with b | e
    · exact w.nb q (hsub q hq) b
    · rw [fps_cons] at hq
      rcases List.mem_append.mp hq with z | z
      · rw [List.mem_singleton.mp z] at e
        exact (List.nodup_cons.mp n1).1 e
      · exact n3 q (.tail _ e) q z rfl
  · rcases List.mem_cons.mp hc with e | e
    · subst e
      exact ⟨rs, _, rfl, h0, h1.dt (fun _ b => .inl b) fun q hq => .inr hq⟩
    · exact c.mono k (fun _ _ => rfl) (w.rt c (.tail _ e))
  · rcases b with b | e
    · exact w.bo q b
    · exact h1.occ q e
/-- a row more -/
theorem Wb.row {ps : List Addr} {rs ds : List D} {ys : List V} (w : Wb K O B L (rootLL K a ps (.list rs) :: Z) H) (hp : H p = Option.none) (hd : DtAll K B H ys ds) : Wb K O B L (rootLL K a (ps ++ [p]) (.list (rs ++ [.list ds])) :: Z) (upd (upd H p (.lst ys)) a (.lst (ps.map .ref ++ [.ref p]))) := by
  have s : Same H (upd H p (.lst ys)) := fun b u q => by rw [upd_ne (ne_of_none q hp)]; exact q
  have nb : ¬ B p := fun b => by
    obtain ⟨o, ho⟩ := w.bo p b
    rw [ho] at hp; cases hp
  have w2 := w.newr (x := .list ds) s (fun _ b => b) (fun _ b => .inl b) hp nb ⟨ds, ys, rfl, upd_same, Dt.monoAll (fun q o b e => ⟨b, s q o e⟩) _ _ hd⟩
  have hpa : p ≠ a := fun z => by
    have := w.free hp
    rw [z, fps_cons] at this
    exact this (List.mem_append.mpr (.inl (.head _)))
  obtain ⟨rs', e1, h1, h2⟩ := w2.rt _ (.tail _ (.head _))
  cases e1
  have hfa : a ∉ ps := by
    have := w.nd
    rw [fps_cons] at this
    exact (List.nodup_cons.mp (List.nodup_append.mp this).1).1
  refine Wb.swap (C := [rootL K p (.list ds), rootLL K a ps (.list rs)]) (C' := [rootLL K a (ps ++ [p]) (.list (rs ++ [.list ds]))]) w2 ?_ ?_ ?_ ?_
  · show (p :: (a :: ps ++ [])).Perm (a :: (ps ++ [p]) ++ [])
    rw [List.append_nil, List.append_nil]
    exact (List.Perm.swap _ _ _).trans ((List.perm_append_singleton p ps).symm.cons _)
  · intro q hq
    exact upd_ne fun z => hq (by rw [z]; exact .tail _ (.head _))
  · intro q hq
    by_cases z : q = a
    · subst z; exact ⟨_, upd_same⟩
    · rw [upd_ne z]
      have hq2 : q = p ∨ q ∈ a :: ps := by simpa [fps, rootL, rootLL] using hq
      rcases hq2 with e | e
      · subst e; exact ⟨_, upd_same⟩
      · exact h2.occ q ((List.mem_cons.mp e).resolve_left z)
  · intro k c hc
    rw [List.mem_singleton.mp hc]
    refine ⟨_, rfl, by rw [upd_same, List.map_append]; rfl, ?_⟩
    refine Rws.app (h2.mono k fun q hq => upd_ne fun z => hfa (by rw [← z]; exact hq)) (by rw [upd_ne hpa]; exact upd_same) (Dt.monoAll k _ _ (Dt.monoAll (fun q o b e => ⟨b, s q o e⟩) _ _ hd))
end
section
open SM
variable {X : Cx} {μ τ τ' ρ : Type} {G : Gx} {σ : St} {L : List (V × D)} {C Cp : μ → List Root} {te ta tb tc : TE} {tt tu : TT} {t u : TS} {E E1 E2 E3 : SM μ D} {T T1 T2 : SM μ Bool} {Jn : Shp μ τ} {Jl : Shp μ ρ} {i j : Nat} {v : V} {x d : D} {l : Addr} {ps : List Addr}
/-- x = [list(r) for r in e] -/
theorem sv_copies {wi : TI} {I : SM μ (List D)} {ws : List Nat} {k : D → SM μ (Fl τ ρ)} {σ' σ2 : V → St} {C' : Addr → List Addr → D → μ → List Root} (hc : Sub Cp C) (hi : IV G wi σ L C I) (h2 : ∀ v, (wipe σ ws).set j (some v) = σ2 v) (h3 : ∀ v, (σ2 v)[j]? = some (some v)) (h4 : ∀ v, wipe (σ2 v) ws = wipe σ ws)
    (hσ : ∀ v, σ.set i (some v) = σ' v) (hC : ∀ p ps d m, (rootLL G.K p ps d :: C m).Perm (C' p ps d m)) (hk : ∀ p ps d, p ∉ G.O.fp → (∀ q ∈ ps, q ∉ G.O.fp) → SV G Cp u (σ' (.ref p)) L (C' p ps d) (k d) Jn Jl) :
    SV G Cp (tSeq (tAsg (tLc wi (gName j) tYes (tCB (fun xs H Q => ∃ p ys, xs = [.ref p] ∧ (SqL G.K H p ys ∨ SqT G.K H p ys) ∧ ∀ l, H l = none → Q (.ref l) (upd H l (.lst ys))) (tCons (tVar j) tNil)) ws) (gName i)) u) σ L C (bd (lc I (fun _ => pu true) (fun x => opL listD (ac (pu x) a0))) k) Jn Jl := by
  refine sv_bd hc fun m F L' H e s w q bk => ?_
  refine hi m F L' H _ s w (fun xs m1 It H1 L1 e1 s1 w1 hit => ?_) bk.fst
  have b1 := bk.snd e1
  intro A hA
  have hAO : A ∉ G.O.fp := by
    obtain ⟨B, wb⟩ := w1
    exact wb.nofp hA
  have w0 : Wd G.K G.O L1 (C m1 ++ (rootLL G.K A [] (.list []) :: F)) (upd H1 A (.lst [])) := by
    obtain ⟨B, wb⟩ := (w1.acc hA).perm List.perm_middle
    refine Wd.perm (C := rootLL G.K A [] (.list []) :: (C m1 ++ F)) ⟨B, Wb.swap (C := [rootL G.K A (.list [])]) (C' := [rootLL G.K A [] (.list [])]) wb (.refl _) (fun _ _ => rfl) (fun q hq => ?_) fun _ c hc => ?_⟩ List.perm_middle.symm
    · have : q = A := by simpa [fps, rootL] using hq
      subst this; exact ⟨_, upd_same⟩
    · rw [List.mem_singleton.mp hc]
      exact ⟨[], rfl, upd_same, .nil⟩
  refine ⟨fun i n H' => n = xs.length - i ∧ i ≤ xs.length ∧ ∃ acc ps, lcS (fun _ => pu true) (fun x => opL listD (ac (pu x) a0)) xs [] m1 = lcS (fun _ => pu true) (fun x => opL listD (ac (pu x) a0)) (xs.drop i) acc m1 ∧ (∀ q ∈ ps, q ∉ G.O.fp) ∧ Wd G.K G.O L1 (C m1 ++ (rootLL G.K A ps (.list acc) :: F)) H', ⟨xs.length, by simp, Nat.zero_le _, [], [], rfl, fun q hq => (by cases hq), w0⟩, ?_⟩
  rintro i n H' ⟨rfl, hin, acc, ps, ez, ho, wz⟩
  have hI := hit _ _ _ (fun f hf => hf) wz i
  by_cases hlt : i < xs.length
  · have hx : xs[i]? = some xs[i] := List.getElem?_eq_getElem hlt
    obtain ⟨go, hy⟩ := hI.1 _ hx
    rw [forS_step hx] at ez
    refine .inr ⟨go, fun H'' => ∃ acc ps, lcS (fun _ => pu true) (fun x => opL listD (ac (pu x) a0)) xs [] m1 = lcS (fun _ => pu true) (fun x => opL listD (ac (pu x) a0)) (xs.drop (i + 1)) acc m1 ∧ (∀ q ∈ ps, q ∉ G.O.fp) ∧ Wd G.K G.O L1 (C m1 ++ (rootLL G.K A ps (.list acc) :: F)) H'', fun H'' hN => ⟨xs.length - (i + 1), by omega, rfl, hlt, hN⟩, fun v H2 y => ?_⟩
    have w2 := hy v H2 y
    have b2 : Bk G C F L' (lcS (fun _ => pu true) (fun x => opL listD (ac (pu x) a0)) (xs[i] :: xs.drop (i + 1)) acc m1) := by
      have := b1.fst
      rw [ez] at this
      exact this
    have e4 : lcS (fun _ => pu true) (fun x => opL listD (ac (pu x) a0)) (xs[i] :: xs.drop (i + 1)) acc m1 = (bd (of (listD [xs[i]])) fun y => if acc.length < sizeLine then lcS (fun _ => pu true) (fun x => opL listD (ac (pu x) a0)) (xs.drop (i + 1)) (acc ++ [y]) else bad) m1 := rfl
    rw [e4] at b2
    show wipe ((wipe σ ws).set j (some v)) ws = wipe σ ws ∧ _
    rw [h2]
    refine ⟨h4 v, ?_⟩
    refine ⟨v, h3 v, ?_⟩
    obtain ⟨B, wb⟩ := w2.perm List.perm_middle
    -- the row's items
    have row : ∃ p ys ds, v = .ref p ∧ (SqL G.K H2 p ys ∨ SqT G.K H2 p ys) ∧ DtAll G.K B H2 ys ds ∧ listD [xs[i]] = some (.list ds) := by
      have hd := wb.ft _ (.head _)
      generalize hxi : xs[i] = xi at hd b2
      cases xi with
      | list ds =>
        obtain ⟨p, ys, rfl, hl, ha⟩ := Dt.lst_inv hd
        exact ⟨p, ys, ds, rfl, .inl hl.sq, ha, rfl⟩
      | tuple ds =>
        obtain ⟨p, ys, rfl, hl, ha⟩ := Dt.tup_inv hd
        exact ⟨p, ys, ds, rfl, .inr hl.sq, ha, rfl⟩
      | _ => exact absurd rfl b2.2
    obtain ⟨p, ys, ds, rfl, hsq, hda, hls⟩ := row
    refine ⟨p, ys, rfl, hsq, fun r hr => ?_⟩
    obtain ⟨rs0, e0, h0, hrw⟩ := wb.rt _ (.head _)
    cases e0
    have hrA : r ≠ A := fun z => by
      rw [z, h0] at hr; cases hr
    rw [hls] at b2
    have b3 : Bk G C F L' ((if acc.length < sizeLine then lcS (fun _ => pu true) (fun x => opL listD (ac (pu x) a0)) (xs.drop (i + 1)) (acc ++ [.list ds]) else bad) m1) := b2
    by_cases hz : acc.length < sizeLine
    · refine ⟨ps.map .ref, by rw [upd_ne (Ne.symm hrA)]; exact h0, by rw [List.length_map, hrw.len]; exact hz, acc ++ [.list ds], ps ++ [r], ez.trans ?_, fun q hq => ?_, ?_⟩
      · rw [e4, hls]
        show (fun y => if acc.length < sizeLine then lcS (fun _ => pu true) (fun x => opL listD (ac (pu x) a0)) (xs.drop (i + 1)) (acc ++ [y]) else bad) (.list ds) m1 = _
        simp only [hz, if_true]
      · rcases List.mem_append.mp hq with z | z
        · exact ho q z
        · rw [List.mem_singleton.mp z]
          exact wb.nofp hr
      · have w4 := wb.row hr hda
        exact (Wd.perm (C := rootLL G.K A (ps ++ [r]) (.list (acc ++ [.list ds])) :: (C m1 ++ F)) ⟨B, w4⟩ List.perm_middle.symm).sub fun f hf => .tail _ hf
    · rw [if_neg hz] at b3
      exact absurd rfl b3.2
  · have ei : i = xs.length := by omega
    subst ei
    rw [List.drop_length] at ez
    refine .inl ⟨hI.2 (Nat.le_refl _), ?_⟩
    show u e (σ.set _ (some (.ref A))) H'
    rw [hσ]
    have w5 : Wd G.K G.O L1 (C' A ps (.list acc) m1 ++ F) H' := (wz.perm List.perm_middle).perm ((hC A ps (.list acc) m1).append_right F)
    refine q (.list acc) m1 (σ' (.ref A)) [] (C' A ps (.list acc)) H' ?_ (w5.sub fun f hf => s1 f hf) (hk A ps (.list acc) hAO ho)
    show bd I _ m = _
    rw [bd_ok e1]
    show bd (lcS _ _ xs []) _ m1 = _
    rw [bd_ok (show lcS (fun _ => pu true) (fun x => opL listD (ac (pu x) a0)) xs [] m1 = .ok acc m1 from ez)]; rfl
theorem sv_half {R : SM μ (Fl τ ρ)} {Z : μ → List Root} {C' : μ → List Root} (hC : ∀ m, (C m).Perm (rootLL G.K l ps d :: Z m)) (hC' : ∀ m, (rootL G.K l d :: Z m).Perm (C' m)) (ho : ∀ q ∈ ps, q ∉ G.O.fp) (h : SV G Cp t σ L C' R Jn Jl) : SV G Cp t σ L C R Jn Jl :=
  fun m F L' H e s w q1 q2 q3 q4 b => h m F L' H e s (((w.perm ((hC m).append_right F)).half ho).perm ((hC' m).append_right F)) q1 q2 q3 q4 b
theorem rootLLAt {K : PySem.W.Frag} {O : Og} {L : List (V × D)} {Z : List Root} {H : Hp} (w : Wd K O L (rootLL K l ps d :: Z) H) : ∃ B rs, Wb K O B L (rootLL K l ps d :: Z) H ∧ d = .list rs ∧ H l = some (.lst (ps.map .ref)) ∧ Rws K B H ps rs := by
  obtain ⟨B, wb⟩ := w
  obtain ⟨rs, h1, h2, h3⟩ := wb.rt _ (.head _)
  exact ⟨B, rs, wb, h1, h2, h3⟩
theorem ev_rlenLL {Z : μ → List Root} (hv : σ[i]? = some (some (.ref l))) (hC : ∀ m, (C m).Perm (rootLL G.K l ps d :: Z m)) : EV G (tCB (fun xs H Q => ∃ x n, xs = [x] ∧ LenV G.K x H n ∧ Q (.int n) H) (tCons (tVar i) tNil)) σ L C (of (lenD [d])) := by
  intro m F L' H Q s w q b
  obtain ⟨B, rs, wb, ed, h1, hd⟩ := rootLLAt (Z := Z m ++ F) (w.perm ((hC m).append_right F))
  subst ed
  refine ⟨.ref l, hv, .ref l, (ps.map V.ref).length, rfl, .inl ⟨_, SqL.of h1, rfl⟩, ?_⟩
  rw [List.length_map, hd.len]
  exact q _ m _ H rfl (w.fact fun _ _ => .int _)
/-- len(x[i]) -/
theorem ev_llen {Z : μ → List Root} (hv : σ[i]? = some (some (.ref l))) (h : EV G te σ L C E) (hC : ∀ m, (C m).Perm (rootLL G.K l ps d :: Z m)) : EV G (tCB (fun xs H Q => ∃ x n, xs = [x] ∧ LenV G.K x H n ∧ Q (.int n) H) (tCons (tOp (rIx G.K) (tVar i) te) tNil)) σ L C (bd E fun x => bd (of (idxD d x)) fun y => of (lenD [y])) := by
  intro m F L' H Q s w q b
  refine ⟨.ref l, hv, h m F L' H _ s w (fun x m1 v H1 e1 w1 => ?_) b.fst⟩
  have b1 := b.snd e1
  obtain ⟨B, rs, wb, ed, h1, hd⟩ := rootLLAt (Z := Z m1 ++ F) (w1.perm ((hC m1).append_right F))
  subst ed
  cases x with
  | int n =>
    simp only [idxD] at b1
    cases ea : atI rs n with
    | none => rw [ea] at b1; exact absurd rfl b1.2
    | some y =>
      unfold atI at ea
      cases ei : ixN rs.length n with
      | none => rw [ei] at ea; cases ea
      | some k =>
        rw [ei] at ea
        obtain ⟨p, vs, ds, hp, rfl, hvp, hda⟩ := hd.get (show rs[k]? = some y from ea)
        refine .inl ⟨l, _, n, .ref p, rfl, (wb.ft _ (.head _)).int_inv, SqL.of h1, ?_, ?_⟩
        · unfold atI
          rw [List.length_map, hd.len, ei]
          show (ps.map V.ref)[k]? = _
          rw [List.getElem?_map, hp]; rfl
        · refine ⟨.ref p, vs.length, rfl, .inl ⟨vs, SqL.of hvp, rfl⟩, ?_⟩
          rw [hda.len]
          refine q _ m1 _ H1 ?_ ((w1.sub fun f hf => .tail _ hf).fact fun _ _ => .int _)
          show bd E _ m = _
          rw [bd_ok e1]
          simp only [idxD]
          unfold atI
          rw [ei]
          show bd (of (rs[k]?)) _ m1 = _
          rw [show rs[k]? = some (.list ds) from ea]; rfl
  | _ => exact absurd rfl b1.2
end
namespace SM
def set2D (d x y z : D) : Option D := match idxD d x with
  | some r => match setD r y z with
    | some r' => setD d x r'
    | none => none
  | none => none
end SM
section
open SM
variable {X : Cx} {μ τ τ' ρ : Type} {G : Gx} {σ : St} {L : List (V × D)} {C Cp : μ → List Root} {te ta tb tc : TE} {tt tu : TT} {t u : TS} {E E1 E2 E3 : SM μ D} {T T1 T2 : SM μ Bool} {Jn : Shp μ τ} {Jl : Shp μ ρ} {i j : Nat} {v : V} {x d : D} {l : Addr} {ps : List Addr}
/-- x[i][j] = e -/
theorem sv_set2 {k : D → SM μ (Fl τ ρ)} {Z : μ → List Root} {C' : D → μ → List Root} (hc : Sub Cp C) (hv : σ[i]? = some (some (.ref l))) (h1 : EV G ta σ L C E1) (h2 : EV G tb σ L C E2) (h3 : EV G tc σ L C E3) (hC : ∀ m, (C m).Perm (rootLL G.K l ps d :: Z m)) (hC' : ∀ d' m, (rootLL G.K l ps d' :: Z m).Perm (C' d' m))
    (hk : ∀ d', SV G Cp u σ L (C' d') (k d') Jn Jl) : SV G Cp (tSeq (tAsg ta (gSub (tOp (rIx G.K) (tVar i) tb) tc rSetL)) u) σ L C (bd (bd E1 fun z => bd E2 fun x => bd (of (idxD d x)) fun _ => bd E3 fun y => of (set2D d x y z)) k) Jn Jl := by
  refine sv_bd hc fun m F L' H e s w q b => ?_
  refine h1 m F L' H _ s w (fun z m1 vz H1 e1 w1 => ?_) b.fst
  have b1 := b.snd e1
  refine ⟨.ref l, hv, h2 m1 F _ H1 _ (fun f hf => .tail _ (s f hf)) w1 (fun x m2 v H2 e2 w2 => ?_) (b1.fst.mono fun f hf => .tail _ hf)⟩
  have b2 := b1.snd e2
  obtain ⟨B, rs, wb, ed, hl, hd⟩ := rootLLAt (Z := Z m2 ++ F) (w2.perm ((hC m2).append_right F))
  subst ed
  cases x with
  | int n =>
    cases ei : ixN rs.length n with
    | none =>
      have : idxD (.list rs) (.int n) = none := by simp only [idxD]; unfold atI; rw [ei]; rfl
      rw [this] at b2
      exact absurd rfl b2.2
    | some a =>
      have ha := (ixN_seq ei).2.1
      obtain ⟨y, hy⟩ : ∃ y, rs[a]? = some y := ⟨_, List.getElem?_eq_getElem ha⟩
      have hidx : idxD (.list rs) (.int n) = some y := by
        simp only [idxD]; unfold atI; rw [ei]; exact hy
      rw [hidx] at b2
      have b3 : Bk G C F L' (bd E3 (fun y => of (set2D (.list rs) (.int n) y z)) m2) := b2
      obtain ⟨p, vs, ds, hp, rfl, hvp, hda⟩ := hd.get hy
      refine .inl ⟨l, _, n, .ref p, rfl, (wb.ft _ (.head _)).int_inv, SqL.of hl, ?_, ?_⟩
      · unfold atI
        rw [List.length_map, hd.len, ei]
        show (ps.map V.ref)[a]? = _
        rw [List.getElem?_map, hp]; rfl
      refine h3 m2 F _ H2 _ (fun f hf => .tail _ (.tail _ (s f hf))) w2 (fun y m3 vy H3 e3 w3 => ?_) (b3.fst.mono fun f hf => .tail _ (.tail _ hf))
      have b4 := b3.snd e3
      obtain ⟨B3, rs3, wb3, ed3, hl3, hd3⟩ := rootLLAt (Z := Z m3 ++ F) (w3.perm ((hC m3).append_right F))
      cases ed3
      obtain ⟨p3, vs3, ds3, hp3, ed4, hvp3, hda3⟩ := hd3.get hy
      cases ed4
      rw [hp] at hp3
      cases hp3
      have hset : set2D (.list rs) (.int n) y z = (match setD (.list ds) y z with | some r' => setD (.list rs) (.int n) r' | none => none) := by
        unfold set2D
        rw [hidx]
      cases y with
      | int n2 =>
        have hs1 : setD (.list ds) (.int n2) z = (match ixN ds.length n2 with | some j => some (.list (ds.set j z)) | none => none) := rfl
        cases ej : ixN ds.length n2 with
        | none =>
          rw [ej] at hs1
          rw [hset, hs1] at b4
          exact absurd rfl b4.2
        | some c =>
          rw [ej] at hs1
          have hs2 : set2D (.list rs) (.int n) (.int n2) z = some (.list (rs.set a (.list (ds.set c z)))) := by
            rw [hset, hs1]
            show setD (.list rs) (.int n) (.list (ds.set c z)) = _
            show (match ixN rs.length n with | some j => some (PyData.list (rs.set j (.list (ds.set c z)))) | none => none) = _
            rw [ei]
          refine ⟨p, vs3, n2, c, rfl, (wb3.ft _ (.head _)).int_inv, hvp3, by rw [hda3.len]; exact ej, ?_⟩
          have hps : p ∈ ps := List.mem_of_getElem? hp
          have hnd : (l :: ps).Nodup := by
            have := wb3.nd
            rw [fps_cons] at this
            exact (List.nodup_append.mp this).1
          have hpl : l ≠ p := fun zz => (List.nodup_cons.mp hnd).1 (by rw [zz]; exact hps)
          have w4 : Wb G.K G.O B3 ((vy, .int n2) :: (v, .int n) :: (vz, z) :: L') ([rootLL G.K l ps (.list (rs.set a (.list (ds.set c z))))] ++ (Z m3 ++ F)) (upd H3 p (.lst (vs3.set c vz))) := by
            refine Wb.swap (C := [rootLL G.K l ps (.list rs)]) wb3 (.refl _) (fun q hq => upd_ne fun zz => hq ?_) (fun q hq => ?_) fun kk c' hc' => ?_
            · rw [zz, fps_cons]
              exact List.mem_append.mpr (.inl (.tail _ hps))
            · by_cases zz : q = p
              · subst zz; exact ⟨_, upd_same⟩
              · rw [upd_ne zz]
                have hq2 : q ∈ l :: ps := by simpa [fps, rootLL] using hq
                rcases List.mem_cons.mp hq2 with e9 | e9
                · subst e9; exact ⟨_, hl3⟩
                · exact hd3.occ q e9
            · rw [List.mem_singleton.mp hc']
              refine ⟨_, rfl, by rw [upd_ne hpl]; exact hl3, hd3.set kk (List.nodup_cons.mp hnd).2 hp (fun q hq => upd_ne hq) upd_same ?_⟩
              exact (Dt.monoAll kk _ _ hda3).set (Dt.mono kk _ _ (wb3.ft _ (.tail _ (.tail _ (.head _)))))
          have w5 : Wd G.K G.O ((vy, .int n2) :: (v, .int n) :: (vz, z) :: L') (C' (.list (rs.set a (.list (ds.set c z)))) m3 ++ F) (upd H3 p (.lst (vs3.set c vz))) := (Wd.perm (C := rootLL G.K l ps (.list (rs.set a (.list (ds.set c z)))) :: (Z m3 ++ F)) ⟨B3, w4⟩ ((hC' _ m3).append_right F))
          refine q (.list (rs.set a (.list (ds.set c z)))) m3 σ [] (C' (.list (rs.set a (.list (ds.set c z))))) _ ?_ (w5.sub fun f hf => .tail _ (.tail _ (.tail _ hf))) (hk _)
          show bd E1 _ m = _
          rw [bd_ok e1, bd_ok e2, hidx]
          show bd E3 _ m2 = _
          rw [bd_ok e3, hs2]; rfl
      | _ =>
        rw [hset] at b4
        exact absurd rfl b4.2
  | _ => exact absurd rfl b2.2
/-- x[i] = e, x a list of one's own -/
theorem sv_rset {k : D → SM μ (Fl τ ρ)} {Z : μ → List Root} {C' : D → μ → List Root} (hc : Sub Cp C) (hv : σ[i]? = some (some (.ref l))) (h1 : EV G ta σ L C E1) (h2 : EV G tb σ L C E2) (hC : ∀ m, (C m).Perm (rootL G.K l d :: Z m)) (hC' : ∀ d' m, (rootL G.K l d' :: Z m).Perm (C' d' m))
    (hk : ∀ d', SV G Cp u σ L (C' d') (k d') Jn Jl) : SV G Cp (tSeq (tAsg ta (gSub (tVar i) tb rSetL)) u) σ L C (bd (bd E1 fun y => bd E2 fun x => of (setD d x y)) k) Jn Jl := by
  refine sv_bd hc fun m F L' H e s w q b => ?_
  refine h1 m F L' H _ s w (fun y m1 vy H1 e1 w1 => ?_) b.fst
  have b1 := b.snd e1
  refine ⟨.ref l, hv, h2 m1 F _ H1 _ (fun f hf => .tail _ (s f hf)) w1 (fun x m2 v H2 e2 w2 => ?_) (b1.fst.mono fun f hf => .tail _ hf)⟩
  have b2 := b1.snd e2
  obtain ⟨B, ds, vs, wb, ed, hl, hd⟩ := rootAt (Z := Z m2 ++ F) (w2.perm ((hC m2).append_right F))
  subst ed
  cases x with
  | int n =>
    have hset : setD (.list ds) (.int n) y = (match ixN ds.length n with | some j => some (.list (ds.set j y)) | none => none) := rfl
    cases ea : ixN ds.length n with
    | none =>
      rw [hset, ea] at b2
      exact absurd rfl b2.2
    | some c =>
      rw [ea] at hset
      refine ⟨l, vs, n, c, rfl, (wb.ft _ (.head _)).int_inv, hl, by rw [hd.len]; exact ea, ?_⟩
      have w3 : Wd G.K G.O ((v, .int n) :: (vy, y) :: L') (rootL G.K l (.list (ds.set c y)) :: (Z m2 ++ F)) (upd H2 l (.lst (vs.set c vy))) := Wd.put ⟨B, wb⟩ fun B' f hr => by
        obtain ⟨ds', us', e6, hA5, hda5⟩ := hr
        cases e6
        rw [hl] at hA5
        cases hA5
        exact hda5.set (f _ (.tail _ (.head _)))
      have w4 : Wd G.K G.O ((v, .int n) :: (vy, y) :: L') (C' (.list (ds.set c y)) m2 ++ F) (upd H2 l (.lst (vs.set c vy))) := w3.perm ((hC' _ m2).append_right F)
      refine q (.list (ds.set c y)) m2 σ [] (C' (.list (ds.set c y))) _ ?_ (w4.sub fun f hf => .tail _ (.tail _ hf)) (hk _)
      show bd E1 _ m = _
      rw [bd_ok e1, bd_ok e2, hset]; rfl
  | _ => exact absurd rfl b2.2
end
/-! ### defs that call themselves: a promise of nothing -/
section
open SM
variable {K : PySem.W.Frag} {n : Nat} {vs : List V} {H : Hp} {Q : VK} {E : XK}
theorem spD_bad {mf : List D → SM D D} (hb : ∀ ds m, mf ds m = .bad) (h : SpD K n mf vs H Q E) : False := by
  obtain ⟨_, B, a, us, ds, m, x, m', _, _, _, _, _, ex, _⟩ := h
  rw [hb] at ex
  cases ex
theorem spP_bad {mf : List D → SM Unit D} (hb : ∀ ds m, mf ds m = .bad) (h : SpP K n mf vs H Q E) : False := by
  obtain ⟨_, B, ds, x, _, _, ex, _⟩ := h
  rw [hb] at ex
  cases ex
end
section
open PySem
open PySem.Sem (wp)
/-! ### zip of a range and two lists, at the library's level -/
abbrev IsZ (h : Heap) (z TI TO : Addr) (f0 : Value) (b : Bool) : Prop :=
  h.get? z = some { cls := .type "zip", dict := none, data := .fields #[f0, .bool b, .bool false, .ref TI, .ref TO], slots := #[] }
abbrev IsTr (h : Heap) (T : Addr) (a b c : Value) : Prop := h.get? T = some { cls := .type "tuple", data := .seq #[a, b, c] }
theorem typeCall_zip_3 (a b c : Value) : checkTypeCall "zip" ⟨[a, b, c], []⟩ = pure () := by kernel_rfl
theorem newCall_zip_3 (a b c : Value) : checkBuiltinCall "zip.__new__" ⟨[.type "zip", a, b, c], []⟩ = pure () := by kernel_rfl
theorem args_object_init_4 (a b c d : Value) : argsOk "object.__init__" ⟨[a, b, c, d], []⟩ := by
  unfold argsOk; rw [signature?_of (id := "object.__init__") (n := ['_', '_', 't', 'i', 'n', 'i', '_', '_']) (o := ['t', 'c', 'e', 'j', 'b', 'o']) (by kernel_rfl) F.owner_object]; kernel_rfl
abbrev z3H1 (h : Heap) (a n : Int) : Heap := h.push { cls := .type "range_iterator", data := .fields #[rawInt a, rawInt n, rawInt 1] }
abbrev z3H2 (h : Heap) (a n : Int) (l1 : Addr) : Heap := (z3H1 h a n).push { cls := .type "list_iterator", data := .fields #[.ref l1, .int 0 0] }
abbrev z3H3 (h : Heap) (a n : Int) (l1 l2 : Addr) : Heap := (z3H2 h a n l1).push { cls := .type "list_iterator", data := .fields #[.ref l2, .int 0 0] }
abbrev z3H4 (h : Heap) (a n : Int) (l1 l2 : Addr) : Heap := (z3H3 h a n l1 l2).push { cls := .type "tuple", data := .seq #[.ref h.objs.size, .ref (z3H1 h a n).objs.size, .ref (z3H2 h a n l1).objs.size] }
abbrev z3H5 (h : Heap) (a n : Int) (l1 l2 : Addr) : Heap := (z3H4 h a n l1 l2).push { cls := .type "tuple", data := .seq #[.none, .none, .none] }
abbrev z3H6 (h : Heap) (a n : Int) (l1 l2 : Addr) : Heap := (z3H5 h a n l1 l2).push { cls := .type "zip", data := .fields #[.none, .bool false, .bool false, .ref (z3H3 h a n l1 l2).objs.size, .ref (z3H4 h a n l1 l2).objs.size] }
theorem meets_zip_new3 (r l1 l2 : Addr) (a b : Int) (t u v : Tok) (xs ys : Array Value) (hsm : Builtin.Range.small a b 1 = true) :
    Meets (Builtin.«zip.__new__» ⟨[.type "zip", .ref r, .ref l1, .ref l2], []⟩) (fun _ R s => IsRange s.heap r a b 1 t u v ∧ s.heap.IsList l1 xs ∧ s.heap.IsList l2 ys ∧
      R (.ok (.ret (.ref (z3H5 s.heap a (Builtin.Range.rangeSize a b 1) l1 l2).objs.size))) { s with heap := z3H6 s.heap a (Builtin.Range.rangeSize a b 1) l1 l2 }) :=
  .of_wp fun prog w A R s h => by
    obtain ⟨hp, g, d, tk, os⟩ := s; obtain ⟨hr, hl1, hl2, h⟩ := h
    have hsub := sub_zip
    have hR : IsRange (Shared.heap ⟨hp, g, d, tk, os⟩) r a b 1 t u v := hr
    have hL1 : Heap.IsList (Shared.heap ⟨z3H1 hp a (Builtin.Range.rangeSize a b 1), g, d, tk, os⟩) l1 xs := Heap.IsList.push hl1 _
    have hL2 : Heap.IsList (Shared.heap ⟨z3H2 hp a (Builtin.Range.rangeSize a b 1) l1, g, d, tk, os⟩) l2 ys := Heap.IsList.push (Heap.IsList.push hl2 _) _
    wp_walk using wpAny_pyIter_range hR hsm, wpAny_pyIter_list hL1, wpAny_pyIter_list hL2
    exact ⟨_, rfl, h⟩
section
variable {prog : Program} {w : World} {A : Around} {E : Value → Shared → Prop} {s : Shared}
theorem call_zip_3 {r l1 l2 : Addr} {i j : Int} {t u v : Tok} {xs ys : Array Value} {Q : Value → Shared → Prop} (hr : IsRange s.heap r i j 1 t u v) (hsm : Builtin.Range.small i j 1 = true) (hl1 : s.heap.IsList l1 xs) (hl2 : s.heap.IsList l2 ys)
    (h : ∀ h' N, N = s.heap.objs.size → IsZ h' (N + 5) (N + 3) (N + 4) .none false → IsTr h' (N + 3) (.ref N) (.ref (N + 1)) (.ref (N + 2)) →
      IsTr h' (N + 4) .none .none .none → IsRangeIter h' N i (Builtin.Range.rangeSize i j 1) 1 → h'.IsListIter (N + 1) l1 0 → h'.IsListIter (N + 2) l2 0 → h'.objs.size = N + 6 →
      (∀ c o, s.heap.get? c = some o → h'.get? c = some o) → Q (.ref (N + 5)) { s with heap := h' }) :
    wpAny (model prog w) A (call (.type "zip") [.ref r, .ref l1, .ref l2]) Q E s := by
  refine callType_new F.called_zip (by decide) (typeCall_zip_3 _ _ _) (newCall_zip_3 _ _ _) (fun obj => args_object_init_4 obj _ _ _) F.entry_zip_new
    (meets_zip_new3 r l1 l2 i j t u v xs ys hsm) ⟨hr, hl1, hl2, ?_⟩
  generalize Builtin.Range.rangeSize i j 1 = n at *
  have z1 : (z3H1 s.heap i n).objs.size = s.heap.objs.size + 1 := Heap.size_push ..
  have z2 : (z3H2 s.heap i n l1).objs.size = s.heap.objs.size + 2 := by rw [Heap.size_push, z1]
  have z3 : (z3H3 s.heap i n l1 l2).objs.size = s.heap.objs.size + 3 := by rw [Heap.size_push, z2]
  have z4 : (z3H4 s.heap i n l1 l2).objs.size = s.heap.objs.size + 4 := by rw [Heap.size_push, z3]
  have z5 : (z3H5 s.heap i n l1 l2).objs.size = s.heap.objs.size + 5 := by rw [Heap.size_push, z4]
  have z6 : (z3H6 s.heap i n l1 l2).objs.size = s.heap.objs.size + 6 := by rw [Heap.size_push, z5]
  have g6 : (z3H6 s.heap i n l1 l2).get? (z3H5 s.heap i n l1 l2).objs.size = some _ := Heap.get?_push_size _ rfl
  have g5 : (z3H6 s.heap i n l1 l2).get? (z3H4 s.heap i n l1 l2).objs.size = some _ := Heap.get?_push_of_some _ (Heap.get?_push_size _ rfl)
  have g4 : (z3H6 s.heap i n l1 l2).get? (z3H3 s.heap i n l1 l2).objs.size = some _ := Heap.get?_push_of_some _ (Heap.get?_push_of_some _ (Heap.get?_push_size _ rfl))
  have g3 : (z3H6 s.heap i n l1 l2).get? (z3H2 s.heap i n l1).objs.size = some _ := Heap.get?_push_of_some _ (Heap.get?_push_of_some _ (Heap.get?_push_of_some _ (Heap.get?_push_size _ rfl)))
  have g2 : (z3H6 s.heap i n l1 l2).get? (z3H1 s.heap i n).objs.size = some _ := Heap.get?_push_of_some _ (Heap.get?_push_of_some _ (Heap.get?_push_of_some _ (Heap.get?_push_of_some _ (Heap.get?_push_size _ rfl))))
  have g1 : (z3H6 s.heap i n l1 l2).get? s.heap.objs.size = some _ := Heap.get?_push_of_some _ (Heap.get?_push_of_some _ (Heap.get?_push_of_some _ (Heap.get?_push_of_some _ (Heap.get?_push_of_some _ (Heap.get?_push_size _ rfl)))))
  show _ ∧ _
  rw [z3, z4, z5] at g6
  rw [z4] at g5
  rw [z1, z2, z3] at g4
  rw [z2] at g3
  rw [z1] at g2
  rw [z5]
  exact ⟨⟨_, g6, rfl⟩, h _ _ rfl g6 g4 g5 g1 ⟨_, g2, rfl, rfl⟩ ⟨_, g3, rfl, rfl⟩ z6 fun c o x =>
    Heap.get?_push_of_some _ (Heap.get?_push_of_some _ (Heap.get?_push_of_some _ (Heap.get?_push_of_some _ (Heap.get?_push_of_some _ (Heap.get?_push_of_some _ x)))))⟩
theorem nextOf_range_item {it : Addr} {x left step : Int} {Q : Value → Shared → Prop} (hit : IsRangeIter s.heap it x left step) (hleft : 0 < left)
    (hQ : ∀ h', IsRangeIter h' it (x + step) (left - 1) step → Heap.SameBut it s.heap h' → Q (.int x s.toks) { s with heap := h', toks := s.toks + 1 }) :
    wpAny (model prog w) A (Builtin.SmallTypes.nextOf (.ref it)) Q E s := by
  have hT : s.TypeIs (.ref it) "range_iterator" := ⟨_, hit, rfl⟩
  unfold Builtin.SmallTypes.nextOf
  refine wpAny_bind (wpAny_callSpecial?_slot (name := Str.ofString "__next__") hT F.slot_range_iterator_next
    (call_meets F.slot_range_iterator_next hT F.entry_range_iterator_next (F.args_range_iterator_next_1 _) (AutoRange.range_iterator___next___range_iterator_1 it x left step (by omega)) ⟨hit, ?_⟩))
  exact wpAny_pure (hQ _ (Heap.get?_update_self _ (Heap.get?_update_self _ hit rfl) rfl) ((Heap.SameBut.update ..).trans (Heap.SameBut.update ..)))
theorem nextOf_range_end {it : Addr} {x left step : Int} {Q : Value → Shared → Prop} (hh : A.handled = none) (hit : IsRangeIter s.heap it x left step) (hleft : left ≤ 0)
    (hE : ∀ h' e, Heap.ExtBut it s.heap h' → (∃ o, h'.get? e = some o ∧ o.cls = .type "StopIteration") → E (.ref e) { s with heap := h' }) :
    wpAny (model prog w) A (Builtin.SmallTypes.nextOf (.ref it)) Q E s := by
  have hT : s.TypeIs (.ref it) "range_iterator" := ⟨_, hit, rfl⟩
  unfold Builtin.SmallTypes.nextOf
  refine wpAny_bind (wpAny_callSpecial?_slot (name := Str.ofString "__next__") hT F.slot_range_iterator_next
    (wpAny_call_entry F.slot_range_iterator_next hT F.entry_range_iterator_next ?_ (F.args_range_iterator_next_1 _)))
  show wpAny _ _ (field (.ref it) 0 >>= _) _ _ s
  refine wpAny_bind (wpAny_field hit rfl (x := rawInt x) rfl ?_)
  show wpAny _ _ (field (.ref it) 1 >>= _) _ _ s
  refine wpAny_bind (wpAny_field hit rfl (x := rawInt left) rfl ?_)
  show wpAny _ _ (field (.ref it) 2 >>= _) _ _ s
  refine wpAny_bind (wpAny_field hit rfl (x := rawInt step) rfl ?_)
  show wpAny _ _ (if left ≤ 0 then _ else _) _ _ s
  rw [if_pos hleft]
  refine wpAny_bind (wpAny_rule ?_)
  refine wpAny_bind ?_
  show wpAny _ _ (newExc (.type "StopIteration") [] >>= _) _ _ _
  refine wpAny_bind ?_
  simp only [newExc, newTuple]
  refine wpAny_bind (wpAny_newObj_type ?_ (by size_fits))
  refine wpAny_bind (m := firstArgMember _ _) (wpAny_of_eq (a := Value.none) (by first | rfl | (simp only [firstArgMember]; rfl)) ?_)
  refine wpAny_newObj_type ?_ (by size_fits)
  simp only [raiseNew]
  refine wpAny_bind (wpAny_handled ?_)
  first | rw [show A.in1.handled = none from hh] | rw [hh]
  refine wpAny_bind (wpAny_pure (wpAny_throw ?_))
  exact hE _ _ (((Heap.ExtBut.refl it s.heap).push _).push _) ⟨_, Heap.get?_push_size _ rfl, rfl⟩
theorem updateSeq_tr {T : Addr} {a b c x : Value} {k : Nat} {Q : Unit → Shared → Prop} (hT : IsTr s.heap T a b c)
    (h : ∀ h', h'.get? T = some { cls := .type "tuple", data := .seq ((#[a, b, c] : Array Value).setIfInBounds k x) } → Heap.SameBut T s.heap h' → Q () { s with heap := h' }) :
    wpAny (model prog w) A (updateSeq T (·.setIfInBounds k x)) Q E s := by
  refine wpAny_updateSeq hT rfl (h _ ?_ (Heap.SameBut.update ..))
  rw [Heap.get?_update_self _ hT rfl]
  simp [Obj.mapSeq]
/-- all of these apart -/
structure Z3Ap (z TI TO i1 i2 i3 l1 l2 : Addr) : Prop where
  TIz : TI ≠ z
  TOz : TO ≠ z
  i1z : i1 ≠ z
  i2z : i2 ≠ z
  i3z : i3 ≠ z
  TITO : TI ≠ TO
  TIi1 : TI ≠ i1
  TIi2 : TI ≠ i2
  TIi3 : TI ≠ i3
  TOi1 : TO ≠ i1
  TOi2 : TO ≠ i2
  TOi3 : TO ≠ i3
  i12 : i1 ≠ i2
  i13 : i1 ≠ i3
  i23 : i2 ≠ i3
  l1z : l1 ≠ z
  l1TO : l1 ≠ TO
  l1i1 : l1 ≠ i1
  l1i2 : l1 ≠ i2
  l1i3 : l1 ≠ i3
  l2z : l2 ≠ z
  l2TO : l2 ≠ TO
  l2i1 : l2 ≠ i1
  l2i2 : l2 ≠ i2
  l2i3 : l2 ≠ i3
/-- what a zip of a range and two lists has at step k: where it stands -/
structure Z3St (h : Heap) (z TI TO i1 i2 i3 l1 l2 : Addr) (f0 : Value) (b : Bool) (a n : Int) (k : Nat) (xs ys : Array Value) : Prop where
  z : IsZ h z TI TO f0 b
  ti : IsTr h TI (.ref i1) (.ref i2) (.ref i3)
  to : ∃ p q r, IsTr h TO p q r
  r1 : IsRangeIter h i1 (a + (k : Int)) (n - (k : Int)) 1
  r2 : h.IsListIter i2 l1 k
  r3 : h.IsListIter i3 l2 k
  h1 : h.IsList l1 xs
  h2 : h.IsList l2 ys
theorem z3_item0 {z TI TO i1 i2 i3 l1 l2 : Addr} {b : Bool} {a n : Int} {k : Nat} {xs ys : Array Value} {x y : Value} {Q : Value → Shared → Prop} (D : Z3Ap z TI TO i1 i2 i3 l1 l2)
    (st : Z3St s.heap z TI TO i1 i2 i3 l1 l2 .none b a n k xs ys) (hn : (k : Int) < n) (hx : xs[k]? = some x) (hy : ys[k]? = some y)
    (hQ : ∀ h' tk t, Z3St h' z TI TO i1 i2 i3 l1 l2 (rawInt s.heap.objs.size) false a n (k + 1) xs ys → IsTr h' s.heap.objs.size (.int (a + (k : Int)) t) x y → h'.objs.size = s.heap.objs.size + 1 →
      (∀ c o, c ≠ z → c ≠ TO → c ≠ i1 → c ≠ i2 → c ≠ i3 → s.heap.get? c = some o → h'.get? c = some o) → Q (.ref s.heap.objs.size) { s with heap := h', toks := tk }) :
    wpAny (model prog w) A (Builtin.«zip.__next__» ⟨[.ref z], []⟩) (fun fin s' => ∃ v, fin = .done (.ret v) ∧ Q v s') E s := by
  obtain ⟨hz, hTI, ⟨p, q, r, hTO⟩, hr1, hr2, hr3, hl1, hl2⟩ := st
  show wpAny _ _ (field (.ref z) 2 >>= _) _ _ _
  refine wpAny_bind (wpAny_field hz rfl (x := .bool false) rfl ?_)
  show wpAny _ _ (field (.ref z) 3 >>= _) _ _ _
  refine wpAny_bind (wpAny_field hz rfl (x := .ref TI) rfl ?_)
  refine wpAny_bind (wpAny_seqItems hTI rfl ?_)
  show wpAny _ _ (Builtin.SmallTypes.ownedTupleIsFree (.ref z) >>= _) _ _ _
  refine wpAny_bind ?_
  unfold Builtin.SmallTypes.ownedTupleIsFree
  refine wpAny_bind (wpAny_field hz rfl (x := .none) rfl (wpAny_pure ?_))
  simp only [if_true]
  refine wpAny_bind (wpAny_rule ?_)
  refine wpAny_bind (wpAny_field hz rfl (x := .ref TO) rfl ?_)
  refine wpAny_bind (wpAny_setField_rec hz (by simp) fun h₁ hz₁ hs₁ => ?_)
  replace hz₁ : IsZ h₁ z TI TO .ellipsis b := hz₁
  refine wpAny_bind ?_
  simp only [List.zipIdx_cons, List.zipIdx_nil, List.forIn_cons, List.forIn_nil]
  refine wpAny_bind (wpAny_bind (wpAny_onRaise ?_))
  show wpAny _ _ (Builtin.SmallTypes.nextOf (.ref i1) >>= _) _ _ _
  refine wpAny_bind (nextOf_range_item (hs₁.extBut _ _ D.i1z hr1) (by omega) fun h₂ hr1₂ hs₂ => wpAny_pure ?_)
  replace hs₂ : Heap.SameBut i1 h₁ h₂ := hs₂
  have hTO₂ : IsTr h₂ TO p q r := hs₂.extBut _ _ D.TOi1 (hs₁.extBut _ _ D.TOz hTO)
  refine wpAny_bind (wpAny_seqItems hTO₂ rfl ?_)
  refine wpAny_bind (updateSeq_tr hTO₂ fun h₃ hTO₃ hs₃ => ?_)
  replace hs₃ : Heap.SameBut TO h₂ h₃ := hs₃
  replace hTO₃ : IsTr h₃ TO (.int (a + (k : Int)) s.toks) q r := hTO₃
  refine wpAny_bind (wpAny_letGo (wpAny_pure ?_))
  refine wpAny_bind (wpAny_bind (wpAny_onRaise ?_))
  show wpAny _ _ (Builtin.SmallTypes.nextOf (.ref i2) >>= _) _ _ _
  refine wpAny_bind (wpAny_nextOf_list_item (((hr2.extBut hs₁.extBut D.i2z).extBut hs₂.extBut D.i12.symm).extBut hs₃.extBut D.TOi2.symm)
    (((hl1.extBut hs₁.extBut D.l1z).extBut hs₂.extBut D.l1i1).extBut hs₃.extBut D.l1TO) hx fun h₄ hr2₄ hs₄ => wpAny_pure ?_)
  replace hs₄ : Heap.SameBut i2 h₃ h₄ := hs₄
  have hTO₄ : IsTr h₄ TO (.int (a + (k : Int)) s.toks) q r := hs₄.extBut _ _ D.TOi2 hTO₃
  refine wpAny_bind (wpAny_seqItems hTO₄ rfl ?_)
  refine wpAny_bind (updateSeq_tr hTO₄ fun h₅ hTO₅ hs₅ => ?_)
  replace hs₅ : Heap.SameBut TO h₄ h₅ := hs₅
  replace hTO₅ : IsTr h₅ TO (.int (a + (k : Int)) s.toks) x r := hTO₅
  refine wpAny_bind (wpAny_letGo (wpAny_pure ?_))
  refine wpAny_bind (wpAny_bind (wpAny_onRaise ?_))
  show wpAny _ _ (Builtin.SmallTypes.nextOf (.ref i3) >>= _) _ _ _
  refine wpAny_bind (wpAny_nextOf_list_item (((((hr3.extBut hs₁.extBut D.i3z).extBut hs₂.extBut D.i13.symm).extBut hs₃.extBut D.TOi3.symm).extBut hs₄.extBut D.i23.symm).extBut hs₅.extBut D.TOi3.symm)
    (((((hl2.extBut hs₁.extBut D.l2z).extBut hs₂.extBut D.l2i1).extBut hs₃.extBut D.l2TO).extBut hs₄.extBut D.l2i2).extBut hs₅.extBut D.l2TO) hy fun h₆ hr3₆ hs₆ => wpAny_pure ?_)
  replace hs₆ : Heap.SameBut i3 h₅ h₆ := hs₆
  have hTO₆ : IsTr h₆ TO (.int (a + (k : Int)) s.toks) x r := hs₆.extBut _ _ D.TOi3 hTO₅
  refine wpAny_bind (wpAny_seqItems hTO₆ rfl ?_)
  refine wpAny_bind (updateSeq_tr hTO₆ fun h₇ hTO₇ hs₇ => ?_)
  replace hs₇ : Heap.SameBut TO h₆ h₇ := hs₇
  replace hTO₇ : IsTr h₇ TO (.int (a + (k : Int)) s.toks) x y := hTO₇
  refine wpAny_bind (wpAny_letGo (wpAny_pure (wpAny_pure ?_)))
  refine wpAny_bind (wpAny_seqItems hTO₇ rfl ?_)
  refine wpAny_bind (wpAny_newTuple ?_)
  have up₁ : ∀ c o, c ≠ z → c ≠ TO → c ≠ i1 → c ≠ i2 → c ≠ i3 → s.heap.get? c = some o → h₇.get? c = some o := fun c o c1 c2 c3 c4 c5 e =>
    hs₇.extBut _ _ c2 (hs₆.extBut _ _ c5 (hs₅.extBut _ _ c2 (hs₄.extBut _ _ c4 (hs₃.extBut _ _ c2 (hs₂.extBut _ _ c3 (hs₁.extBut _ _ c1 e))))))
  have hsz : h₇.objs.size = s.heap.objs.size := by rw [hs₇.1, hs₆.1, hs₅.1, hs₄.1, hs₃.1, hs₂.1, hs₁.1]
  have hz₇ : IsZ h₇ z TI TO .ellipsis b := hs₇.extBut _ _ D.TOz.symm (hs₆.extBut _ _ D.i3z.symm (hs₅.extBut _ _ D.TOz.symm (hs₄.extBut _ _ D.i2z.symm (hs₃.extBut _ _ D.TOz.symm (hs₂.extBut _ _ D.i1z.symm hz₁)))))
  have hr1₇ : IsRangeIter h₇ i1 (a + (k : Int) + 1) (n - (k : Int) - 1) 1 := hs₇.extBut _ _ D.TOi1.symm (hs₆.extBut _ _ D.i13 (hs₅.extBut _ _ D.TOi1.symm (hs₄.extBut _ _ D.i12 (hs₃.extBut _ _ D.TOi1.symm hr1₂))))
  have hr2₇ : h₇.IsListIter i2 l1 (k + 1) := ((hr2₄.extBut hs₅.extBut D.TOi2.symm).extBut hs₆.extBut D.i23).extBut hs₇.extBut D.TOi2.symm
  have hr3₇ : h₇.IsListIter i3 l2 (k + 1) := hr3₆.extBut hs₇.extBut D.TOi3.symm
  have hzlt : z < h₇.objs.size := Heap.lt_size hz₇
  show wpAny _ _ (Builtin.SmallTypes.ownedTupleHandOut (.ref z) (.ref h₇.objs.size) >>= _) _ _ _
  refine wpAny_bind ?_
  unfold Builtin.SmallTypes.ownedTupleHandOut
  have hz₈ : IsZ (h₇.push { cls := .type "tuple", data := .seq #[.int (a + (k : Int)) s.toks, x, y] }) z TI TO .ellipsis b := Heap.get?_push_of_some _ hz₇
  refine wpAny_bind (wpAny_setField_rec hz₈ (by simp) fun h₈ hz₈ hs₈ => ?_)
  replace hz₈ : IsZ h₈ z TI TO (rawInt h₇.objs.size) b := hz₈
  refine wpAny_setField_rec hz₈ (by simp) fun h₉ hz₉ hs₉ => ?_
  replace hz₉ : IsZ h₉ z TI TO (rawInt h₇.objs.size) false := hz₉
  have up : ∀ c o, c ≠ z → h₇.get? c = some o → h₉.get? c = some o := fun c o c1 e => hs₉.extBut _ _ c1 (hs₈.extBut _ _ c1 (Heap.get?_push_of_some _ e))
  have hT₉ : IsTr h₉ h₇.objs.size (.int (a + (k : Int)) s.toks) x y := hs₉.extBut _ _ (Nat.ne_of_gt hzlt) (hs₈.extBut _ _ (Nat.ne_of_gt hzlt) (Heap.get?_push_size _ rfl))
  have hz9 : h₉.objs.size = h₇.objs.size + 1 := by rw [hs₉.1, hs₈.1, Heap.size_push]
  rw [hsz] at hz₉ hT₉ hz9
  refine wpAny_pure ⟨_, rfl, ?_⟩
  show Q (.ref h₇.objs.size) _
  rw [hsz]
  refine hQ h₉ _ _ ⟨hz₉, up _ _ D.TIz (up₁ _ _ D.TIz D.TITO D.TIi1 D.TIi2 D.TIi3 hTI), ⟨_, _, _, up _ _ D.TOz hTO₇⟩, ?_, hr2₇.at fun o e => up _ o D.i2z e, hr3₇.at fun o e => up _ o D.i3z e, hl1.at fun o e => up _ o D.l1z (up₁ _ o D.l1z D.l1TO D.l1i1 D.l1i2 D.l1i3 e), hl2.at fun o e => up _ o D.l2z (up₁ _ o D.l2z D.l2TO D.l2i1 D.l2i2 D.l2i3 e)⟩ hT₉ hz9 fun c o c1 c2 c3 c4 c5 e => up c o c1 (up₁ c o c1 c2 c3 c4 c5 e)
  have e1 : a + ((k + 1 : Nat) : Int) = a + (k : Int) + 1 := by omega
  have e2 : n - ((k + 1 : Nat) : Int) = n - (k : Int) - 1 := by omega
  rw [e1, e2]
  exact up _ _ D.i1z hr1₇
theorem alive_ok {a : Addr} {o : Obj} {Q : Option Obj → Shared → Prop} (ho : s.heap.get? a = some o) (h : Q (some o) s) : wpAny (model prog w) A (loadIfAlive a) Q E s := by
  have h' : Q (s.heap.get? a) s := by rw [ho]; exact h
  exact fun _ _ _ => h'
theorem free_no {z TI TO a0 : Addr} {o0 : Obj} {b : Bool} {Q : Bool → Shared → Prop} (hz : IsZ s.heap z TI TO (rawInt a0) b) (ha : s.heap.get? a0 = some o0)
    (hQ : ∀ h₁, IsZ h₁ z TI TO (rawInt a0) true → Heap.SameBut z s.heap h₁ → Q false { s with heap := h₁ }) : wpAny (model prog w) A (Builtin.SmallTypes.ownedTupleIsFree (.ref z)) Q E s := by
  unfold Builtin.SmallTypes.ownedTupleIsFree
  refine wpAny_bind (wpAny_field hz rfl (x := rawInt a0) rfl ?_)
  show wpAny _ _ (loadIfAlive ((a0 : Int).toNat) >>= _) _ _ _
  rw [Int.toNat_natCast]
  refine wpAny_bind (alive_ok ha ?_)
  simp only [Option.isNone_some, Bool.false_eq_true, if_false]
  refine wpAny_bind (wpAny_field hz rfl (x := .bool b) rfl ?_)
  cases b with
  | true =>
    rw [if_neg (show ¬ ((Value.bool true != Value.bool true) = true) from Bool.false_ne_true)]
    exact wpAny_pure (hQ s.heap hz (Heap.SameBut.refl _ _))
  | false =>
    rw [if_pos (show (Value.bool false != Value.bool true) = true from rfl)]
    refine wpAny_bind (wpAny_setField_rec hz (by simp) fun h₁ hz₁ hs₁ => ?_)
    exact wpAny_pure (hQ h₁ hz₁ hs₁)
/-- the tuple told last is still held: another one is made -/
theorem z3_item1 {z TI TO i1 i2 i3 l1 l2 a0 : Addr} {o0 : Obj} {b : Bool} {a n : Int} {k : Nat} {xs ys : Array Value} {x y : Value} {Q : Value → Shared → Prop} (D : Z3Ap z TI TO i1 i2 i3 l1 l2)
    (st : Z3St s.heap z TI TO i1 i2 i3 l1 l2 (rawInt a0) b a n k xs ys) (ha : s.heap.get? a0 = some o0) (hn : (k : Int) < n) (hx : xs[k]? = some x) (hy : ys[k]? = some y)
    (hQ : ∀ h' tk t, Z3St h' z TI TO i1 i2 i3 l1 l2 (rawInt a0) true a n (k + 1) xs ys → IsTr h' s.heap.objs.size (.int (a + (k : Int)) t) x y → h'.objs.size = s.heap.objs.size + 1 →
      (∀ c o, c ≠ z → c ≠ TO → c ≠ i1 → c ≠ i2 → c ≠ i3 → s.heap.get? c = some o → h'.get? c = some o) → Q (.ref s.heap.objs.size) { s with heap := h', toks := tk }) :
    wpAny (model prog w) A (Builtin.«zip.__next__» ⟨[.ref z], []⟩) (fun fin s' => ∃ v, fin = .done (.ret v) ∧ Q v s') E s := by
  obtain ⟨hz, hTI, ⟨p, q, r, hTO⟩, hr1, hr2, hr3, hl1, hl2⟩ := st
  show wpAny _ _ (field (.ref z) 2 >>= _) _ _ _
  refine wpAny_bind (wpAny_field hz rfl (x := .bool false) rfl ?_)
  show wpAny _ _ (field (.ref z) 3 >>= _) _ _ _
  refine wpAny_bind (wpAny_field hz rfl (x := .ref TI) rfl ?_)
  refine wpAny_bind (wpAny_seqItems hTI rfl ?_)
  show wpAny _ _ (Builtin.SmallTypes.ownedTupleIsFree (.ref z) >>= _) _ _ _
  refine wpAny_bind (free_no hz ha fun h₁ hz₁ hs₁ => ?_)
  simp only [Bool.false_eq_true, if_false]
  refine wpAny_bind ?_
  simp only [List.forIn_toArray, List.forIn_cons, List.forIn_nil]
  refine wpAny_bind (wpAny_bind (wpAny_holding ?_))
  show wpAny _ _ (Builtin.SmallTypes.nextOf (.ref i1) >>= _) _ _ _
  refine wpAny_bind (nextOf_range_item (hs₁.extBut _ _ D.i1z hr1) (by omega) fun h₂ hr1₂ hs₂ => wpAny_pure ?_)
  replace hs₂ : Heap.SameBut i1 h₁ h₂ := hs₂
  refine wpAny_pure ?_
  refine wpAny_bind (wpAny_bind (wpAny_holding ?_))
  show wpAny _ _ (Builtin.SmallTypes.nextOf (.ref i2) >>= _) _ _ _
  refine wpAny_bind (wpAny_nextOf_list_item ((hr2.extBut hs₁.extBut D.i2z).extBut hs₂.extBut D.i12.symm)
    ((hl1.extBut hs₁.extBut D.l1z).extBut hs₂.extBut D.l1i1) hx fun h₄ hr2₄ hs₄ => wpAny_pure ?_)
  replace hs₄ : Heap.SameBut i2 h₂ h₄ := hs₄
  refine wpAny_pure ?_
  refine wpAny_bind (wpAny_bind (wpAny_holding ?_))
  show wpAny _ _ (Builtin.SmallTypes.nextOf (.ref i3) >>= _) _ _ _
  refine wpAny_bind (wpAny_nextOf_list_item (((hr3.extBut hs₁.extBut D.i3z).extBut hs₂.extBut D.i13.symm).extBut hs₄.extBut D.i23.symm)
    (((hl2.extBut hs₁.extBut D.l2z).extBut hs₂.extBut D.l2i1).extBut hs₄.extBut D.l2i2) hy fun h₆ hr3₆ hs₆ => wpAny_pure ?_)
  replace hs₆ : Heap.SameBut i3 h₄ h₆ := hs₆
  refine wpAny_pure (wpAny_pure ?_)
  refine wpAny_bind (wpAny_newTuple ?_ (by show 3 ≤ sizeLine; decide))
  have up₁ : ∀ c o, c ≠ z → c ≠ i1 → c ≠ i2 → c ≠ i3 → s.heap.get? c = some o → h₆.get? c = some o := fun c o c1 c3 c4 c5 e =>
    hs₆.extBut _ _ c5 (hs₄.extBut _ _ c4 (hs₂.extBut _ _ c3 (hs₁.extBut _ _ c1 e)))
  have hsz : h₆.objs.size = s.heap.objs.size := by rw [hs₆.1, hs₄.1, hs₂.1, hs₁.1]
  have hz₆ : IsZ h₆ z TI TO (rawInt a0) true := hs₆.extBut _ _ D.i3z.symm (hs₄.extBut _ _ D.i2z.symm (hs₂.extBut _ _ D.i1z.symm hz₁))
  have hr1₆ : IsRangeIter h₆ i1 (a + (k : Int) + 1) (n - (k : Int) - 1) 1 := hs₆.extBut _ _ D.i13 (hs₄.extBut _ _ D.i12 hr1₂)
  have hr2₆ : h₆.IsListIter i2 l1 (k + 1) := hr2₄.extBut hs₆.extBut D.i23
  have up : ∀ c o, h₆.get? c = some o → (h₆.push { cls := .type "tuple", data := .seq #[.int (a + (k : Int)) s.toks, x, y] }).get? c = some o := fun c o e => Heap.get?_push_of_some _ e
  refine wpAny_pure ⟨_, rfl, ?_⟩
  show Q (.ref h₆.objs.size) _
  have hT : IsTr (h₆.push { cls := .type "tuple", data := .seq #[.int (a + (k : Int)) s.toks, x, y] }) h₆.objs.size (.int (a + (k : Int)) s.toks) x y := Heap.get?_push_size _ rfl
  rw [hsz] at hT
  rw [hsz]
  refine hQ _ _ s.toks ⟨up _ _ hz₆, up _ _ (up₁ _ _ D.TIz D.TIi1 D.TIi2 D.TIi3 hTI), ⟨_, _, _, up _ _ (up₁ _ _ D.TOz D.TOi1 D.TOi2 D.TOi3 hTO)⟩, ?_, hr2₆.at fun o e => up _ o e, hr3₆.at fun o e => up _ o e, hl1.at fun o e => up _ o (up₁ _ o D.l1z D.l1i1 D.l1i2 D.l1i3 e), hl2.at fun o e => up _ o (up₁ _ o D.l2z D.l2i1 D.l2i2 D.l2i3 e)⟩ hT (by rw [Heap.size_push, hsz]) fun c o c1 c2 c3 c4 c5 e => up c o (up₁ c o c1 c3 c4 c5 e)
  have e1 : a + ((k + 1 : Nat) : Int) = a + (k : Int) + 1 := by omega
  have e2 : n - ((k + 1 : Nat) : Int) = n - (k : Int) - 1 := by omega
  rw [e1, e2]
  exact up _ _ hr1₆
/-- the range has ended, a tuple is still held -/
theorem z3_end {z TI TO i1 i2 i3 l1 l2 a0 : Addr} {o0 : Obj} {b : Bool} {a n : Int} {k : Nat} {xs ys : Array Value} {Q : Fin → Shared → Prop} (hh : A.handled = none) (D : Z3Ap z TI TO i1 i2 i3 l1 l2)
    (st : Z3St s.heap z TI TO i1 i2 i3 l1 l2 (rawInt a0) b a n k xs ys) (ha : s.heap.get? a0 = some o0) (hn : n ≤ (k : Int))
    (hE : ∀ h' e, (∀ c o, c ≠ z → c ≠ i1 → s.heap.get? c = some o → h'.get? c = some o) → (∃ o, h'.get? e = some o ∧ o.cls = .type "StopIteration") → E (.ref e) { s with heap := h' }) :
    wpAny (model prog w) A (Builtin.«zip.__next__» ⟨[.ref z], []⟩) Q E s := by
  obtain ⟨hz, hTI, ⟨p, q, r, hTO⟩, hr1, hr2, hr3, hl1, hl2⟩ := st
  show wpAny _ _ (field (.ref z) 2 >>= _) _ _ _
  refine wpAny_bind (wpAny_field hz rfl (x := .bool false) rfl ?_)
  show wpAny _ _ (field (.ref z) 3 >>= _) _ _ _
  refine wpAny_bind (wpAny_field hz rfl (x := .ref TI) rfl ?_)
  refine wpAny_bind (wpAny_seqItems hTI rfl ?_)
  show wpAny _ _ (Builtin.SmallTypes.ownedTupleIsFree (.ref z) >>= _) _ _ _
  refine wpAny_bind (free_no hz ha fun h₁ hz₁ hs₁ => ?_)
  simp only [Bool.false_eq_true, if_false]
  refine wpAny_bind ?_
  simp only [List.forIn_toArray, List.forIn_cons, List.forIn_nil]
  refine wpAny_bind (wpAny_bind (wpAny_holding ?_))
  show wpAny _ _ (Builtin.SmallTypes.nextOf (.ref i1) >>= _) _ _ _
  exact wpAny_bind (nextOf_range_end hh (hs₁.extBut _ _ D.i1z hr1) (by omega) fun h₂ e he hs => hE h₂ e (fun c o c1 c2 x => he _ _ c2 (hs₁.extBut _ _ c1 x)) hs)
end
end
/-! ### list(zip(range(i, j), xs, ys)) -/
section
open PySem PySem.Spec PyProof.Rows
theorem Z3St.keep {h h' : Heap} {z TI TO i1 i2 i3 l1 l2 : Addr} {f0 : Value} {b : Bool} {a n : Int} {k : Nat} {xs ys : Array Value} (st : Z3St h z TI TO i1 i2 i3 l1 l2 f0 b a n k xs ys)
    (hk : ∀ c ∈ [z, TI, TO, i1, i2, i3, l1, l2], ∀ o, h.get? c = some o → h'.get? c = some o) : Z3St h' z TI TO i1 i2 i3 l1 l2 f0 b a n k xs ys := by
  obtain ⟨hz, hTI, ⟨p, q, r, hTO⟩, hr1, hr2, hr3, hl1, hl2⟩ := st
  exact ⟨hk _ (by simp) _ hz, hk _ (by simp) _ hTI, ⟨p, q, r, hk _ (by simp) _ hTO⟩, hk _ (by simp) _ hr1, hr2.at fun o e => hk _ (by simp) o e, hr3.at fun o e => hk _ (by simp) o e, hl1.at fun o e => hk _ (by simp) o e, hl2.at fun o e => hk _ (by simp) o e⟩
theorem Z3St.lt {h : Heap} {z TI TO i1 i2 i3 l1 l2 : Addr} {f0 : Value} {b : Bool} {a n : Int} {k : Nat} {xs ys : Array Value} (st : Z3St h z TI TO i1 i2 i3 l1 l2 f0 b a n k xs ys) : ∀ c ∈ [z, TI, TO, i1, i2, i3], c < h.objs.size := by
  obtain ⟨hz, hTI, ⟨p, q, r, hTO⟩, hr1, hr2, hr3, hl1, hl2⟩ := st
  obtain ⟨_, e2, _⟩ := hr2
  obtain ⟨_, e3, _⟩ := hr3
  intro c hc
  have e' : c = z ∨ c = TI ∨ c = TO ∨ c = i1 ∨ c = i2 ∨ c = i3 := by simpa using hc
  rcases e' with q | q | q | q | q | q
  · rw [q]; exact Heap.lt_size hz
  · rw [q]; exact Heap.lt_size hTI
  · rw [q]; exact Heap.lt_size hTO
  · rw [q]; exact Heap.lt_size hr1
  · rw [q]; exact Heap.lt_size e2
  · rw [q]; exact Heap.lt_size e3
variable {X : Cx} {pins : List (Addr × Obj)} {σ : L2.St}
/-- what a list of such a zip has told so far -/
structure Z3I (X : Cx) (pins : List (Addr × Obj)) (σ : L2.St) (H0 H : Hp) (s : Shared) (S z TI TO i1 i2 i3 l1 l2 : Addr) (a n : Int) (k : Nat) (xs ys : List V) (as : List Addr) : Prop where
  inv : Inv X pins σ H s
  fp : ∀ c ∈ [z, TI, TO, i1, i2, i3], FpOk X pins H c
  st : ∃ f0 b its1 its2, Z3St s.heap z TI TO i1 i2 i3 l1 l2 f0 b a n k (List.toArray its1) (List.toArray its2) ∧ Vals xs its1 ∧ Vals ys its2 ∧ ((k = 0 ∧ f0 = .none) ∨ ∃ a0 o0, f0 = rawInt ((a0 : Nat) : Int) ∧ s.heap.get? a0 = some o0 ∧ a0 ≠ z ∧ a0 ≠ TO ∧ a0 ≠ i1 ∧ a0 ≠ i2 ∧ a0 ≠ i3 ∧ a0 ≠ S)
  hS : H S = some (.lst (as.map V.ref))
  al : as.length = k
  tu : ∀ (j : Nat) (c : Addr), as[j]? = some c → H0 c = none ∧ c ≠ S ∧ ∃ x y, xs[j]? = some x ∧ ys[j]? = some y ∧ H c = some (.tup [.int (a + (j : Int)), x, y])
  kp : ∀ c o, H0 c = some o → H c = some o
  nS : H0 S = none
/-- what comes of it -/
def Z3Out (H0 H : Hp) (S : Addr) (a : Int) (xs ys : List V) : Prop := ∃ as : List Addr, as.length = xs.length ∧ H0 S = none ∧ H S = some (.lst (as.map V.ref)) ∧
  (∀ (j : Nat) (c : Addr), as[j]? = some c → H0 c = none ∧ ∃ x y, xs[j]? = some x ∧ ys[j]? = some y ∧ H c = some (.tup [.int (a + (j : Int)), x, y])) ∧ ∀ c o, H0 c = some o → H c = some o
theorem pyNext_z3_item {prog : Program} {w : World} {A : Around} {E : Value → Shared → Prop} {s : Shared} {S z TI TO i1 i2 i3 l1 l2 : Addr} {f0 : Value} {b : Bool} {a n : Int} {k : Nat} {xs ys : Array Value} {x y : Value} {Q : Option Value → Shared → Prop} (D : Z3Ap z TI TO i1 i2 i3 l1 l2)
    (st : Z3St s.heap z TI TO i1 i2 i3 l1 l2 f0 b a n k xs ys) (hf : f0 = .none ∨ ∃ a0 o0, f0 = rawInt ((a0 : Nat) : Int) ∧ s.heap.get? a0 = some o0 ∧ a0 ≠ z ∧ a0 ≠ TO ∧ a0 ≠ i1 ∧ a0 ≠ i2 ∧ a0 ≠ i3 ∧ a0 ≠ S) (hS : S < s.heap.objs.size) (hn : (k : Int) < n) (hx : xs[k]? = some x) (hy : ys[k]? = some y)
    (hQ : ∀ h' tk t f0 b, Z3St h' z TI TO i1 i2 i3 l1 l2 f0 b a n (k + 1) xs ys → (∃ a0 o0, f0 = rawInt ((a0 : Nat) : Int) ∧ h'.get? a0 = some o0 ∧ a0 ≠ z ∧ a0 ≠ TO ∧ a0 ≠ i1 ∧ a0 ≠ i2 ∧ a0 ≠ i3 ∧ a0 ≠ S) → IsTr h' s.heap.objs.size (.int (a + (k : Int)) t) x y → h'.objs.size = s.heap.objs.size + 1 →
      (∀ c o, c ≠ z → c ≠ TO → c ≠ i1 → c ≠ i2 → c ≠ i3 → s.heap.get? c = some o → h'.get? c = some o) → Q (some (.ref s.heap.objs.size)) { s with heap := h', toks := tk }) :
    wpAny (model prog w) A (pyNext (.ref z)) Q E s := by
  have hT : s.TypeIs (.ref z) "zip" := ⟨_, st.z, rfl⟩
  have lt : ∀ {c o}, s.heap.get? c = some o → s.heap.objs.size ≠ c := fun e => Nat.ne_of_gt (Heap.lt_size e)
  unfold pyNext
  refine wpAny_bind (wpAny_attempt (wpAny_callSpecial?_slot (name := Str.ofString "__next__") hT F.slot_zip_next (wpAny_call_entry F.slot_zip_next hT F.entry_zip_next ?_ (F.args_zip_next_1 _))))
  rcases hf with rfl | ⟨a0, o0, rfl, ha, n1, n2, n3, n4, n5, n6⟩
  · exact z3_item0 D st hn hx hy fun h' tk t st' hT' hz hk => wpAny_pure (hQ h' tk t _ _ st' ⟨s.heap.objs.size, _, rfl, hT', lt st.z, (by obtain ⟨_, _, _, e⟩ := st.to; exact lt e), lt st.r1, (by obtain ⟨_, e, _⟩ := st.r2; exact lt e), (by obtain ⟨_, e, _⟩ := st.r3; exact lt e), Nat.ne_of_gt hS⟩ hT' hz hk)
  · exact z3_item1 D st ha hn hx hy fun h' tk t st' hT' hz hk => wpAny_pure (hQ h' tk t _ _ st' ⟨a0, o0, rfl, hk _ _ n1 n2 n3 n4 n5 ha, n1, n2, n3, n4, n5, n6⟩ hT' hz hk)
theorem z3_loop (hh : X.A.handled = none) {A : Around} (hA : A.handled = none) {H0 : Hp} {S z TI TO i1 i2 i3 l1 l2 : Addr} {a n : Int} {xs ys : List V} {R : Result → Shared → Prop} (D : Z3Ap z TI TO i1 i2 i3 l1 l2) (hSn : S ∉ [z, TI, TO, i1, i2, i3, l1, l2])
    (hx : (xs.length : Int) = n) (hy : ys.length = xs.length) (hz : xs.length ≤ sizeLine) (h0 : 0 < xs.length)
    (hR : ∀ (H : Hp) (s : Shared) (as : List Addr), Inv X pins σ H s → as.length = xs.length → H S = some (.lst (as.map V.ref)) → (∀ (j : Nat) (c : Addr), as[j]? = some c → H0 c = none ∧ ∃ x y, xs[j]? = some x ∧ ys[j]? = some y ∧ H c = some (.tup [.int (a + (j : Int)), x, y])) → (∀ c o, H0 c = some o → H c = some o) → R (.ok (.ret .none)) s) :
    ∀ (m k : Nat) (H : Hp) (s : Shared) (as : List Addr), xs.length - k = m → k ≤ xs.length → Z3I X pins σ H0 H s S z TI TO i1 i2 i3 l1 l2 a n k xs ys as →
      codeAny (model X.prog X.w) A (.builtin "list.extend.loop" ⟨[.ref S, .ref z, .none], []⟩) R s := by
  intro m
  induction m with
  | zero =>
    intro k H s as hm hk Z
    obtain ⟨I, fp, ⟨f0, b, its1, its2, st, v1, v2, hf⟩, hS, al, tu, kp, nS⟩ := Z
    have hke : k = xs.length := by omega
    subst hke
    rcases hf with ⟨e, _⟩ | ⟨a0, o0, rfl, ha, n1, n2, n3, n4, n5, n6⟩
    · omega
    refine codeAny_builtin PySem.F.entry_extend_loop ?_
    rw [Around.under_plainId PySem.F.plain_extend_loop _]
    show wpAny _ A.in1 (pyNext (.ref z) >>= _) _ _ _
    have hT : s.TypeIs (.ref z) "zip" := ⟨_, st.z, rfl⟩
    refine wpAny_bind ?_
    unfold pyNext
    refine wpAny_bind (wpAny_attempt (wpAny_callSpecial?_slot (name := Str.ofString "__next__") hT F.slot_zip_next
      (wpAny_call_entry F.slot_zip_next hT F.entry_zip_next (z3_end hA D st ha (by omega) fun h' e hk he => ?_) (F.args_zip_next_1 _))))
    obtain ⟨o, ho, hc⟩ := he
    refine wpAny_bind (wpAny_isInstance (T := "StopIteration") (b := true) ⟨o, ho, hc⟩ isSubtype_stop ?_)
    refine wpAny_pure (wpAny_pure ?_)
    have I1 : Inv X pins σ H { s with heap := h' } := I.turnedL (t' := s.toks) (ch := [z, i1]) (fun c o hb e => hk c o (fun q => hb (by simp [q])) (fun q => hb (by simp [q])) e) (fun c hc => fp c (by simp at hc; rcases hc with q | q <;> simp [q]))
    exact hR H _ as I1 al hS (fun j c e => ⟨(tu j c e).1, (tu j c e).2.2⟩) kp
  | succ m ih =>
    intro k H s as hm hk Z
    have em1 : xs.length - (k + 1) = m := by omega
    have em2 : k + 1 ≤ xs.length := by omega
    obtain ⟨I, fp, ⟨f0, b, its1, its2, st, v1, v2, hf⟩, hS, al, tu, kp, nS⟩ := Z
    have hlt : k < xs.length := by omega
    have hlt2 : k < ys.length := by omega
    have ex : xs[k]? = some xs[k] := List.getElem?_eq_getElem hlt
    have ey : ys[k]? = some ys[k] := List.getElem?_eq_getElem hlt2
    obtain ⟨u1, hu1, ru1⟩ := v1.get ex
    obtain ⟨u2, hu2, ru2⟩ := v2.get ey
    have Slt : S < s.heap.objs.size := I.hok.lt hS
    refine codeAny_builtin PySem.F.entry_extend_loop ?_
    rw [Around.under_plainId PySem.F.plain_extend_loop _]
    show wpAny _ A.in1 (pyNext (.ref z) >>= _) _ _ _
    refine wpAny_bind (pyNext_z3_item (S := S) D st (hf.imp (fun q => q.2) fun q => q) Slt (by omega) (by simpa using hu1) (by simpa using hu2) fun h' tk t f0' b' st' hf' hT hsz hkp => ?_)
    have I1 : Inv X pins σ (upd H s.heap.objs.size (.tup [.int (a + (k : Int)), xs[k], ys[k]])) { s with heap := h', toks := tk } :=
      I.turnedNew (t' := tk) (ch := [z, TO, i1, i2, i3]) (fun c o hb e => hkp c o (fun q => hb (by simp [q])) (fun q => hb (by simp [q])) (fun q => hb (by simp [q])) (fun q => hb (by simp [q])) (fun q => hb (by simp [q])) e)
        (fun c hc => fp c (by simp at hc; rcases hc with q | q | q | q | q <;> simp [q])) (Nat.le_refl _) ⟨by show 3 ≤ sizeLine; decide, [.int (a + (k : Int)) t, u1, u2], .cons ⟨_, rfl⟩ (.cons ru1 (.cons ru2 .nil)), ⟨_, hT, rfl, _, rfl⟩⟩
    have hS1 : upd H s.heap.objs.size (.tup [.int (a + (k : Int)), xs[k], ys[k]]) S = some (.lst (as.map V.ref)) := (upd_ne (Nat.ne_of_lt Slt)).trans hS
    obtain ⟨_, its, c, r, hrl, e⟩ := I1.lstM hS1
    rw [List.length_map, al] at hrl
    show wpAny _ A.in1 (Builtin.List.listUpdate (.ref S) (·.push (.ref s.heap.objs.size)) >>= _) _ _ _
    refine wpAny_bind ?_
    show wpAny _ A.in1 (updateSeq S (·.push (.ref s.heap.objs.size))) _ _ _
    refine wpAny_updateSeq e rfl ?_ (by simp only [Array.size_push, List.size_toArray]; omega)
    have I2 := I1.lset (t' := tk) (f := (·.push (.ref s.heap.objs.size))) (its' := its ++ [.ref s.heap.objs.size]) (ys := (as ++ [s.heap.objs.size]).map V.ref) hS1 e (by simp) (by rw [List.map_append]; exact r.append (.cons rfl .nil)) (by rw [List.length_map, List.length_append, List.length_singleton, al]; exact Nat.le_trans em2 hz)
    refine wpAny_pure ⟨plainId_quiet F.plain_extend_loop _, ih (k + 1) _ _ (as ++ [s.heap.objs.size]) em1 em2 ⟨I2, fun c hc => ?_, ⟨f0', b', its1, its2, ?_, v1, v2, .inr ?_⟩, upd_same, by rw [List.length_append, List.length_singleton, al], fun j c hj => ?_, fun c o hc => ?_, nS⟩⟩
    · have c1 : c ≠ s.heap.objs.size := Nat.ne_of_lt (st.lt c hc)
      have c2 : c ≠ S := fun q => hSn (q ▸ (by simp at hc ⊢; rcases hc with q | q | q | q | q | q <;> simp [q]))
      exact ⟨(upd_ne c2).trans ((upd_ne c1).trans (fp c hc).1), (fp c hc).2⟩
    · refine st'.keep fun c hc o e => (Heap.get?_update_other _ _ (fun q => hSn ?_)).trans e
      rw [q]; exact hc
    · obtain ⟨a0, o0, e1, e2, n1, n2, n3, n4, n5, n6⟩ := hf'
      exact ⟨a0, o0, e1, (Heap.get?_update_other _ _ (Ne.symm n6)).trans e2, n1, n2, n3, n4, n5, n6⟩
    · by_cases hjl : j < as.length
      · rw [List.getElem?_append_left hjl] at hj
        obtain ⟨q1, q2, x, y, q3, q4, q5⟩ := tu j c hj
        have c1 : c ≠ s.heap.objs.size := fun q => by rw [q, I.fresh] at q5; cases q5
        exact ⟨q1, q2, x, y, q3, q4, (upd_ne q2).trans ((upd_ne c1).trans q5)⟩
      · rw [List.getElem?_append_right (by omega)] at hj
        have hj0 : j - as.length = 0 := by
          by_cases q : j - as.length = 0
          · exact q
          · rw [List.getElem?_eq_none (by rw [List.length_singleton]; omega)] at hj; cases hj
        rw [hj0] at hj
        have ec : s.heap.objs.size = c := by simpa using hj
        subst ec
        have ejk : j = k := by omega
        subst ejk
        refine ⟨?_, Nat.ne_of_gt Slt, _, _, ex, ey, (upd_ne (Nat.ne_of_gt Slt)).trans upd_same⟩
        cases q : H0 s.heap.objs.size with
        | none => rfl
        | some o => have := kp _ _ q; rw [I.fresh] at this; cases this
    · have q := kp c o hc
      have c1 : c ≠ s.heap.objs.size := fun z => by rw [z, I.fresh] at q; cases q
      have c2 : c ≠ S := fun z => by rw [z, nS] at hc; cases hc
      exact (upd_ne c2).trans ((upd_ne c1).trans q)
theorem nolen_zip : typeLookup (.type "zip") "__len__" = pure none := by rw [typeLookup_type, builtinLookup_eq_fast]; kernel_rfl
theorem nohint_zip : typeLookup (.type "zip") "__length_hint__" = pure none := by rw [typeLookup_type, builtinLookup_eq_fast]; kernel_rfl
theorem pyIter_z {prog : Program} {w : World} {A : Around} {E : Value → Shared → Prop} {s : Shared} {z TI TO : Addr} {f0 : Value} {b : Bool} {Q : Value → Shared → Prop} (hz : IsZ s.heap z TI TO f0 b) (h : Q (.ref z) s) : wpAny (model prog w) A (pyIter (.ref z)) Q E s := by
  have hT : s.TypeIs (.ref z) "zip" := ⟨_, hz, rfl⟩
  refine wpAny_pyIter_slot hT F.slot_zip_iter (wpAny_call_entry F.slot_zip_iter hT F.entry_zip_iter ?_ (F.args_zip_iter_1 _))
  show wpAny _ _ (ret (.ref z)) _ _ s
  exact wpAny_pure ⟨_, rfl, "zip", _, hT, F.slot_zip_next.lookup, h⟩
theorem z3_list (hh : X.A.handled = none) {A : Around} (hA : A.handled = none) {E : Value → Shared → Prop} {H : Hp} {s : Shared} {z TI TO i1 i2 i3 l1 l2 : Addr} {a n : Int} {xs ys : List V} {its1 its2 : List Value} {Q : Value → Shared → Prop} (I : Inv X pins σ H s) (D : Z3Ap z TI TO i1 i2 i3 l1 l2)
    (fp : ∀ c ∈ [z, TI, TO, i1, i2, i3], FpOk X pins H c) (st : Z3St s.heap z TI TO i1 i2 i3 l1 l2 .none false a n 0 its1.toArray its2.toArray) (v1 : Vals xs its1) (v2 : Vals ys its2) (lt1 : l1 < s.heap.objs.size) (lt2 : l2 < s.heap.objs.size)
    (hx : (xs.length : Int) = n) (hy : ys.length = xs.length) (hz : xs.length ≤ sizeLine) (h0 : 0 < xs.length) (hQ : ∀ S H' s', Inv X pins σ H' s' → Z3Out H H' S a xs ys → Q (.ref S) s') :
    wpAny (model X.prog X.w) A (call (.type "list") [.ref z]) Q E s := by
  have hSn : s.heap.objs.size ∉ [z, TI, TO, i1, i2, i3, l1, l2] := fun hm => by
    have e' : s.heap.objs.size ∈ [z, TI, TO, i1, i2, i3] ∨ s.heap.objs.size = l1 ∨ s.heap.objs.size = l2 := by
      simp at hm ⊢
      rcases hm with q | q | q | q | q | q | q | q <;> simp [q]
    rcases e' with q | q | q
    · exact Nat.lt_irrefl _ (st.lt _ q)
    · rw [← q] at lt1; exact Nat.lt_irrefl _ lt1
    · rw [← q] at lt2; exact Nat.lt_irrefl _ lt2
  have nS : H s.heap.objs.size = none := I.fresh
  refine callType_codes (Q₁ := fun obj s₁ => obj = .ref s.heap.objs.size ∧ s₁ = { s with heap := s.heap.push { cls := .type "list", data := .seq #[] } }) F.called_list (F.typeCall_list_1 _) F.entry_list_init
    (code_list_new _ ⟨rfl, rfl⟩) fun obj s₁ h₁ => ?_
  obtain ⟨rfl, rfl⟩ := h₁
  have hS : (s.heap.push { cls := .type "list", data := .seq #[] }).get? s.heap.objs.size = some { cls := .type "list", data := .seq #[] } := Heap.get?_push_size _ rfl
  have I1 : Inv X pins σ (upd H s.heap.objs.size (.lst [])) { s with heap := s.heap.push { cls := .type "list", data := .seq #[] } } := I.lnew (t' := s.toks) (its := []) (ys := []) .nil (Nat.zero_le _)
  refine ⟨⟨_, hS, rfl⟩, F.args_list_init_2 _ _, ?_⟩
  show wpAny _ _ (do let old ← Builtin.List.listItems (.ref s.heap.objs.size); Builtin.List.listUpdate (.ref s.heap.objs.size) (fun _ => #[]); letGo old.toList.reverse; Builtin.List.listExtendWith (.ref s.heap.objs.size) (.ref z) .none) _ _ _
  refine wpAny_bind ?_
  unfold Builtin.List.listItems
  refine wpAny_bind (wpAny_seqItems hS rfl (wpAny_pure ?_))
  show wpAny _ _ (updateSeq s.heap.objs.size (fun _ => #[]) >>= fun _ => letGo (#[] : Array Value).toList.reverse >>= fun _ => Builtin.List.listExtendWith (.ref s.heap.objs.size) (.ref z) .none) _ _ _
  refine wpAny_bind (wpAny_updateSeq hS rfl ?_)
  have I2 := I1.lset (t' := s.toks) (its := []) (f := fun _ => (#[] : Array Value)) (its' := []) (ys := []) upd_same hS rfl .nil (Nat.zero_le _)
  rw [upd_upd] at I2
  have hS₂ := Heap.get?_update_self (Obj.mapSeq (fun _ => (#[] : Array Value))) hS rfl
  refine wpAny_bind (wpAny_letGo ?_)
  have k2 : ∀ b o, b ≠ s.heap.objs.size → s.heap.get? b = some o → ((s.heap.push { cls := .type "list", data := .seq #[] }).update s.heap.objs.size (Obj.mapSeq (fun _ => (#[] : Array Value)))).get? b = some o :=
    fun b o hb e => (Heap.get?_update_other _ _ (Ne.symm hb)).trans (Heap.get?_push_of_some _ e)
  generalize hh2 : (s.heap.push { cls := .type "list", data := .seq #[] }).update s.heap.objs.size (Obj.mapSeq (fun _ => (#[] : Array Value))) = h₂ at I2 hS₂ k2 ⊢
  have st2 := st.keep (h' := h₂) fun c hc o e => k2 c o (fun q => hSn (q ▸ hc)) e
  have hT : Shared.TypeIs { s with heap := h₂ } (.ref z) "zip" := ⟨_, st2.z, rfl⟩
  unfold Builtin.List.listExtendWith
  refine wpAny_bind (wpAny_typeOf hT ?_)
  have hzS : s.heap.objs.size ≠ z := fun q => hSn (by rw [q]; simp)
  have h1 : Builtin.List.listSameRef (.ref s.heap.objs.size) (.ref z) = false := by simp [Builtin.List.listSameRef, hzS]
  have h2 : (Value.type "zip" == Value.type "list") = false := by decide
  have h3 : (Value.type "zip" == Value.type "tuple") = false := by decide
  simp only [h1, h2, h3, Bool.or_false, Bool.false_eq_true, if_false]
  refine wpAny_bind (pyIter_z (s := { s with heap := h₂ }) st2.z ?_)
  refine wpAny_bind (wpAny_holding ?_)
  unfold Builtin.List.listLengthHint
  refine wpAny_bind (wpAny_specialOf hT nolen_zip ?_)
  show wpAny _ _ (specialOf (Value.ref z) (Str.ofString "__length_hint__") >>= _) _ _ _
  refine wpAny_bind (wpAny_specialOf hT nohint_zip ?_)
  refine wpAny_pure ?_
  show wpAny _ _ (rule "list.extend.makes-room" >>= fun _ => Builtin.List.listTouch (.ref s.heap.objs.size) >>= fun _ =>
    again (.builtin "list.extend.loop" ⟨[.ref s.heap.objs.size, .ref z, .none], []⟩)) _ _ _
  refine wpAny_bind (wpAny_rule ?_)
  refine wpAny_bind ?_
  show wpAny _ _ (updateSeq s.heap.objs.size (·.push .none) >>= fun _ => updateSeq s.heap.objs.size (·.pop)) _ _ _
  refine wpAny_bind (wpAny_updateSeq hS₂ rfl ?_)
  have I3 := I2.lset (t' := s.toks) (its := []) (f := (·.push Value.none)) (its' := [.none]) (ys := [.non]) upd_same hS₂ rfl (.cons rfl .nil) (by show 1 ≤ sizeLine; decide)
  rw [upd_upd] at I3
  have hS₃ := Heap.get?_update_self (Obj.mapSeq (·.push Value.none)) hS₂ rfl
  refine wpAny_updateSeq (hz := by seq_fits) hS₃ rfl ?_
  have I4 := I3.lset (t' := s.toks) (its := [.none]) (f := (·.pop)) (its' := []) (ys := []) upd_same hS₃ rfl .nil (Nat.zero_le _)
  rw [upd_upd] at I4
  have k4 : ∀ b o, b ≠ s.heap.objs.size → h₂.get? b = some o → ((h₂.update s.heap.objs.size (Obj.mapSeq (·.push Value.none))).update s.heap.objs.size (Obj.mapSeq (·.pop))).get? b = some o :=
    fun b o hb e => (Heap.get?_update_other _ _ (Ne.symm hb)).trans ((Heap.get?_update_other _ _ (Ne.symm hb)).trans e)
  refine wpAny_pure ⟨plainId_quiet F.plain_extend_loop _, z3_loop hh (A := _) (by exact hA) (H0 := H) (S := s.heap.objs.size) D hSn hx hy hz h0 (fun H' s' as J al e1 tu kp => ⟨rfl, hQ _ H' s' J ⟨as, al, nS, e1, tu, kp⟩⟩) xs.length 0 _ _ [] (Nat.sub_zero _) (Nat.zero_le _) ⟨I4, fun c hc => ?_, ⟨.none, false, its1, its2, st2.keep fun c hc o e => k4 c o (fun q => hSn (q ▸ hc)) e, v1, v2, .inl ⟨rfl, rfl⟩⟩, upd_same, rfl, fun j c hj => by simp at hj, fun c o hc => ?_, nS⟩⟩
  · have c2 : c ≠ s.heap.objs.size := Nat.ne_of_lt (st.lt c hc)
    exact ⟨(upd_ne c2).trans (fp c hc).1, (fp c hc).2⟩
  · have c2 : c ≠ s.heap.objs.size := fun z => by rw [z, nS] at hc; cases hc
    exact (upd_ne c2).trans hc
theorem z3_ap (N p1 p2 : Nat) (h1 : p1 < N) (h2 : p2 < N) : Z3Ap (N + 5) (N + 3) (N + 4) N (N + 1) (N + 2) p1 p2 := by
  constructor <;> (intro h; have h' : @Eq Nat _ _ := h; clear h; omega)
/-- list(zip(range(i, j), xs, ys)) of lists of one length -/
def tLZ (K : PySem.W.Frag) (ta : TA) (tx ty : TE) : TE := fun σ H Q => ta σ H fun vs H1 => ∃ (i j : Int), vs = [.int i, .int j] ∧ (-(2 ^ 62) ≤ i ∧ i < 2 ^ 62 ∧ -(2 ^ 62) ≤ j ∧ j < 2 ^ 62) ∧ tx σ H1 fun x H2 => ty σ H2 fun y H3 => ∃ (p q : Addr) (xs ys : List V),
  x = .ref p ∧ y = .ref q ∧ SqL K H3 p xs ∧ SqL K H3 q ys ∧ (xs.length : Int) = j - i ∧ ys.length = xs.length ∧ 0 < xs.length ∧ ∀ S H', Z3Out H3 H' S i xs ys → Q (.ref S) H'
theorem pe_lz {a b x y : Expr} {ta : TA} {tx ty : TE} {p p2 p3 pos pos2 pos3 : Pos} (hc : X.calm = true) (hg : Gl X "list") (hm : X.mg "list" = none) (hg2 : Gl X "zip") (hm2 : X.mg "zip" = none) (hg3 : Gl X "range") (hm3 : X.mg "range" = none)
    (ha : PA X [a, b] ta) (hx : PE X x tx) (hy : PE X y ty)
    (s1 : starEach [a, b] X.env = (false, eval a X.env) :: starEach [b] X.env := by rfl) (s1p : (backTo pos3 (starEach [b] X.env)).any (·.1) = false := by rfl)
    (s2 : starEach [.Call (.Name "range" p3) [a, b] [] pos3, x, y] X.env = (false, eval (.Call (.Name "range" p3) [a, b] [] pos3) X.env) :: starEach [x, y] X.env := by rfl) (s2p : (backTo pos2 (starEach [x, y] X.env)).any (·.1) = false := by rfl)
    (s3 : starEach [x, y] X.env = (false, eval x X.env) :: starEach [y] X.env := by rfl) (s4 : starEach [y] X.env = (false, eval y X.env) :: starEach [] X.env := by rfl)
    (s5 : starEach [.Call (.Name "zip" p2) [.Call (.Name "range" p3) [a, b] [] pos3, x, y] [] pos2] X.env = (false, eval (.Call (.Name "zip" p2) [.Call (.Name "range" p3) [a, b] [] pos3, x, y] [] pos2) X.env) :: starEach [] X.env := by rfl) :
    PE X (.Call (.Name "list" p) [.Call (.Name "zip" p2) [.Call (.Name "range" p3) [a, b] [] pos3, x, y] [] pos2] [] pos) (tLZ X.K ta tx ty) := by
  refine ⟨fun pins s σ H Q I h => ?_⟩
  have hh : X.A.handled = none := I.ok.hd hc
  refine Call_ (ld_blt I hg hm PyProof.Rows.boot_list (PyProof.Rows.callWith_type1 (args_cons (Call_ (ld_blt I hg2 hm2 PyProof.Rows.boot_zip (PyProof.Rows.callWith_type1 (args_cons (Call_ (ld_blt I hg3 hm3 boot_range (PyProof.Rows.callWith_type1 (thn (ha.run pos3 pins s σ H _ I h) fun us s1 ⟨vs, H1, I1, r1, q1⟩ => ?_) s1 s1p))) s2) s2 s2p))) s5) s5 rfl))
  obtain ⟨i, j, e, ⟨b1, b2, b3, b4⟩, q1⟩ := q1
  subst e
  obtain ⟨t, t', rfl⟩ : ∃ t t', us = [.int i t, .int j t'] := by
    cases r1 with
    | cons r rr =>
      cases rr with
      | cons r' rr =>
        cases rr
        obtain ⟨t, rfl⟩ := r
        obtain ⟨t', rfl⟩ := r'
        exact ⟨t, t', rfl⟩
  refine call_range_2 ?_
  have hfp : FpOk X pins H1 s1.heap.objs.size := I1.fpOk (Nat.le_refl _) I1.fresh
  have hR : IsRange (s1.heap.push { cls := .type "range", data := .fields #[.int i t, .int j t', .int 1 s1.toks] }) s1.heap.objs.size i j 1 t t' s1.toks := IsRange.new _ _ _ _ _ _ _
  have I2 : Inv X pins σ H1 { s1 with heap := s1.heap.push { cls := .type "range", data := .fields #[.int i t, .int j t', .int 1 s1.toks] }, toks := s1.toks + 1 } := I1.kept (t' := s1.toks + 1) fun b o e => Heap.get?_push_of_some _ e
  have I3 : Inv X ((s1.heap.objs.size, { cls := .type "range", dict := none, data := .fields #[.int i t, .int j t', .int 1 s1.toks], slots := #[] }) :: pins) σ H1 { s1 with heap := s1.heap.push { cls := .type "range", data := .fields #[.int i t, .int j t', .int 1 s1.toks] }, toks := s1.toks + 1 } := I2.pins_of fun pp hp => by
    rcases List.mem_cons.mp hp with q | q
    · subst q
      exact ⟨hR, hfp.1, hfp.2.1, hfp.2.2.1, fun v q => nomatch q⟩
    · exact I2.pin pp (List.mem_append_right _ q)
  refine args_cons (thn (hx.run _ _ σ H1 _ I3 q1) fun u2 s2 ⟨x2, H2, I4, r2, q2⟩ => ?_) s3
  refine args_cons (thn (hy.run _ _ σ H2 _ I4 q2) fun u3 s3 ⟨x3, H3, I5, r3, q3⟩ => args_nil ?_) s4
  obtain ⟨p1, p2, xs, ys, rfl, rfl, hq1, hq2, hl, hl2, h0, q⟩ := q3
  cases r2
  cases r3
  have hR3 : IsRange s3.heap s1.heap.objs.size i j 1 t t' s1.toks := (I5.pin _ (List.mem_append_right _ (.head _))).1
  have I6 : Inv X pins σ H3 s3 := I5.pins_of fun pp hp => I5.pin pp (List.mem_append_right _ (.tail _ hp))
  obtain ⟨its1, v1, pl1, hz1⟩ := I6.list hq1
  obtain ⟨its2, v2, pl2, hz2⟩ := I6.list hq2
  refine call_zip_3 hR3 (small_one b1 b2 b3 b4) pl1.isList pl2.isList fun h' N eN hz hTI hTO hr1 hr2 hr3 hsz hk => args_nil ?_
  subst eN
  have I7 : Inv X pins σ H3 { s3 with heap := h' } := I6.kept (t' := s3.toks) hk
  have fresh : ∀ c, c ∈ [s3.heap.objs.size + 5, s3.heap.objs.size + 3, s3.heap.objs.size + 4, s3.heap.objs.size, s3.heap.objs.size + 1, s3.heap.objs.size + 2] → FpOk X pins H3 c := fun c hcm => by
    have e' : c = s3.heap.objs.size + 5 ∨ c = s3.heap.objs.size + 3 ∨ c = s3.heap.objs.size + 4 ∨ c = s3.heap.objs.size ∨ c = s3.heap.objs.size + 1 ∨ c = s3.heap.objs.size + 2 := by simpa using hcm
    have hle : s3.heap.objs.size ≤ c := by rcases e' with z | z | z | z | z | z <;> omega
    exact I6.fpOk hle (I6.hok.fresh hle)
  have l1 := pl1.lt
  have l2 := pl2.lt
  generalize s3.heap.objs.size = N at *
  have D : Z3Ap (N + 5) (N + 3) (N + 4) N (N + 1) (N + 2) p1 p2 := z3_ap N p1 p2 l1 l2
  have hn : Builtin.Range.rangeSize i j 1 = j - i := by
    rw [rangeSize_one]
    omega
  rw [hn] at hr1
  refine z3_list (s := { s3 with heap := h' }) hh hh I7 D fresh ⟨hz, hTI, ⟨_, _, _, hTO⟩, ?_, hr2, hr3, pl1.isList.at fun o e => hk _ o e, pl2.isList.at fun o e => hk _ o e⟩ v1 v2 (by show p1 < h'.objs.size; rw [hsz]; exact Nat.lt_of_lt_of_le l1 (Nat.le_add_right _ _)) (by show p2 < h'.objs.size; rw [hsz]; exact Nat.lt_of_lt_of_le l2 (Nat.le_add_right _ _)) hl hl2 hz1 h0 fun S H' s' J o => ⟨.ref S, H', J, rfl, q S H' o⟩
  simpa using hr1
end
/-! ### more of what is walked, and lists of zips: mirrors -/
namespace SM
variable {μ : Type}
def z3L : Int → List D → List D → List D
  | a, x :: xs, y :: ys => .tuple [.int a, x, y] :: z3L (a + 1) xs ys
  | _, _, _ => []
def rg2D : List D → Option (Int × Int)
  | [.int i, .int j] => if -(2 ^ 62) ≤ i ∧ i < 2 ^ 62 ∧ -(2 ^ 62) ≤ j ∧ j < 2 ^ 62 then some (i, j) else none
  | _ => none
def lzD (p : Int × Int) (x y : D) : Option D := match x, y with
  | .list xs, .list ys => if (xs.length : Int) = p.2 - p.1 ∧ ys.length = xs.length ∧ 0 < xs.length then some (.list (z3L p.1 xs ys)) else none
  | _, _ => none
def lz (Es : SM μ (List D)) (E3 E4 : SM μ D) : SM μ D := bd Es fun ds => bd (of (rg2D ds)) fun p => bd E3 fun x => bd E4 fun y => of (lzD p x y)
end SM
section
open SM
variable {X : Cx} {μ τ τ' ρ : Type} {G : Gx} {σ : St} {L : List (V × D)} {C Cp : μ → List Root} {te ta tb tc : TE} {E E1 E2 E3 E4 : SM μ D}
theorem z3_dt {K : PySem.W.Frag} {B : Addr → Prop} {H : Hp} : ∀ {xs ys : List V} {ds es : List D} {as : List Addr} {a : Int}, DtAll K B H xs ds → DtAll K B H ys es → as.length = xs.length → ys.length = xs.length →
    (∀ (j : Nat) (c : Addr), as[j]? = some c → B c ∧ ∃ x y, xs[j]? = some x ∧ ys[j]? = some y ∧ H c = some (.tup [.int (a + (j : Int)), x, y])) → DtAll K B H (as.map V.ref) (z3L a ds es)
  | [], [], _, _, [], _, .nil, .nil, _, _, _ => .nil
  | x :: xs, y :: ys, _, _, c :: as, a, .cons hx h1, .cons hy h2, e1, e2, h => by
    obtain ⟨b, x', y', q1, q2, q3⟩ := h 0 c rfl
    have e1' : x = x' := by simpa using q1
    have e2' : y = y' := by simpa using q2
    subst e1' e2'
    have q3' : H c = some (.tup [.int a, x, y]) := by simpa using q3
    refine .cons (.tup (.inl ⟨b, .inl q3'⟩) (.cons (.int _) (.cons hx (.cons hy .nil)))) (z3_dt h1 h2 (by simpa using e1) (by simpa using e2) fun j c' hj => ?_)
    obtain ⟨b', x2, y2, r1, r2, r3⟩ := h (j + 1) c' (by simpa using hj)
    refine ⟨b', x2, y2, by simpa using r1, by simpa using r2, ?_⟩
    rw [r3]
    have : a + ((j + 1 : Nat) : Int) = a + 1 + (j : Int) := by omega
    rw [this]
theorem Wd.z3 {K : PySem.W.Frag} {O : Og} {C : List Root} {H H' : Hp} {S p1 p2 : Addr} {a : Int} {xs ys : List V} {ds es : List D} (w : Wd K O L C H) (hx : (V.ref p1, PyData.list ds) ∈ L) (hy : (V.ref p2, PyData.list es) ∈ L)
    (o : Z3Out H H' S a xs ys) (h1 : ∀ B, (∀ f ∈ L, Dt K B H f.1 f.2) → DtAll K B H xs ds) (h2 : ∀ B, (∀ f ∈ L, Dt K B H f.1 f.2) → DtAll K B H ys es) (hl : ys.length = xs.length) : Wd K O ((.ref S, .list (z3L a ds es)) :: L) C H' := by
  obtain ⟨B, wb⟩ := w
  obtain ⟨as, al, nS, hS, tu, kp⟩ := o
  have s : Same H H' := kp
  have w2 := wb.grow (B' := fun q => B q ∨ q = S ∨ q ∈ as) s (fun q b => .inl b) (fun q b => b.elim .inl fun e => .inr (by
    rcases e with e | e
    · subst e; exact ⟨nS, _, hS⟩
    · obtain ⟨j, hj⟩ := List.mem_iff_getElem?.mp e
      obtain ⟨n, x, y, _, _, e⟩ := tu j q hj
      exact ⟨n, _, e⟩))
  have k : Kp B H (fun q => B q ∨ q = S ∨ q ∈ as) H' := fun q o b e => ⟨.inl b, s q o e⟩
  refine ⟨_, w2.fact (.lst ⟨.inr (.inl rfl), hS⟩ (z3_dt (Dt.monoAll k _ _ (h1 B wb.ft)) (Dt.monoAll k _ _ (h2 B wb.ft)) al hl fun j c hj => ?_))⟩
  obtain ⟨_, x, y, q1, q2, q3⟩ := tu j c hj
  exact ⟨.inr (.inr (List.mem_of_getElem? hj)), x, y, q1, q2, q3⟩
theorem ev_lz {tA : TA} {Es : SM μ (List D)} (ha : AV G tA σ L C Es) (hx : EV G ta σ L C E3) (hy : EV G tb σ L C E4) : EV G (tLZ G.K tA ta tb) σ L C (lz Es E3 E4) := by
  intro m F L' H Q s w q b
  refine ha m F L' H _ s w (fun ds m1 vs H1 L2 e1 s2 i2 w1 => ?_) b.fst
  have b1 := b.snd e1
  cases er : rg2D ds with
  | none => rw [er] at b1; exact absurd rfl b1.2
  | some p =>
    rw [er] at b1
    obtain ⟨i, j⟩ := p
    have hd : ds = [.int i, .int j] ∧ (-(2 ^ 62) ≤ i ∧ i < 2 ^ 62 ∧ -(2 ^ 62) ≤ j ∧ j < 2 ^ 62) := by
      unfold rg2D at er
      split at er
      · split at er
        · next c => cases er; exact ⟨rfl, c⟩
        · cases er
      · cases er
    obtain ⟨rfl, hb⟩ := hd
    obtain ⟨v1, v2, rfl, hv1, hv2⟩ := i2.two
    obtain ⟨B1, d1⟩ := w1.dt hv1
    obtain ⟨B2, d2⟩ := w1.dt hv2
    rw [d1.int_inv, d2.int_inv]
    refine ⟨i, j, rfl, hb, ?_⟩
    have b2 : Bk G C F L2 (bd E3 (fun x => bd E4 fun y => of (lzD (i, j) x y)) m1) := b1.mono s2
    refine hx m1 F L2 H1 _ (fun f hf => s2 f (s f hf)) w1 (fun x m2 v H2 e2 w2 => ?_) b2.fst
    have b3 := b2.snd e2
    refine hy m2 F ((v, x) :: L2) H2 _ (fun f hf => .tail _ (s2 f (s f hf))) w2 (fun y m3 u H3 e3 w3 => ?_) (b3.fst.mono fun f hf => .tail _ hf)
    have b4 := b3.snd e3
    cases x with
    | list xs =>
      cases y with
      | list ys =>
        by_cases hc : (xs.length : Int) = j - i ∧ ys.length = xs.length ∧ 0 < xs.length
        · have w3' := w3
          obtain ⟨B, wb⟩ := w3'
          obtain ⟨p1, us, rfl, f1, a1⟩ := Dt.lst_inv (wb.ft _ (.tail _ (.head _)))
          obtain ⟨p2, us2, rfl, f2, a2⟩ := Dt.lst_inv (wb.ft _ (.head _))
          have l1 := a1.len
          have l2 := a2.len
          refine ⟨p1, p2, us, us2, rfl, rfl, f1.sq, f2.sq, by rw [l1]; exact hc.1, by rw [l1, l2]; exact hc.2.1, by rw [l1]; exact hc.2.2, fun S H' o => q (.list (z3L i xs ys)) m3 _ H' ?_ ?_⟩
          · show bd Es _ m = _
            rw [bd_ok e1, er]
            show bd E3 _ m1 = _
            rw [bd_ok e2, bd_ok e3]
            show of (lzD (i, j) (.list xs) (.list ys)) m3 = _
            have el : lzD (i, j) (.list xs) (.list ys) = some (.list (z3L i xs ys)) := if_pos hc
            rw [el]; rfl
          · refine (w3.z3 (.tail _ (.head _)) (.head _) o (fun B' hf => ?_) (fun B' hf => ?_) (by rw [l1, l2]; exact hc.2.1)).sub fun f hf => ?_
            · obtain ⟨p', us', e', f', a'⟩ := Dt.lst_inv (hf _ (.tail _ (.head _)))
              cases e'
              have e3 : us' = us := by
                have h1 := f1.2
                rw [f'.2] at h1
                cases h1; rfl
              rw [← e3]; exact a'
            · obtain ⟨p', us', e', f', a'⟩ := Dt.lst_inv (hf _ (.head _))
              cases e'
              have e3 : us' = us2 := by
                have h1 := f2.2
                rw [f'.2] at h1
                cases h1; rfl
              rw [← e3]; exact a'
            · rcases List.mem_cons.mp hf with e | e
              · rw [e]; exact .head _
              · exact .tail _ (.tail _ (.tail _ (s2 f e)))
        · have : lzD (i, j) (.list xs) (.list ys) = none := if_neg hc
          rw [this] at b4
          exact absurd rfl b4.2
      | _ => exact absurd rfl b4.2
    | _ => exact absurd rfl b4.2
end
/-! ### range with a step, reversed, zip of two lists: mirrors -/
namespace SM
variable {μ : Type}
def rng3D : List D → Option (List D)
  | [.int i, .int j, .int c] => if c ≠ 0 ∧ c.natAbs < 1073741824 ∧ Builtin.Range.small i j c = true ∧ 0 ≤ Builtin.Range.rangeSize i j c then some ((List.range (Builtin.Range.rangeSize i j c).toNat).map fun k => .int (i + (k : Nat) * c)) else none
  | _ => none
def itR3 (Es : SM μ (List D)) : SM μ (List D) := bd Es fun ds => of (rng3D ds)
def rvD (d : D) : Option (List D) := (seqD d).map List.reverse
def itV (E : SM μ D) : SM μ (List D) := bd E fun d => of (rvD d)
def zip2L : List D → List D → List D
  | x :: xs, y :: ys => .tuple [x, y] :: zip2L xs ys
  | _, _ => []
def zip2D : List D → Option (List D)
  | [.list xs, .list ys] => some (zip2L xs ys)
  | _ => none
def itZ (Es : SM μ (List D)) : SM μ (List D) := bd Es fun ds => of (zip2D ds)
end SM
section
open SM RT RZ
variable {X : Cx} {μ τ τ' ρ : Type} {G : Gx} {σ : St} {L : List (V × D)} {C Cp : μ → List Root} {te tb tc : TE} {E E1 E2 E3 E4 : SM μ D}
theorem In2.three {L : List (V × D)} {xs : List V} {d e f : D} (h : In2 L xs [d, e, f]) : ∃ x y z, xs = [x, y, z] ∧ (x, d) ∈ L ∧ (y, e) ∈ L ∧ (z, f) ∈ L := by
  cases h with | cons a h => cases h with | cons b h => cases h with | cons c h => cases h; exact ⟨_, _, _, rfl, a, b, c⟩
theorem iv_rng3 {ta : TA} {Es : SM μ (List D)} (h : AV G ta σ L C Es) : IV G (iRng3 ta) σ L C (itR3 Es) := by
  intro m F L' H R s w q b
  refine h m F L' H _ s w (fun ds m1 vs H1 L2 e1 s2 i2 w1 => ?_) b.fst
  have b1 := b.snd e1
  cases er : rng3D ds with
  | none => rw [er] at b1; exact absurd rfl b1.2
  | some xs =>
    have hd : ∃ i j c, ds = [.int i, .int j, .int c] ∧ (c ≠ 0 ∧ c.natAbs < 1073741824 ∧ Builtin.Range.small i j c = true ∧ 0 ≤ Builtin.Range.rangeSize i j c) ∧ xs = (List.range (Builtin.Range.rangeSize i j c).toNat).map fun k => .int (i + (k : Nat) * c) := by
      unfold rng3D at er
      split at er
      · split at er
        · next c => cases er; exact ⟨_, _, _, rfl, c, rfl⟩
        · cases er
      · cases er
    obtain ⟨i, j, c, rfl, ⟨c1, c2, c3, c4⟩, rfl⟩ := hd
    obtain ⟨v1, v2, v3, rfl, hv1, hv2, hv3⟩ := i2.three
    obtain ⟨B1, d1⟩ := w1.dt hv1
    obtain ⟨B2, d2⟩ := w1.dt hv2
    obtain ⟨B3, d3⟩ := w1.dt hv3
    rw [d1.int_inv, d2.int_inv, d3.int_inv]
    refine ⟨i, j, c, (Builtin.Range.rangeSize i j c).toNat, rfl, ⟨c1, c2, c3, by omega⟩, q ((List.range (Builtin.Range.rangeSize i j c).toNat).map fun k => .int (i + (k : Nat) * c)) m1 _ H1 L2 ?_ s2 w1 ?_⟩
    · show bd Es _ m = _
      rw [bd_ok e1, er]; rfl
    · intro L3 C3 H3 s3 w3 k
      refine ⟨fun x hx => ?_, fun hi => ?_⟩
      · rw [List.getElem?_map] at hx
        cases e : (List.range (Builtin.Range.rangeSize i j c).toNat)[k]? with
        | none => rw [e] at hx; cases hx
        | some k' =>
          rw [e] at hx
          cases hx
          rw [List.getElem?_eq_some_iff] at e
          obtain ⟨h1, h2⟩ := e
          rw [List.getElem_range] at h2
          rw [List.length_range] at h1
          refine ⟨h1, fun u H' y => ?_⟩
          obtain ⟨e1, y⟩ := y
          subst e1 y
          rw [h2]
          exact w3.fact fun _ _ => .int _
      · rw [List.length_map, List.length_range] at hi
        exact hi
theorem iv_rev (h : EV G te σ L C E) : IV G (iRevA G.K te) σ L C (itV E) := by
  intro m F L' H R s w q b
  refine h m F L' H _ s w (fun x m1 v H1 e1 w1 => ?_) b.fst
  have b1 := b.snd e1
  have fin : ∀ {xs : List D}, seqD x = some xs → itV E m = .ok xs.reverse m1 := fun {xs} e => by
    show bd E _ m = _
    rw [bd_ok e1]
    unfold rvD
    rw [e]; rfl
  have w1' := w1
  obtain ⟨B, wb⟩ := w1'
  cases x with
  | list xs =>
    obtain ⟨p, vs, rfl, hl, ha⟩ := Dt.lst_inv (wb.ft _ (.head _))
    refine ⟨p, vs, rfl, .inl ⟨hl.sq, q _ m1 _ H1 _ (fin rfl) (fun f hf => .tail _ hf) w1 ?_⟩⟩
    intro L3 C3 H3 s3 w3 i
    obtain ⟨B3, wb3⟩ := w3
    obtain ⟨p', vs', e', hl', ha'⟩ := Dt.lst_inv (wb3.ft _ (s3 _ (.head _)))
    cases e'
    have el := ha.len
    have el' := ha'.len
    refine ⟨fun x hx => ?_, fun hi => ?_⟩
    · have hi : i < xs.length := by have := (List.getElem?_eq_some_iff.mp hx).1; rw [List.length_reverse] at this; exact this
      rw [List.getElem?_reverse hi] at hx
      obtain ⟨u, hu, hd⟩ := ha'.get hx
      refine ⟨⟨by omega, vs', u, hl'.sq, by rw [el]; exact hu⟩, fun z H' y => ?_⟩
      obtain ⟨e, y⟩ := y
      subst e
      have := y vs' hl'.sq
      rw [el, hu] at this
      cases this
      exact ⟨B3, wb3.fact hd⟩
    · rw [List.length_reverse] at hi
      show vs.length ≤ i
      omega
  | tuple xs =>
    obtain ⟨p, vs, rfl, hl, ha⟩ := Dt.tup_inv (wb.ft _ (.head _))
    refine ⟨p, vs, rfl, .inr ⟨hl.sq, q _ m1 _ H1 _ (fin rfl) (fun f hf => .tail _ hf) w1 ?_⟩⟩
    intro L3 C3 H3 s3 w3 i
    obtain ⟨B3, wb3⟩ := w3
    obtain ⟨p', vs', e', hl', ha'⟩ := Dt.tup_inv (wb3.ft _ (s3 _ (.head _)))
    cases e'
    have el := ha.len
    have el' := ha'.len
    refine ⟨fun x hx => ?_, fun hi => ?_⟩
    · have hi : i < xs.length := by have := (List.getElem?_eq_some_iff.mp hx).1; rw [List.length_reverse] at this; exact this
      rw [List.getElem?_reverse hi] at hx
      obtain ⟨u, hu, hd⟩ := ha'.get hx
      refine ⟨⟨by omega, vs', u, hl'.sq, by rw [el]; exact hu⟩, fun z H' y => ?_⟩
      obtain ⟨e, y⟩ := y
      subst e
      have := y vs' hl'.sq
      rw [el, hu] at this
      cases this
      exact ⟨B3, wb3.fact hd⟩
    · rw [List.length_reverse] at hi
      show vs.length ≤ i
      omega
  | _ => exact absurd rfl b1.2
theorem zip2_get : ∀ {xs ys : List D} {i : Nat} {z : D}, (zip2L xs ys)[i]? = some z → ∃ x y, xs[i]? = some x ∧ ys[i]? = some y ∧ z = .tuple [x, y]
  | x :: xs, y :: ys, 0, z, h => ⟨x, y, rfl, rfl, by simpa [zip2L] using h.symm⟩
  | x :: xs, y :: ys, i + 1, z, h => by
    obtain ⟨a, b, h1, h2, h3⟩ := zip2_get (xs := xs) (ys := ys) (i := i) (z := z) (by simpa [zip2L] using h)
    exact ⟨a, b, by simpa using h1, by simpa using h2, h3⟩
  | [], _, _, z, h => by simp [zip2L] at h
  | _ :: _, [], _, z, h => by simp [zip2L] at h
theorem zip2_len : ∀ (xs ys : List D), (zip2L xs ys).length = min xs.length ys.length
  | x :: xs, y :: ys => by simp [zip2L, zip2_len xs ys]
  | [], _ => by simp [zip2L]
  | _ :: _, [] => by simp [zip2L]
theorem iv_zip {ta : TA} {Es : SM μ (List D)} (h : AV G ta σ L C Es) : IV G (iZipA G.K ta) σ L C (itZ Es) := by
  intro m F L' H R s w q b
  refine h m F L' H _ s w (fun ds m1 vs H1 L2 e1 s2 i2 w1 => ?_) b.fst
  have b1 := b.snd e1
  cases er : zip2D ds with
  | none => rw [er] at b1; exact absurd rfl b1.2
  | some zs =>
    have hd : ∃ xs ys, ds = [.list xs, .list ys] ∧ zs = zip2L xs ys := by
      unfold zip2D at er
      split at er
      · cases er; exact ⟨_, _, rfl, rfl⟩
      · cases er
    obtain ⟨xs, ys, rfl, rfl⟩ := hd
    obtain ⟨v1, v2, rfl, hv1, hv2⟩ := i2.two
    have w1' := w1
    obtain ⟨B, wb⟩ := w1'
    obtain ⟨p1, us1, rfl, hl1, ha1⟩ := Dt.lst_inv (wb.ft _ hv1)
    obtain ⟨p2, us2, rfl, hl2, ha2⟩ := Dt.lst_inv (wb.ft _ hv2)
    refine ⟨p1, p2, us1, us2, rfl, .inl ⟨hl1.sq, hl2.sq, q (zip2L xs ys) m1 _ H1 L2 ?_ s2 w1 ?_⟩⟩
    · show bd Es _ m = _
      rw [bd_ok e1, er]; rfl
    · intro L3 C3 H3 s3 w3 i
      have w3' := w3
      obtain ⟨B3, wb3⟩ := w3'
      obtain ⟨p1', us1', e1', hl1', ha1'⟩ := Dt.lst_inv (wb3.ft _ (s3 _ hv1))
      obtain ⟨p2', us2', e2', hl2', ha2'⟩ := Dt.lst_inv (wb3.ft _ (s3 _ hv2))
      cases e1'
      cases e2'
      have el1 := ha1'.len
      have el2 := ha2'.len
      refine ⟨fun z hz => ?_, fun hi => ?_⟩
      · obtain ⟨x, y, hx, hy, rfl⟩ := zip2_get hz
        obtain ⟨a, ha, hda⟩ := ha1'.get hx
        obtain ⟨c, hc, hdc⟩ := ha2'.get hy
        refine ⟨⟨us1', us2', a, c, hl1'.sq, hl2'.sq, ha, hc⟩, fun u H' y => ?_⟩
        obtain ⟨T, a', c', rfl, hT, rfl, f1, f2⟩ := y
        have q1 := f1 _ hl1'.sq
        have q2 := f2 _ hl2'.sq
        rw [ha] at q1
        rw [hc] at q2
        cases q1
        cases q2
        exact Wb.tupD wb3 hT (.cons hda (.cons hdc .nil))
      · rw [zip2_len] at hi
        exact ⟨us1', us2', hl1'.sq, hl2'.sq, by omega⟩
end
/-! ### list.count of numbers among numbers and None; enumerate(list, start=k); min(list, key=abs) -/
section
open PySem PySem.Spec PyProof.Rows
variable {X : Cx}
/-- an item that is a number or None -/
def INv (y : V) : Prop := y = .non ∨ ∃ i, y = .int i
def cntV (k : Int) (ys : List V) : Nat := ys.countP fun y => match y with | .int i => i == k | _ => false
def rCntN (K : PySem.W.Frag) : V → List V → Hp → VK → Prop := fun x xs H Q => ∃ (p : Addr) (ys : List V) (k : Int), x = .ref p ∧ xs = [.int k] ∧ SqL K H p ys ∧ (∀ y ∈ ys, INv y) ∧ Q (.int (cntV k ys : Nat)) H
theorem eqk_at {A : Around} {s : Shared} {k : Int} {t : Tok} {y : V} {v : Value} (r : RelV y v) (h : INv y) : SeqAt.EqAt A s v (.int k t) (eqk k v) := by
  rcases h with h | ⟨i, h⟩
  · subst h
    have e : v = Value.none := r
    subst e
    exact SeqAt.EqAt.none_int k t
  · subst h
    obtain ⟨u, e⟩ := r
    subst e
    exact (MeetsSeq.EqGives.int i k u t).at _ _
theorem cntV_eq {k : Int} : ∀ {ys : List V} {us : List Value}, Vals ys us → (∀ y ∈ ys, INv y) → us.countP (eqk k) = cntV k ys
  | _, _, .nil, _ => rfl
  | y :: ys, u :: us, .cons r t, h => by
    have ih := cntV_eq (k := k) t fun z hz => h z (.tail _ hz)
    unfold cntV at ih ⊢
    rw [List.countP_cons, List.countP_cons, ih]
    rcases h y (.head _) with e | ⟨i, e⟩
    · subst e
      have e2 : u = Value.none := r
      subst e2; rfl
    · subst e
      obtain ⟨z, e2⟩ := r
      subst e2; rfl
theorem mt_lcountN : MtR X "list.count" (rCntN X.K) := by
  intro pins s σ H x xs v us Q I rx rxs h
  obtain ⟨p, ys, k, rfl, rfl, hs, hn, q⟩ := h
  cases rx
  obtain ⟨u, rfl, ru⟩ := rxs.one
  obtain ⟨t, rfl⟩ := ru
  obtain ⟨its, rv, ⟨⟨cls, dd, data, sl⟩, n, ho, hc, hdn, hd⟩, hlen⟩ := I.list hs
  simp only at hc hd
  subst hc hd
  refine call_meets PySem.F.slot_list_count ⟨_, ho, rfl⟩ PySem.F.entry_list_count (PySem.F.args_list_count_2 _ _)
    (SeqAt.list_countAt p its.toArray n dd sl (.int k t) (eqk k)) ⟨ho, fun y hy => ?_, ?_⟩
  · have hy' : y ∈ its := by simpa using hy
    obtain ⟨i, hi, e⟩ := List.getElem_of_mem hy'
    have hl : i < ys.length := by rw [rv.length]; exact hi
    obtain ⟨w', hw, rw'⟩ := rv.get (List.getElem?_eq_getElem hl)
    rw [List.getElem?_eq_getElem hi, e] at hw
    cases hw
    exact eqk_at rw' (hn _ (List.getElem_mem hl))
  have ec : its.toArray.toList.countP (eqk k) = cntV k ys := cntV_eq rv hn
  refine ⟨.int (cntV k ys : Nat), H, I.tok _, ⟨s.toks, ?_⟩, q⟩
  show Value.int ((its.toArray.toList.countP (eqk k) : Nat) : Int) s.toks = Value.int ((cntV k ys : Nat) : Int) s.toks
  rw [ec]
/-! enumerate(list, start=k) -/
theorem callWith_type_kw {M : Model} {A : Around} {E : Value → Shared → Prop} {s : Shared} {env : Env} {pos : Pos} {T : String} {e : Expr} {rest : List Expr} {kws : List Keyword} {Q : Value → Shared → Prop}
    (h : wpAny M A (spliced (backTo pos (starEach (e :: rest) env))) (fun vs s₁ => wpAny M A (evalAll ((backToKw pos (keywordEach kws env)).map (·.2)))
      (fun kvs s₂ => wpAny M A (call (.type T) vs (((backToKw pos (keywordEach kws env)).filterMap (·.1)).zip kvs)) Q E s₂) E s₁) E s)
    (he : backTo pos (starEach (e :: rest) env) = (false, eval e env) :: backTo pos (starEach rest env)) (hplain : (backTo pos (starEach (e :: rest) env)).any (·.1) = false)
    (hall : (backToKw pos (keywordEach kws env)).all (·.1.isSome) = true) (hkw : (backToKw pos (keywordEach kws env)).any (·.1.isNone) = false) :
    wpAny M A (callWith pos (.type T) [] (backTo pos (starEach (e :: rest) env)) (backToKw pos (keywordEach kws env))) Q E s := by
  unfold callWith
  have h2 : wpAny M A (evalArgs (.type T) true (backTo pos (starEach (e :: rest) env)) (backToKw pos (keywordEach kws env))) (fun a s₁ => wpAny M A (call (.type T) ([] ++ a.pos) a.kw) Q E s₁) E s := by
    rw [he] at h ⊢
    exact evalArgs_kwB hall h
  refine wpAny_bind (wpAny_holding (wpAny_mono h2 (fun a s₁ h₁ => wpAny_bind (wpAny_standAt ?_)) fun _ _ x => x))
  simp only [hplain, hkw, Bool.or_false]
  refine wpAny_bind (wpAny_pure ?_)
  exact wpAny_bind (wpAny_mono h₁ (fun r s₂ hr => wpAny_bind (wpAny_holding (wpAny_point (wpAny_pure hr)))) fun _ _ x => x)
def IteS (K : PySem.W.Frag) (a : Addr) (k : Int) : It :=
  ⟨fun i H => ∃ (xs : List V) (x : V), SqL K H a xs ∧ xs[i]? = some x, fun i H v H' => ∃ T x, v = .ref T ∧ H T = none ∧ H' = upd H T (.tup [.int (k + (i : Nat)), x]) ∧ ∀ xs, SqL K H a xs → xs[i]? = some x, fun i H => ∃ xs : List V, SqL K H a xs ∧ xs.length ≤ i⟩
theorem turn_enumS {P : Program} {w : World} {K : PySem.W.Frag} {elts : List Expr} {kk : Nat} {tpos : Pos} (a e it : Addr) (k : Int) (hae : a ≠ e) (hai : a ≠ it) :
    Turn P w K (.Tuple elts kk tpos) (IteS K a k) [e, it] e (fun i h => (∃ old, IsEnum h e it (k + ((i : Nat) : Int)) old) ∧ h.IsListIter it a i ∧ e ≠ it) where
  mem := by simp
  obj := fun i h st b hb => by
    obtain ⟨⟨old, he⟩, ⟨o, ho, hc, hd⟩, _⟩ := st
    have e' : b = e ∨ b = it := by simpa using hb
    rcases e' with z | z
    · rw [z]; exact ⟨_, he, fun v q => nomatch q⟩
    · rw [z]; exact ⟨o, ho, fun v q => by rw [hd] at q; cases q⟩
  keep := fun i h h' st kp => let ⟨⟨old, he⟩, hi, hne⟩ := st; ⟨⟨old, kp e (by simp) _ he⟩, hi.at fun o q => kp it (by simp) o q, hne⟩
  item := by
    intro X hP hw hK hc i pins s σ H E I hf st hg
    subst hP hw hK
    obtain ⟨⟨old, he⟩, hit, hne⟩ := st
    obtain ⟨xs, x, hq, hx⟩ := hg
    obtain ⟨its, rv, p, hz⟩ := I.list hq
    obtain ⟨u, hu, ru⟩ := rv.get hx
    have hel : e < s.heap.objs.size := Heap.lt_size he
    have hil : it < s.heap.objs.size := by obtain ⟨_, q, _⟩ := hit; exact Heap.lt_size q
    have hlt : i < its.toArray.size := by
      rw [List.size_toArray, ← rv.length]
      exact (List.getElem?_eq_some_iff.mp hx).1
    have D : Draws X.prog X.w X.A.in1 it [it, a] its.toArray.size (fun i v => its.toArray[i]? = some v) (fun i h => h.IsListIter it a i ∧ h.IsList a its.toArray) := Draws.list (show X.A.in1.handled = none from I.ok.hd hc) it a hai its.toArray
    refine wpAny_pyNext_enum_itemC (c := k + ((i : Nat) : Int)) D he ⟨hit, p.isList⟩ hlt hne (by simp [hne, hae.symm]) fun u' h' tk hu' ho hst' hT hsz hkk => ?_
    have eu : u' = u := by
      have h1 : its.toArray[i]? = some u' := hu'
      have h2 : its.toArray[i]? = some u := by simpa using hu
      rw [h2] at h1; cases h1; rfl
    subst eu
    refine ⟨_, rfl, wpAny_letOwnedTupleGo_enum (s := { s with heap := h', toks := tk + 1 }) ho fun h'' he' sb => ?_⟩
    have hT2 : h''.get? s.heap.objs.size = some { cls := .type "tuple", data := .seq #[.int (k + ((i : Nat) : Int)) tk, u'] } := (sb.2 _ (Nat.ne_of_gt hel)).trans hT
    have new : ObjOk X.prog X.w (upd H s.heap.objs.size (.tup [.int (k + (i : Nat)), x])) h'' s.heap.objs.size (.tup [.int (k + (i : Nat)), x]) :=
      ⟨by show 2 ≤ sizeLine; decide, [.int (k + ((i : Nat) : Int)) tk, u'], .cons ⟨_, rfl⟩ (.cons ru .nil), ⟨_, hT2, rfl, _, rfl⟩⟩
    have I1 : Inv X pins σ (upd H s.heap.objs.size (.tup [.int (k + (i : Nat)), x])) { s with heap := h'', toks := tk + 1 } :=
      I.turnedNew (ch := [e, it]) (fun b ob hb q => (sb.2 b (fun z => hb (by simp [z]))).trans (hkk b ob (fun z => hb (by simp [z])) (fun z => hb (by simp [z])) q)) hf (Nat.le_refl _) new
    refine ⟨.ref s.heap.objs.size, _, I1, rfl, ⟨_, x, rfl, I.hok.fresh (Nat.le_refl _), rfl, fun ys hy => by rw [I.list_inj hy hq]; exact hx⟩, ⟨⟨u', ?_⟩, hst'.1.at fun o q => (sb.2 it (Ne.symm hne)).trans q, hne⟩, fun b hb => ?_⟩
    · have e1 : k + ((i + 1 : Nat) : Int) = k + (i : Int) + 1 := by omega
      rw [e1]; exact he'
    · have hb' : b < s.heap.objs.size := by
        have e' : b = e ∨ b = it := by simpa using hb
        rcases e' with z | z
        · rw [z]; exact hel
        · rw [z]; exact hil
      rw [upd_ne (Nat.ne_of_lt hb')]
      exact (hf b hb).1
  done := by
    intro X hP hw hK hc i pins s σ H E I hf st hg
    subst hP hw hK
    obtain ⟨⟨old, he⟩, hit, hne⟩ := st
    obtain ⟨xs, hq, hx⟩ := hg
    obtain ⟨its, rv, p, hz⟩ := I.list hq
    obtain ⟨f0, f1, f2, f3, f4, f5⟩ := hf it (by simp)
    have hl := rv.length
    have hT : s.TypeIs (.ref e) "enumerate" := ⟨_, he, rfl⟩
    unfold pyNext
    refine wpAny_bind (wpAny_attempt (wpAny_callSpecial?_slot (name := Str.ofString "__next__") hT F.slot_enumerate_next
      (wpAny_call_entry F.slot_enumerate_next hT F.entry_enumerate_next ?_ (F.args_enumerate_next_1 _))))
    show wpAny _ _ (field (.ref e) 2 >>= _) _ _ s
    refine wpAny_bind (wpAny_field he rfl (x := .ref it) rfl ?_)
    refine wpAny_bind (wpAny_nextOf_list_end (I.ok.hd hc) hit p.isList (by simp; omega) fun h' ex eb hex => ?_)
    obtain ⟨o, ho, hoc⟩ := hex
    refine wpAny_bind (wpAny_isInstance (T := "StopIteration") (b := true) ⟨o, ho, hoc⟩ isSubtype_stop ?_)
    exact wpAny_pure ⟨rfl, I.turned (t' := s.toks) (fun b o hb q => eb b o hb q) f0 f1 f3 f4 f5⟩
  self := fun A i s Q E st h => let ⟨⟨_, he⟩, _⟩ := st; wpAny_pyIter_enum he h
def iEnumS (K : PySem.W.Frag) (ta tk : TA) : TI := fun σ H R => ta σ H fun vs H1 => tk σ H1 fun zs H2 => ∃ a xs k, vs = [.ref a] ∧ zs = [.int k] ∧ (-(2 ^ 62) ≤ k ∧ k < 2 ^ 62) ∧ SqL K H2 a xs ∧ R (IteS K a k) H2
theorem pi_enumS {e : Expr} {ta tk : TA} {p pos tpos : Pos} {elts : List Expr} {kk : Nat} {kws : List Keyword} (hg : Gl X "enumerate") (hm : X.mg "enumerate" = none) (ha : PA X [e] ta) (hk : PK X kws tk)
    (he : backTo pos (starEach [e] X.env) = (false, eval e X.env) :: backTo pos (starEach [] X.env) := by rfl) (hpl : (backTo pos (starEach [e] X.env)).any (·.1) = false := by rfl)
    (hall : (backToKw pos (keywordEach kws X.env)).all (·.1.isSome) = true := by rfl) (hkw : (backToKw pos (keywordEach kws X.env)).any (·.1.isNone) = false := by rfl) (hks : (backToKw pos (keywordEach kws X.env)).filterMap (·.1) = [Str.ofString "start"] := by rfl) :
    PI X (.Tuple elts kk tpos) (.Call (.Name "enumerate" p) [e] kws pos) (iEnumS X.K ta tk) := by
  refine ⟨fun pins s σ H R I h => ?_⟩
  refine wpAny_Call_Name_kw (ld_blt I hg hm boot_enumerate ?_)
  refine callWith_type_kw (thn (ha.run pos pins s σ H _ I h) fun us s1 ⟨vs, H1, I1, r1, q1⟩ => thn (hk.run pos pins s1 σ H1 _ I1 q1) fun ws s2 ⟨zs, H2, I2, r2, q2⟩ => ?_) he hpl hall hkw
  obtain ⟨a, xs, k, ex, ez, hb, hq, q⟩ := q2
  subst ex ez
  rw [hks]
  cases r1 with
  | cons r rr =>
    cases rr
    cases r
    obtain ⟨w', rfl, rw'⟩ := r2.one
    obtain ⟨t, rfl⟩ := rw'
    obtain ⟨its, rv, p', hz⟩ := I2.list hq
    have hal : a < s2.heap.objs.size := by obtain ⟨o, ho, _⟩ := p'.isList; exact Heap.lt_size ho
    refine enum_begins_start (begins_list a its.toArray) p'.isList (by omega) (by omega) fun h' he' hit hsz hkk => wpAny_pyIter_enum he' ?_
    have I3 : Inv X pins σ H2 { s2 with heap := h' } := I2.kept (t' := s2.toks) hkk
    refine ⟨s2.heap.objs.size + 1, [s2.heap.objs.size + 1, s2.heap.objs.size], _, _, H2, rfl, I3, turn_enumS a (s2.heap.objs.size + 1) s2.heap.objs.size k (Nat.ne_of_lt (Nat.lt_succ_of_lt hal)) (Nat.ne_of_lt hal), ⟨⟨.none, by simpa using he'⟩, ⟨_, hit, rfl, rfl⟩, Nat.succ_ne_self _⟩, fun b hb => ?_, q⟩
    have e' : b = s2.heap.objs.size + 1 ∨ b = s2.heap.objs.size := by simpa using hb
    have hle : s2.heap.objs.size ≤ b := by
      rcases e' with z | z
      · rw [z]; exact Nat.le_add_right _ _
      · rw [z]; exact Nat.le_refl _
    exact I2.fpOk hle (I2.hok.fresh hle)
end
section
open PySem PySem.Spec PyProof.Rows
variable {X : Cx} {pins : List (Addr × Obj)} {σ : L2.St} {H : Hp} {s : Shared}
/-! ### behind a rule that keeps every object: the frame's own by its map -/
theorem kept_all {g h h' : Heap} {L : Addr} {m : Str → Option Value} (k : ∀ b o, g.get? b = some o → h.get? b = some o) (F : Fr g L h' m) (N : News g L h' (allNews g h L)) : ∀ b o, b ≠ L → h.get? b = some o → h'.get? b = some o := fun b o h1 e => by
  cases q : g.get? b with
  | some u =>
    have := k b u q
    rw [e] at this; cases this
    exact F.keep b _ q
  | none => exact (N (b, o) (mem_allNews h1 q e)).1
theorem keptL_ {h' : Heap} {t' : Nat} {m : Str → Option Value} (I : Inv X pins σ H s) (F : Fr X.base X.env.locals s.heap m) (F' : Fr X.base X.env.locals h' m) (N : News X.base X.env.locals h' (allNews X.base s.heap X.env.locals)) : Inv X pins σ H { s with heap := h', toks := t' } := by
  have kp : ∀ b o, b ≠ X.env.locals → s.heap.get? b = some o → h'.get? b = some o := kept_all (fun b o e => F.keep b o e) F' N
  have nL : ∀ b o, H b = some o → b ≠ X.env.locals := fun b o e z => by
    rw [z, I.free] at e; cases e
  have hok : HOk X.prog X.w H h' := fun a o e => (I.hok a o e).stay (fun b u hb q => kp b u (by
    rcases hb with z | z
    · rw [z]; exact nL a o e
    · exact nL b _ z) q) (fun _ r => r) fun _ _ r => r
  refine I.step (g' := s.gens) (d' := s.drawn) (ch := []) (fun _ z => nomatch z) (fun b o h1 _ _ e _ => kp b o h1 e) (fun b o h1 _ _ e _ => ⟨o.slots, kp b o h1 e⟩) (fun _ _ _ _ n => n) (fun b o _ e => ?_) (fun _ _ e => e) (fun _ _ _ e => e) (fun b ps e => ⟨#[], by rw [e]; simp⟩) (fun m' hm => ?_) hok I.bare
  · by_cases z : b = X.env.locals
    · subst z
      obtain ⟨o', _, _, ho', _⟩ := F'.ns
      exact ⟨o', ho'⟩
    · exact ⟨o, kp b o z e⟩
  · have em : m' = m := by rw [Heap.Ns.eq_nsMap hm, Heap.Ns.eq_nsMap F.ns]
    rw [em]
    exact F'.ns
/-! ### min(list, key=abs) -/
def minA : List Int → Option Int
  | [] => none
  | x :: xs => match minA xs with
    | none => some x
    | some y => if x.natAbs ≤ y.natAbs then some x else some y
theorem minA_first : ∀ {ns : List Int} {i : Nat} {n : Int}, ns[i]? = some n → (∀ j m, ns[j]? = some m → n.natAbs ≤ m.natAbs ∧ (j < i → n.natAbs < m.natAbs)) → minA ns = some n
  | [], i, n, h, _ => by cases h
  | x :: xs, 0, n, h, hm => by
    cases h
    unfold minA
    cases e : minA xs with
    | none => rfl
    | some y =>
      have hy : ∃ j : Nat, xs[j]? = some y := by
        have : ∀ {l : List Int} {y : Int}, minA l = some y → y ∈ l := fun {l} => by
          induction l with
          | nil => intro y h; cases h
          | cons a r ih =>
            intro y h
            unfold minA at h
            split at h
            · cases h; exact .head _
            · next z hz =>
              split at h
              · cases h; exact .head _
              · cases h; exact .tail _ (ih hz)
        exact List.mem_iff_getElem?.mp (this e)
      obtain ⟨j, hj⟩ := hy
      simp only []
      rw [if_pos (hm (j + 1) y (by simpa using hj)).1]
  | x :: xs, i + 1, n, h, hm => by
    have h' : xs[i]? = some n := by simpa using h
    have ih : minA xs = some n := minA_first (i := i) h' fun j m hj => by
      have := hm (j + 1) m (by simpa using hj)
      exact ⟨this.1, fun q => this.2 (by omega)⟩
    unfold minA
    rw [ih]
    have := (hm 0 x rfl).2 (by omega)
    simp only []
    rw [if_neg (by omega)]
theorem minA_some : ∀ {ns : List Int}, 0 < ns.length → ∃ k, minA ns = some k
  | x :: xs, _ => by
    unfold minA
    cases minA xs with
    | none => exact ⟨_, rfl⟩
    | some y =>
      simp only []
      split
      · exact ⟨_, rfl⟩
      · exact ⟨_, rfl⟩
theorem abs_if (n : Int) : (if n < 0 then -n else n) = (n.natAbs : Int) := by split <;> omega
theorem min_abs_run {a : Addr} {ns : List Int} {k : Int} {Q : VK} (hc : X.calm = true) (I : Inv X pins σ H s) (hs : SqL X.K H a (ns.map V.int)) (hk : minA ns = some k) (q : Q (.int k) H) :
    wpAny (model X.prog X.w) X.A (call (.builtin "min") [.ref a] [(Str.ofString "key", .builtin "abs")]) (EP X pins σ Q) X.xe s := by
  obtain ⟨its, rv, hl, hz⟩ := I.list hs
  have hi := ints_of_vals rv
  have hlen := hi.length
  obtain ⟨m, F⟩ := I.fr
  have hne : 0 < its.length := by
    cases ns with
    | nil => cases hk
    | cons x r => rw [hlen]; simp
  have haL : a ≠ X.env.locals := fun z => by
    obtain ⟨o, ho, hcl, n, hd⟩ := hl.isList
    obtain ⟨o', es, ep, ho', hd', _⟩ := F.ns
    rw [z, ho'] at ho; cases ho
    rw [hd] at hd'; cases hd'
  refine kmb_min (fun i => ((ns.getD i 0).natAbs : Int)) (I.ok.hd hc) F (news_all (g := X.base) (h := s.heap) (L := X.env.locals)) (fun h F' N' => ?_) hne (fun i v hv h tk own F' N' => ?_) fun i v h' tk' hv hb F' N' => ?_
  · obtain ⟨o, ho, r⟩ := hl.isList
    exact ⟨o, kept_all (fun b o e => F.keep b o e) F' N' a o haL ho, r⟩
  · have hi' : i < its.length := (List.getElem?_eq_some_iff.mp hv).1
    obtain ⟨n, hn⟩ : ∃ n, ns[i]? = some n := ⟨_, List.getElem?_eq_getElem (by omega)⟩
    obtain ⟨t, ht⟩ := hi.get i n hn
    rw [ht] at hv
    cases hv
    have e : ns.getD i 0 = n := by simp [hn]
    refine call_abs_int fun u tk' => ?_
    rw [abs_if]
    show KskEnd _ _ _ _ ((ns.getD i 0).natAbs : Int) _ _ _
    rw [e]
    exact KskEnd.intro F' N' fun p hp => hp
  · have hi' : i < its.length := (List.getElem?_eq_some_iff.mp hv).1
    obtain ⟨n, hn⟩ : ∃ n, ns[i]? = some n := ⟨_, List.getElem?_eq_getElem (by omega)⟩
    obtain ⟨t, ht⟩ := hi.get i n hn
    rw [ht] at hv
    cases hv
    have e : ns.getD i 0 = n := by simp [hn]
    have em : minA ns = some n := minA_first hn fun j m' hj => by
      have hj' : j < ns.length := (List.getElem?_eq_some_iff.mp hj).1
      have b := hb j (by omega)
      have e2 : ns.getD j 0 = m' := by simp [hj]
      simp only [e, e2] at b
      exact ⟨by omega, fun z => by have := b.2 z; omega⟩
    rw [hk] at em
    cases em
    exact ⟨.int k, H, keptL_ I F F' N', ⟨t, rfl⟩, q⟩
def tMinA (K : PySem.W.Frag) (ta : TA) : TE := fun σ H Q => ta σ H fun vs H1 => ∃ (a : Addr) (ns : List Int) (k : Int), vs = [.ref a] ∧ SqL K H1 a (ns.map V.int) ∧ minA ns = some k ∧ Q (.int k) H1
theorem pe_minA {e : Expr} {ta : TA} {p np kpos pos : Pos} (hc : X.calm = true) (hg : Gl X "min") (hm : X.mg "min" = none) (hg2 : Gl X "abs") (hm2 : X.mg "abs" = none) (ha : PA X [e] ta)
    (he : backTo pos (starEach [e] X.env) = (false, eval e X.env) :: backTo pos (starEach [] X.env) := by rfl) (hpl : (backTo pos (starEach [e] X.env)).any (·.1) = false := by rfl) :
    PE X (.Call (.Name "min" p) [e] [⟨some "key", .Name "abs" np, kpos⟩] pos) (tMinA X.K ta) := by
  refine ⟨fun pins s σ H Q I h => ?_⟩
  refine wpAny_Call_Name_kw (ld_blt I hg hm (by decide +kernel : bootBuiltins "min" = some (.builtin "min")) ?_)
  refine callWith_kw (thn (ha.run pos pins s σ H _ I h) fun us s1 ⟨vs, H1, I1, r1, q1⟩ => ?_) he hpl (by rfl) (by rfl)
  show wpAny _ _ (evalAll [do let v ← eval (.Name "abs" np) X.env; standAt pos; pure v]) _ _ s1
  refine wpAny_evalAll_cons (wpAny_bind (ld_blt I1 hg2 hm2 (by decide +kernel : bootBuiltins "abs" = some (.builtin "abs")) (wpAny_bind (wpAny_standAt (wpAny_pure ?_)))))
  refine wpAny_evalAll_nil ?_
  obtain ⟨a, ns, k, rfl, hs, hk, q⟩ := q1
  obtain ⟨u, rfl, ru⟩ := r1.one
  cases ru
  exact min_abs_run hc I1 hs hk q
end
/-! ### count, enumerate(.., start=..), min(.., key=abs): mirrors -/
namespace SM
variable {μ : Type}
def inD1 : D → Bool
  | .none => true
  | .int _ => true
  | _ => false
def isI (k : Int) : D → Bool
  | .int i => i == k
  | _ => false
def countD : D → D → Option D
  | .list ds, .int k => if ds.all inD1 = true then some (.int (ds.countP (isI k) : Nat)) else none
  | _, _ => none
def isL : D → Option Unit
  | .list _ => some ()
  | _ => none
def cnt2 (E1 E2 : SM μ D) : SM μ D := bd E1 fun x => bd (of (isL x)) fun _ => bd E2 fun y => of (countD x y)
def intsOf : List D → Option (List Int)
  | [] => some []
  | .int i :: r => (intsOf r).map fun l => i :: l
  | _ => none
def minAD : List D → Option D
  | [.list ds] => match intsOf ds with
    | some ns => (minA ns).map PyData.int
    | none => none
  | _ => none
def enL : Int → List D → List D
  | _, [] => []
  | k, d :: ds => .tuple [.int k, d] :: enL (k + 1) ds
def enSD : List D → List D → Option (List D)
  | [.list ds], [.int k] => if -(2 ^ 62) ≤ k ∧ k < 2 ^ 62 then some (enL k ds) else none
  | _, _ => none
def itES (Es Ek : SM μ (List D)) : SM μ (List D) := bd Es fun xs => bd Ek fun ks => of (enSD xs ks)
def enD : List D → Option (List D)
  | [.list ds] => some (enL 0 ds)
  | _ => none
def itE (Es : SM μ (List D)) : SM μ (List D) := bd Es fun xs => of (enD xs)
end SM
section
open SM
variable {X : Cx} {μ τ τ' ρ : Type} {G : Gx} {σ : St} {L : List (V × D)} {C Cp : μ → List Root} {te ta tb tc : TE} {E E1 E2 E3 E4 : SM μ D}
theorem intsOf_map : ∀ {ds : List D} {ns : List Int}, intsOf ds = some ns → ds = ns.map PyData.int
  | [], ns, h => by cases h; rfl
  | .int i :: r, ns, h => by
    cases e : intsOf r with
    | none => simp [intsOf, e] at h
    | some l =>
      have : i :: l = ns := by simpa [intsOf, e] using h
      subst this
      rw [List.map_cons, ← intsOf_map e]
  | .none :: r, ns, h => by cases h
  | .bool _ :: r, ns, h => by cases h
  | .str _ :: r, ns, h => by cases h
  | .list _ :: r, ns, h => by cases h
  | .tuple _ :: r, ns, h => by cases h
  | .dict _ :: r, ns, h => by cases h
theorem intsOf_of : ∀ (ns : List Int), intsOf (ns.map PyData.int) = some ns
  | [] => rfl
  | n :: r => by simp [intsOf, intsOf_of r]
theorem cnt_dt {K : PySem.W.Frag} {B : Addr → Prop} {H : Hp} {k : Int} : ∀ {vs : List V} {ds : List D}, DtAll K B H vs ds → ds.all inD1 = true → (∀ y ∈ vs, INv y) ∧ cntV k vs = ds.countP (isI k)
  | [], _, h, _ => by cases h; exact ⟨fun y hy => (by cases hy), rfl⟩
  | v :: vs, _, h, ha => by
    cases h with
    | cons a b =>
      rw [List.all_cons, Bool.and_eq_true] at ha
      obtain ⟨i1, i2⟩ := cnt_dt (k := k) b ha.2
      unfold cntV at i2 ⊢
      rw [List.countP_cons, List.countP_cons, i2]
      cases a with
      | non =>
        refine ⟨fun y hy => ?_, rfl⟩
        rcases List.mem_cons.mp hy with e | e
        · exact .inl e
        · exact i1 y e
      | int i =>
        refine ⟨fun y hy => ?_, rfl⟩
        rcases List.mem_cons.mp hy with e | e
        · exact .inr ⟨i, e⟩
        · exact i1 y e
      | bl z => exact absurd ha.1 (by simp [inD1])
      | str z => exact absurd ha.1 (by simp [inD1])
      | lst _ _ => exact absurd ha.1 (by simp [inD1])
      | tup _ _ => exact absurd ha.1 (by simp [inD1])
      | scr _ _ => exact absurd ha.1 (by simp [inD1])
theorem ev_count (h1 : EV G ta σ L C E1) (h2 : EV G tb σ L C E2) : EV G (tBM G.K "list" (rCntN G.K) ta (tCons tb tNil)) σ L C (cnt2 E1 E2) := by
  intro m F L' H Q s w q b
  refine h1 m F L' H _ s w (fun x m1 v H1 e1 w1 => ?_) b.fst
  have b1 := b.snd e1
  cases x with
  | list ds =>
    have b1' : Bk G C F L' (bd E2 (fun y => of (countD (.list ds) y)) m1) := b1
    obtain ⟨B1, wb1⟩ := id w1
    obtain ⟨p, vs, rfl, hl, ha⟩ := Dt.lst_inv (wb1.ft _ (.head _))
    refine ⟨.inl ⟨rfl, vs, hl.sq⟩, h2 m1 F ((.ref p, .list ds) :: L') H1 _ (fun f hf => .tail _ (s f hf)) w1 (fun y m2 u H2 e2 w2 => ?_) (b1'.fst.mono fun f hf => .tail _ hf)⟩
    have b2 := b1'.snd e2
    cases y with
    | int k =>
      have ec : countD (.list ds) (.int k) = if ds.all inD1 = true then some (.int (ds.countP (isI k) : Nat)) else none := rfl
      by_cases hc : ds.all inD1 = true
      · rw [if_pos hc] at ec
        obtain ⟨B2, wb2⟩ := id w2
        obtain ⟨p', vs', e', hl', ha'⟩ := Dt.lst_inv (wb2.ft _ (.tail _ (.head _)))
        cases e'
        obtain ⟨c1, c2⟩ := cnt_dt (k := k) ha' hc
        refine ⟨p, vs', k, rfl, by rw [show u = V.int k from (wb2.ft _ (.head _)).int_inv], hl'.sq, c1, ?_⟩
        rw [c2]
        refine q (.int (ds.countP (isI k) : Nat)) m2 _ H2 ?_ ((w2.fact fun _ _ => .int (ds.countP (isI k) : Nat)).sub fun f hf => ?_)
        · show bd E1 _ m = _
          rw [bd_ok e1]
          show bd E2 _ m1 = _
          rw [bd_ok e2, ec]; rfl
        · rcases List.mem_cons.mp hf with e | e
          · rw [e]; exact .head _
          · exact .tail _ (.tail _ (.tail _ e))
      · rw [if_neg hc] at ec
        rw [ec] at b2
        exact absurd rfl b2.2
    | _ => exact absurd rfl b2.2
  | _ => exact absurd rfl b1.2
theorem ev_minA {tA : TA} {Es : SM μ (List D)} (h : AV G tA σ L C Es) : EV G (tMinA G.K tA) σ L C (opL minAD Es) := by
  intro m F L' H Q s w q b
  refine h m F L' H _ s w (fun xs m1 vs H1 L2 e1 s2 i2 w1 => ?_) b.fst
  have b1 := b.snd e1
  have go : ∀ z, minAD xs = some z → ∃ (a : Addr) (ns : List Int) (k : Int), vs = [.ref a] ∧ SqL G.K H1 a (ns.map V.int) ∧ minA ns = some k ∧ z = .int k := fun z hz => by
    unfold minAD at hz
    split at hz
    · next ds =>
      split at hz
      · next ns hn =>
        have := intsOf_map hn
        subst this
        cases ek : minA ns with
        | none => rw [ek] at hz; cases hz
        | some k =>
          rw [ek] at hz
          cases hz
          obtain ⟨v1, rfl, hv1⟩ := i2.one
          obtain ⟨B1, wb1⟩ := id w1
          obtain ⟨p, us, rfl, hl, ha⟩ := Dt.lst_inv (wb1.ft _ hv1)
          rw [ha.ints_inv] at hl
          exact ⟨p, ns, k, rfl, hl.sq, ek, rfl⟩
      · cases hz
    · cases hz
  cases ef : minAD xs with
  | none => rw [ef] at b1; exact absurd rfl b1.2
  | some z =>
    obtain ⟨a, ns, k, rfl, hs, hk, rfl⟩ := go z ef
    refine ⟨a, ns, k, rfl, hs, hk, q (.int k) m1 _ H1 ?_ ((w1.fact fun _ _ => .int k).sub fun f hf => ?_)⟩
    · show bd Es _ m = _
      rw [bd_ok e1, ef]; rfl
    · rcases List.mem_cons.mp hf with e | e
      · rw [e]; exact .head _
      · exact .tail _ (s2 _ e)
theorem enL_get : ∀ {ds : List D} {k : Int} {i : Nat} {z : D}, (enL k ds)[i]? = some z → ∃ d, ds[i]? = some d ∧ z = .tuple [.int (k + (i : Nat)), d]
  | [], k, i, z, h => by cases h
  | d :: ds, k, 0, z, h => by
    refine ⟨d, rfl, ?_⟩
    have : PyData.tuple [.int k, d] = z := by simpa [enL] using h
    rw [← this]; simp
  | d :: ds, k, i + 1, z, h => by
    obtain ⟨d', h1, h2⟩ := enL_get (ds := ds) (k := k + 1) (i := i) (z := z) (by simpa [enL] using h)
    refine ⟨d', by simpa using h1, ?_⟩
    rw [h2]
    have : k + 1 + (i : Int) = k + ((i + 1 : Nat) : Int) := by omega
    rw [this]
theorem enL_len : ∀ (ds : List D) (k : Int), (enL k ds).length = ds.length
  | [], _ => rfl
  | d :: ds, k => by rw [enL, List.length_cons, List.length_cons, enL_len ds (k + 1)]
theorem itok_enS {a : Addr} {k : Int} {ds : List D} {L0 : List (V × D)} (h : (V.ref a, PyData.list ds) ∈ L0) : ItOk G (IteS G.K a k) (enL k ds) L0 := by
  intro L3 C3 H3 s3 w3 i
  obtain ⟨B3, wb3⟩ := id w3
  obtain ⟨p', vs', e', hl', ha'⟩ := Dt.lst_inv (wb3.ft _ (s3 _ h))
  cases e'
  have el := ha'.len
  refine ⟨fun z hz => ?_, fun hi => ?_⟩
  · obtain ⟨d, hd, rfl⟩ := enL_get hz
    obtain ⟨u, hu, hdu⟩ := ha'.get hd
    refine ⟨⟨vs', u, hl'.sq, hu⟩, fun v H' y => ?_⟩
    obtain ⟨T, x, rfl, hT, rfl, hy⟩ := y
    have := hy vs' hl'.sq
    rw [hu] at this
    cases this
    exact Wb.tupD wb3 hT (.cons (.int _) (.cons hdu .nil))
  · rw [enL_len] at hi
    exact ⟨vs', hl'.sq, by omega⟩
theorem iv_enumS {tA tk : TA} {Es Ek : SM μ (List D)} (h : AV G tA σ L C Es) (hk : AV G tk σ L C Ek) : IV G (iEnumS G.K tA tk) σ L C (itES Es Ek) := by
  intro m F L' H R s w q b
  refine h m F L' H _ s w (fun ds m1 vs H1 L2 e1 s2 i2 w1 => ?_) b.fst
  have b1 := b.snd e1
  refine hk m1 F L2 H1 _ (fun f hf => s2 f (s f hf)) w1 (fun ks m2 zs H2 L3 e2 s3 i3 w2 => ?_) (b1.fst.mono s2)
  have b2 := b1.snd e2
  cases er : enSD ds ks with
  | none => rw [er] at b2; exact absurd rfl b2.2
  | some out =>
    have hd : ∃ xs k, ds = [.list xs] ∧ ks = [.int k] ∧ (-(2 ^ 62) ≤ k ∧ k < 2 ^ 62) ∧ out = enL k xs := by
      unfold enSD at er
      split at er
      · split at er
        · next c => cases er; exact ⟨_, _, rfl, rfl, c, rfl⟩
        · cases er
      · cases er
    obtain ⟨xs, k, rfl, rfl, hb, rfl⟩ := hd
    obtain ⟨v1, rfl, hv1⟩ := i2.one
    obtain ⟨v2, rfl, hv2⟩ := i3.one
    obtain ⟨B2, wb2⟩ := id w2
    obtain ⟨p, us, rfl, hl, ha⟩ := Dt.lst_inv (wb2.ft _ (s3 _ hv1))
    refine ⟨p, us, k, rfl, by rw [show v2 = V.int k from (wb2.ft _ hv2).int_inv], hb, hl.sq, q (enL k xs) m2 _ H2 L3 ?_ (fun f hf => s3 f (s2 f hf)) w2 (itok_enS (s3 _ hv1))⟩
    show bd Es _ m = _
    rw [bd_ok e1, bd_ok e2, er]; rfl
theorem itok_en {a : Addr} {ds : List D} {L0 : List (V × D)} (h : (V.ref a, PyData.list ds) ∈ L0) : ItOk G (Ite G.K a) (enL 0 ds) L0 := by
  intro L3 C3 H3 s3 w3 i
  obtain ⟨B3, wb3⟩ := id w3
  obtain ⟨p', vs', e', hl', ha'⟩ := Dt.lst_inv (wb3.ft _ (s3 _ h))
  cases e'
  have el := ha'.len
  refine ⟨fun z hz => ?_, fun hi => ?_⟩
  · obtain ⟨d, hd, rfl⟩ := enL_get hz
    obtain ⟨u, hu, hdu⟩ := ha'.get hd
    refine ⟨⟨vs', u, hl'.sq, hu⟩, fun v H' y => ?_⟩
    obtain ⟨T, x, rfl, hT, rfl, hy⟩ := y
    have := hy vs' hl'.sq
    rw [hu] at this
    cases this
    have e0 : (0 : Int) + (i : Nat) = (i : Nat) := by omega
    rw [e0]
    exact Wb.tupD wb3 hT (.cons (.int _) (.cons hdu .nil))
  · rw [enL_len] at hi
    exact ⟨vs', hl'.sq, by omega⟩
theorem iv_enum {tA : TA} {Es : SM μ (List D)} (h : AV G tA σ L C Es) : IV G (iEnum G.K tA) σ L C (itE Es) := by
  intro m F L' H R s w q b
  refine h m F L' H _ s w (fun ds m1 vs H1 L2 e1 s2 i2 w1 => ?_) b.fst
  have b1 := b.snd e1
  cases er : enD ds with
  | none => rw [er] at b1; exact absurd rfl b1.2
  | some out =>
    have hd : ∃ xs, ds = [.list xs] ∧ out = enL 0 xs := by
      unfold enD at er
      split at er
      · cases er; exact ⟨_, rfl, rfl⟩
      · cases er
    obtain ⟨xs, rfl, rfl⟩ := hd
    obtain ⟨v1, rfl, hv1⟩ := i2.one
    obtain ⟨B1, wb1⟩ := id w1
    obtain ⟨p, us, rfl, hl, ha⟩ := Dt.lst_inv (wb1.ft _ hv1)
    refine ⟨p, us, rfl, hl.sq, q (enL 0 xs) m1 _ H1 L2 ?_ s2 w1 (itok_en hv1)⟩
    show bd Es _ m = _
    rw [bd_ok e1, er]; rfl
end
/-! ### fresh lists: a reading whose list is new, and one's own -/
section
open SM
variable {μ : Type} (G : Gx)
def FV (te : TE) (σ : St) (L : List (V × D)) (C : μ → List Root) (E : SM μ D) : Prop :=
  ∀ m F L' H Q, (∀ f ∈ L, f ∈ L') → Wd G.K G.O L' (C m ++ F) H →
    (∀ x m' p H', E m = .ok x m' → p ∉ G.O.fp → Wd G.K G.O L' (C m' ++ (rootL G.K p x :: F)) H' → Q (.ref p) H') → Bk G C F L' (E m) → te σ H Q
end
section
open SM
variable {X : Cx} {μ τ τ' ρ : Type} {G : Gx} {σ : St} {L : List (V × D)} {C Cp : μ → List Root} {te ta tb tc : TE} {tt tu : TT} {t u : TS} {E E1 E2 E3 : SM μ D} {T T1 T2 : SM μ Bool} {Jn : Shp μ τ} {Jl : Shp μ ρ} {i j : Nat} {v : V} {x d : D} {l : Addr} {ps : List Addr}
theorem Wb.rootD {K : PySem.W.Frag} {O : Og} {B : Addr → Prop} {L : List (V × D)} {C : List Root} {H : Hp} {p : Addr} (w : Wb K O B L C H) (hp : H p = Option.none) {vs : List V} {ds : List D} (h : DtAll K B H vs ds) : Wd K O L (rootL K p (.list ds) :: C) (upd H p (.lst vs)) := by
  have s : Same H (upd H p (.lst vs)) := fun b u q => by rw [upd_ne (ne_of_none q hp)]; exact q
  have nb : ¬ B p := fun b => by
    obtain ⟨o, ho⟩ := w.bo p b
    rw [ho] at hp; cases hp
  exact ⟨B, w.newr (x := .list ds) s (fun _ b => b) (fun _ b => .inl b) hp nb ⟨ds, vs, rfl, upd_same, Dt.monoAll (fun q o b e => ⟨b, s q o e⟩) _ _ h⟩⟩
/-- from a reading that frees a list to one that keeps it frozen -/
theorem FV.ev (h : FV G te σ L C E) : EV G te σ L C E := by
  intro m F L' H Q s w q b
  refine h m F L' H Q s w (fun x m' p H' e hp w' => q x m' (.ref p) H' e ?_) b
  exact ((w'.perm List.perm_middle).freeze hp)
theorem fv_lst {ta : TA} {Es : SM μ (List D)} (h : AV G ta σ L C Es) : FV G (tLst ta) σ L C (opL lstD Es) := by
  intro m F L' H Q s w q b
  refine h m F L' H _ s w (fun xs m1 vs H1 L2 e1 s2 i2 w1 => ?_) b.fst
  have b1 := b.snd e1
  unfold lstD at b1
  split at b1
  · next c =>
    refine ⟨by rw [i2.len]; exact c, fun p hp => ?_⟩
    obtain ⟨B, wb⟩ := id w1
    have w2 : Wd G.K G.O L2 (rootL G.K p (.list xs) :: (C m1 ++ F)) (upd H1 p (.lst vs)) := w1.root hp i2
    refine q (.list xs) m1 p _ ?_ (wb.nofp hp) ((w2.perm List.perm_middle.symm).sub fun f hf => s2 f hf)
    show bd Es _ m = _
    rw [bd_ok e1]
    show of (lstD xs) m1 = _
    unfold lstD
    rw [if_pos c]; rfl
  · exact absurd rfl b1.2
/-- f of a list read: list(x) -/
theorem fv_list {ta : TA} {Es : SM μ (List D)} (h : AV G ta σ L C Es) : FV G (tCB (fun xs H Q => ∃ p ys, xs = [.ref p] ∧ (SqL G.K H p ys ∨ SqT G.K H p ys) ∧ ∀ l, H l = none → Q (.ref l) (upd H l (.lst ys))) ta) σ L C (opL listD Es) := by
  intro m F L' H Q s w q b
  refine h m F L' H _ s w (fun xs m1 vs H1 L2 e1 s2 i2 w1 => ?_) b.fst
  have b1 := b.snd e1
  have go : ∀ z, listD xs = some z → ∃ B p ys ds, Wb G.K G.O B L2 (C m1 ++ F) H1 ∧ vs = [.ref p] ∧ (SqL G.K H1 p ys ∨ SqT G.K H1 p ys) ∧ z = .list ds ∧ DtAll G.K B H1 ys ds := fun z hz => by
    obtain ⟨B, wb⟩ := id w1
    unfold listD at hz
    split at hz
    · cases hz
      obtain ⟨x, rfl, hx⟩ := i2.one
      obtain ⟨p, vs, rfl, hl, ha⟩ := Dt.lst_inv (wb.ft _ hx)
      exact ⟨B, p, vs, _, wb, rfl, .inl hl.sq, rfl, ha⟩
    · cases hz
      obtain ⟨x, rfl, hx⟩ := i2.one
      obtain ⟨p, vs, rfl, hl, ha⟩ := Dt.tup_inv (wb.ft _ hx)
      exact ⟨B, p, vs, _, wb, rfl, .inr hl.sq, rfl, ha⟩
    · cases hz
  cases ef : listD xs with
  | none => rw [ef] at b1; exact absurd rfl b1.2
  | some z =>
    obtain ⟨B, p, ys, ds, wb, rfl, hs, rfl, hd⟩ := go z ef
    refine ⟨p, ys, rfl, hs, fun r hr => q (.list ds) m1 r _ ?_ (wb.nofp hr) (((wb.rootD hr hd).perm List.perm_middle.symm).sub fun f hf => s2 f hf)⟩
    show bd Es _ m = _
    rw [bd_ok e1, ef]; rfl
def repD : D → D → Option D
  | .list xs, .int k => if -(2 ^ 63) ≤ k ∧ k < 2 ^ 63 ∧ xs.length * k.toNat ≤ sizeLine then some (.list (List.replicate k.toNat xs).flatten) else none
  | _, _ => none
/-- xs * n -/
theorem fv_rep (h1 : EV G ta σ L C E1) (h2 : EV G tb σ L C E2) : FV G (tOp rMulU ta tb) σ L C (op2 repD E1 E2) := by
  intro m F L' H Q s w q b
  refine h1 m F L' H _ s w (fun x m1 v H1 e1 w1 => ?_) b.fst
  have b1 := b.snd e1
  refine h2 m1 F ((v, x) :: L') H1 _ (fun f hf => .tail _ (s f hf)) w1 (fun y m2 u H2 e2 w2 => ?_) (b1.fst.mono fun f hf => .tail _ hf)
  have b2 := b1.snd e2
  cases x with
  | list xs =>
    cases y with
    | int k =>
      have er : repD (.list xs) (.int k) = if -(2 ^ 63) ≤ k ∧ k < 2 ^ 63 ∧ xs.length * k.toNat ≤ sizeLine then some (.list (List.replicate k.toNat xs).flatten) else none := rfl
      by_cases c : -(2 ^ 63) ≤ k ∧ k < 2 ^ 63 ∧ xs.length * k.toNat ≤ sizeLine
      · rw [if_pos c] at er
        obtain ⟨B, wb⟩ := id w2
        obtain ⟨p, vs, rfl, hl, ha⟩ := Dt.lst_inv (wb.ft _ (.tail _ (.head _)))
        have hu : u = .int k := (wb.ft _ (.head _)).int_inv
        refine .inr ⟨p, k, vs, rfl, hu, hl.2, c.1, c.2.1, by rw [ha.len]; exact c.2.2, fun r hr => q (.list (List.replicate k.toNat xs).flatten) m2 r _ ?_ (wb.nofp hr) (((wb.rootD hr (DtAll.flat _ ha)).perm List.perm_middle.symm).sub fun f hf => .tail _ (.tail _ hf))⟩
        show bd E1 _ m = _
        rw [bd_ok e1, bd_ok e2, er]; rfl
      · rw [if_neg c] at er
        rw [er] at b2
        exact absurd rfl b2.2
    | _ => exact absurd rfl b2.2
  | _ => exact absurd rfl b2.2
theorem fv_lrg2 (h1 : EV G ta σ L C E1) (h2 : EV G tb σ L C E2) : FV G (tLstRg (tRg2 ta tb)) σ L C (opL lrg (ac E1 (ac E2 a0))) := by
  intro m F L' H Q s w q b
  refine h1 m F L' H _ s w (fun x m1 v H1 e1 w1 => ?_) b.fst.fst
  have b1 := b.fst.snd e1
  refine h2 m1 F ((v, x) :: L') H1 _ (fun f hf => .tail _ (s f hf)) w1 (fun y m2 u H2 e2 w2 => ?_) (b1.fst.fst.mono fun f hf => .tail _ hf)
  have er : ac E1 (ac E2 a0) m = .ok [x, y] m2 := by
    show bd E1 _ m = _
    rw [bd_ok e1]
    have e3 : ac E2 a0 m1 = .ok [y] m2 := by
      show bd E2 _ m1 = _
      rw [bd_ok e2]; rfl
    rw [bd_ok e3]; rfl
  have b2 := b.snd er
  obtain ⟨B, wb⟩ := w2
  cases x with
  | int n =>
    cases y with
    | int k =>
      simp only [lrg] at b2
      split at b2
      · next c =>
        refine ⟨n, k, (wb.ft _ (.tail _ (.head _))).int_inv, (wb.ft _ (.head _)).int_inv, c, fun r hr => q (rgD n k) m2 r _ ?_ (wb.nofp hr) ?_⟩
        · show bd (ac E1 (ac E2 a0)) _ m = _
          rw [bd_ok er]
          simp only [lrg]; rw [if_pos c]; rfl
        · exact ((wb.rootD hr (rg_dt n (List.range (k - n).toNat))).perm List.perm_middle.symm).sub fun f hf => .tail _ (.tail _ hf)
      · exact absurd rfl b2.2
    | _ => exact absurd rfl b2.2
  | _ => exact absurd rfl b2.2
/-- f(..), f a def that makes a list -/
theorem fv_call {ta : TA} {Es : SM μ (List D)} {mf : List D → SM Unit D} {n : Nat} (hn : ∀ ds, mf ds () ≠ .bad → ds.length = n) (h : AV G ta σ L C Es) : FV G (tCall (SpN G.K n mf) [] E0 ta) σ L C (cP mf Es) := by
  intro m F L' H Q s w q b
  refine h m F L' H _ s w (fun xs m1 vs H1 L2 e1 s2 i2 w1 => ?_) b.fst
  have b1 := b.snd e1
  have er : cP mf Es m = px (mf xs) m1 := bd_ok e1
  rw [List.append_nil]
  obtain ⟨x, ex⟩ := px_nb b1.2
  obtain ⟨B, wb⟩ := w1
  refine ⟨by rw [i2.len]; exact hn xs (by rw [ex]; intro z; cases z), B, xs, x, wb.bo, i2.dt wb.ft, ex, fun a H' B' sm h1 h2 hna hnB hr => ?_⟩
  have w2 : Wd G.K G.O L2 (rootL G.K a x :: (C m1 ++ F)) H' := ⟨B', wb.newr sm h1 h2 hna hnB hr⟩
  exact q x m1 a H' (er.trans (px_ok ex)) (wb.nofp hna) ((w2.perm List.perm_middle.symm).sub fun f hf => s2 f hf)
theorem fv_lcG {wi : TI} {I : SM μ (List D)} {T : D → SM μ Bool} {E : D → SM μ D} {g : TG} {vs : List Nat} (hi : IV G wi σ L C I)
    (ht : ∀ v x m F L' H (Q : St → Hp → Prop), (∀ f ∈ (v, x) :: L, f ∈ L') → Wd G.K G.O L' (C m ++ F) H → T x m ≠ .bad →
      (∀ σ2 L1, (∀ f ∈ L', f ∈ L1) → wipe σ2 vs = wipe σ vs → Wd G.K G.O L1 (C m ++ F) H → TV G tt σ2 L1 C (T x) → EV G te σ2 L1 C (E x) → Q σ2 H) → g v (wipe σ vs) H Q) :
    FV G (tLc wi g tt te vs) σ L C (lc I T E) := by
  intro m F L' H Q s w q bk
  refine hi m F L' H _ s w (fun xs m1 It H1 L1 e1 s1 w1 hit => ?_) bk.fst
  have b1 := bk.snd e1
  have er : lc I T E m = bd (lcS T E xs []) (fun ys => pu (.list ys)) m1 := bd_ok e1
  intro A hA
  refine ⟨fun i n H' => n = xs.length - i ∧ i ≤ xs.length ∧ ∃ m' acc, lcS T E xs [] m1 = lcS T E (xs.drop i) acc m' ∧ Wd G.K G.O L1 (C m' ++ (rootL G.K A (.list acc) :: F)) H', ⟨xs.length, by simp, Nat.zero_le _, m1, [], rfl, w1.acc hA⟩, ?_⟩
  rintro i n H' ⟨rfl, hin, m', acc, ez, wz⟩
  have hI := hit _ _ _ (fun f hf => hf) wz i
  have hAO : A ∉ G.O.fp := by
    obtain ⟨B, wb⟩ := w1
    exact wb.nofp hA
  by_cases hlt : i < xs.length
  · have hx : xs[i]? = some xs[i] := List.getElem?_eq_getElem hlt
    obtain ⟨go, hy⟩ := hI.1 _ hx
    rw [forS_step hx] at ez
    refine .inr ⟨go, fun H'' => ∃ m' acc, lcS T E xs [] m1 = lcS T E (xs.drop (i + 1)) acc m' ∧ Wd G.K G.O L1 (C m' ++ (rootL G.K A (.list acc) :: F)) H'', fun H'' hN => ⟨xs.length - (i + 1), by omega, rfl, hlt, hN⟩, fun v H2 y => ?_⟩
    have w2 := hy v H2 y
    have b2 : Bk G C F L' (lcS T E (xs[i] :: xs.drop (i + 1)) acc m') := by
      have := b1.fst
      rw [ez] at this
      exact this
    have b3 : Bk G C F L' (T xs[i] m') := (show Bk G C F L' (bd (T xs[i]) _ m') from b2).fst
    have toF : ∀ {α : Type} {acc : List D} {r : Rs μ α}, Bk G C F L' r → Bk G C (rootL G.K A (.list acc) :: F) L' r := fun {α acc r} b => ⟨fun e m' cls d H' q w => b.1 e m' cls d H' q (w.subC (((List.Sublist.refl _).append (List.sublist_cons_self _ _)).cons₂ _)), b.2⟩
    refine ht v xs[i] m' (rootL G.K A (.list acc) :: F) ((v, xs[i]) :: L1) H2 _ (fun f hf => ?_) w2 b3.2 (fun σ2 L2 sL2 hw w3 hT hE => ⟨hw, ?_⟩)
    · rcases List.mem_cons.mp hf with e | e
      · rw [e]; exact .head _
      · exact .tail _ (s1 f (s f e))
    · refine hT m' (rootL G.K A (.list acc) :: F) L2 H2 _ (fun f hf => hf) w3 (fun c m3 H3 e3 w4 => ?_) ((toF b3).mono fun f hf => sL2 f (.tail _ (s1 f hf)))
      have e4 : lcS T E (xs[i] :: xs.drop (i + 1)) acc m' = (if c then bd (E xs[i]) fun y => if acc.length < sizeLine then lcS T E (xs.drop (i + 1)) (acc ++ [y]) else bad else lcS T E (xs.drop (i + 1)) acc) m3 := bd_ok e3
      have sb : ∀ {C3 : List Root} {H3 : Hp}, Wd G.K G.O L2 C3 H3 → Wd G.K G.O L1 C3 H3 := fun {C3 H3} w => w.sub fun f hf => sL2 f (.tail _ hf)
      cases c with
      | false =>
        rw [if_neg (by decide)]
        exact ⟨m3, acc, ez.trans e4, sb w4⟩
      | true =>
        rw [if_pos rfl]
        have b4 : Bk G C F L' (bd (E xs[i]) (fun y => if acc.length < sizeLine then lcS T E (xs.drop (i + 1)) (acc ++ [y]) else bad) m3) := by
          rw [e4] at b2
          exact b2
        refine hE m3 (rootL G.K A (.list acc) :: F) L2 H3 _ (fun f hf => hf) w4 (fun y m4 u H4 e5 w5 => ?_) ((toF b4.fst).mono fun f hf => sL2 f (.tail _ (s1 f hf)))
        have b5 := b4.snd e5
        by_cases hz : acc.length < sizeLine
        · have w6 := w5.perm List.perm_middle
          obtain ⟨B, wb⟩ := w6
          obtain ⟨ds, us, e6, hA4, hda⟩ := wb.rt _ (.head _)
          cases e6
          refine ⟨us, hA4, by rw [hda.len]; exact hz, m4, acc ++ [y], ez.trans (e4.trans ?_), ?_⟩
          · show bd (E xs[i]) _ m3 = _
            rw [bd_ok e5, if_pos hz]
          · have w7 : Wd G.K G.O ((u, y) :: L2) (rootL G.K A (.list (acc ++ [y])) :: (C m4 ++ F)) (upd H4 A (.lst (us ++ [u]))) :=
              Wd.put ⟨B, wb⟩ fun B' f hr => by
                obtain ⟨ds', us', e6, hA5, hda5⟩ := hr
                cases e6
                rw [hA4] at hA5
                cases hA5
                exact hda5.app (.cons (f _ (.head _)) .nil)
            exact (w7.perm List.perm_middle.symm).sub fun f hf => .tail _ (sL2 f (.tail _ hf))
        · rw [if_neg hz] at b5
          exact absurd rfl b5.2
  · have e : i = xs.length := by omega
    subst e
    rw [List.drop_length] at ez
    refine .inl ⟨hI.2 (Nat.le_refl _), ?_⟩
    refine q (.list acc) m' A H' ?_ hAO (wz.sub fun f hf => s1 f hf)
    rw [er]
    show bd (lcS T E xs []) _ m1 = _
    rw [bd_ok (show lcS T E xs [] m1 = .ok acc m' from ez)]; rfl
theorem fv_lc1 {wi : TI} {I : SM μ (List D)} {T : D → SM μ Bool} {E : D → SM μ D} {vs : List Nat} {σ2 : V → St} (hi : IV G wi σ L C I) (hσ : ∀ v, (wipe σ vs).set i (some v) = σ2 v) (hw : ∀ v, wipe (σ2 v) vs = wipe σ vs)
    (hT : ∀ v x, TV G tt (σ2 v) ((v, x) :: L) C (T x)) (hE : ∀ v x, EV G te (σ2 v) ((v, x) :: L) C (E x)) : FV G (tLc wi (gName i) tt te vs) σ L C (lc I T E) :=
  fv_lcG hi fun v x m F L' H Q s w _ q => by
    show Q ((wipe σ vs).set i (some v)) H
    rw [hσ]
    exact q (σ2 v) L' (fun f hf => hf) (hw v) w ((hT v x).sub s) ((hE v x).sub s)
theorem fv_lc2 {wi : TI} {I : SM μ (List D)} {T : D → D → SM μ Bool} {E : D → D → SM μ D} {vs : List Nat} {σ2 : V → V → St} (hi : IV G wi σ L C I) (hσ : ∀ v w, ((wipe σ vs).set i (some v)).set j (some w) = σ2 v w) (hw : ∀ v w, wipe (σ2 v w) vs = wipe σ vs)
    (hT : ∀ v w x y, TV G tt (σ2 v w) ((v, x) :: (w, y) :: L) C (T x y)) (hE : ∀ v w x y, EV G te (σ2 v w) ((v, x) :: (w, y) :: L) C (E x y)) : FV G (tLc wi (gTup G.K 2 (gCons (gName i) (gCons (gName j) gNil))) tt te vs) σ L C (lc I (fun z => unp2 z T) (fun z => unp2 z E)) :=
  fv_lcG hi fun v x m F L' H Q s w b q => by
    unfold unp2 at b
    split at b
    · next a c =>
      obtain ⟨p, us, rfl, hl, hlen, w2⟩ := dt_parts w (s _ (.head _))
      match us, hlen with
      | [v1, v2], _ =>
        refine ⟨p, [v1, v2], rfl, hl, rfl, v1, [v2], rfl, v2, [], rfl, rfl, ?_⟩
        show Q (((wipe σ vs).set i (some v1)).set j (some v2)) H
        rw [hσ]
        have s2 : ∀ f ∈ (v1, a) :: (v2, c) :: L, f ∈ [v1, v2].zip [a, c] ++ L' := fun f hf => by
          rcases List.mem_cons.mp hf with e | hf
          · rw [e]; exact .head _
          · rcases List.mem_cons.mp hf with e | hf
            · rw [e]; exact .tail _ (.head _)
            · exact .tail _ (.tail _ (s f (.tail _ hf)))
        exact q (σ2 v1 v2) _ (fun f hf => .tail _ (.tail _ hf)) (hw v1 v2) w2 ((hT v1 v2 a c).sub s2) ((hE v1 v2 a c).sub s2)
    · exact absurd rfl b
theorem ev_lc3 {wi : TI} {I : SM μ (List D)} {T : D → D → D → SM μ Bool} {E : D → D → D → SM μ D} {vs : List Nat} {i j l : Nat} {σ2 : V → V → V → St} (hi : IV G wi σ L C I) (hσ : ∀ v w z, (((wipe σ vs).set i (some v)).set j (some w)).set l (some z) = σ2 v w z) (hw : ∀ v w z, wipe (σ2 v w z) vs = wipe σ vs)
    (hT : ∀ v w z x y u, TV G tt (σ2 v w z) ((v, x) :: (w, y) :: (z, u) :: L) C (T x y u)) (hE : ∀ v w z x y u, EV G te (σ2 v w z) ((v, x) :: (w, y) :: (z, u) :: L) C (E x y u)) : EV G (tLc wi (gTup G.K 3 (gCons (gName i) (gCons (gName j) (gCons (gName l) gNil)))) tt te vs) σ L C (lc I (fun z => unp3 z T) (fun z => unp3 z E)) :=
  ev_lcG hi fun v x m F L' H Q s w b q => by
    unfold unp3 at b
    split at b
    · next a c e =>
      obtain ⟨p, us, rfl, hl, hlen, w2⟩ := dt_parts w (s _ (.head _))
      match us, hlen with
      | [v1, v2, v3], _ =>
        refine ⟨p, [v1, v2, v3], rfl, hl, rfl, v1, [v2, v3], rfl, v2, [v3], rfl, v3, [], rfl, rfl, ?_⟩
        show Q ((((wipe σ vs).set i (some v1)).set j (some v2)).set l (some v3)) H
        rw [hσ]
        have s2 : ∀ f ∈ (v1, a) :: (v2, c) :: (v3, e) :: L, f ∈ [v1, v2, v3].zip [a, c, e] ++ L' := fun f hf => by
          rcases List.mem_cons.mp hf with e | hf
          · rw [e]; exact .head _
          · rcases List.mem_cons.mp hf with e | hf
            · rw [e]; exact .tail _ (.head _)
            · rcases List.mem_cons.mp hf with e | hf
              · rw [e]; exact .tail _ (.tail _ (.head _))
              · exact .tail _ (.tail _ (.tail _ (s f (.tail _ hf))))
        exact q (σ2 v1 v2 v3) _ (fun f hf => .tail _ (.tail _ (.tail _ hf))) (hw v1 v2 v3) w2 ((hT v1 v2 v3 a c e).sub s2) ((hE v1 v2 v3 a c e).sub s2)
    · exact absurd rfl b
theorem fv_lc3 {wi : TI} {I : SM μ (List D)} {T : D → D → D → SM μ Bool} {E : D → D → D → SM μ D} {vs : List Nat} {i j l : Nat} {σ2 : V → V → V → St} (hi : IV G wi σ L C I) (hσ : ∀ v w z, (((wipe σ vs).set i (some v)).set j (some w)).set l (some z) = σ2 v w z) (hw : ∀ v w z, wipe (σ2 v w z) vs = wipe σ vs)
    (hT : ∀ v w z x y u, TV G tt (σ2 v w z) ((v, x) :: (w, y) :: (z, u) :: L) C (T x y u)) (hE : ∀ v w z x y u, EV G te (σ2 v w z) ((v, x) :: (w, y) :: (z, u) :: L) C (E x y u)) : FV G (tLc wi (gTup G.K 3 (gCons (gName i) (gCons (gName j) (gCons (gName l) gNil)))) tt te vs) σ L C (lc I (fun z => unp3 z T) (fun z => unp3 z E)) :=
  fv_lcG hi fun v x m F L' H Q s w b q => by
    unfold unp3 at b
    split at b
    · next a c e =>
      obtain ⟨p, us, rfl, hl, hlen, w2⟩ := dt_parts w (s _ (.head _))
      match us, hlen with
      | [v1, v2, v3], _ =>
        refine ⟨p, [v1, v2, v3], rfl, hl, rfl, v1, [v2, v3], rfl, v2, [v3], rfl, v3, [], rfl, rfl, ?_⟩
        show Q ((((wipe σ vs).set i (some v1)).set j (some v2)).set l (some v3)) H
        rw [hσ]
        have s2 : ∀ f ∈ (v1, a) :: (v2, c) :: (v3, e) :: L, f ∈ [v1, v2, v3].zip [a, c, e] ++ L' := fun f hf => by
          rcases List.mem_cons.mp hf with e | hf
          · rw [e]; exact .head _
          · rcases List.mem_cons.mp hf with e | hf
            · rw [e]; exact .tail _ (.head _)
            · rcases List.mem_cons.mp hf with e | hf
              · rw [e]; exact .tail _ (.tail _ (.head _))
              · exact .tail _ (.tail _ (.tail _ (s f (.tail _ hf))))
        exact q (σ2 v1 v2 v3) _ (fun f hf => .tail _ (.tail _ (.tail _ hf))) (hw v1 v2 v3) w2 ((hT v1 v2 v3 a c e).sub s2) ((hE v1 v2 v3 a c e).sub s2)
    · exact absurd rfl b

/-- x = e, e a fresh list: a root -/
theorem sv_newF {k : D → SM μ (Fl τ ρ)} {σ' : V → St} {C' : Addr → D → μ → List Root} (hc : Sub Cp C) (h : FV G te σ L C E) (hσ : ∀ v, σ.set i (some v) = σ' v) (hC : ∀ p d m, (rootL G.K p d :: C m).Perm (C' p d m))
    (hk : ∀ p d, p ∉ G.O.fp → SV G Cp u (σ' (.ref p)) L (C' p d) (k d) Jn Jl) : SV G Cp (tSeq (tAsg te (gName i)) u) σ L C (bd E k) Jn Jl := by
  refine sv_bd hc fun m F L' H d s w q b => ?_
  refine h m F L' H _ s w (fun x m1 p H1 e1 hp w1 => ?_) b
  show u d (σ.set i (some (.ref p))) _
  rw [hσ]
  have w3 : Wd G.K G.O L' (C' p x m1 ++ F) H1 := (w1.perm List.perm_middle).perm ((hC p x m1).append_right F)
  exact q x m1 (σ' (.ref p)) [] (C' p x) H1 e1 w3 (hk p x hp)
/-- return of a fresh list -/
theorem nv_retF {E : SM Unit D} (h : FV G te σ L (fun _ => []) E) : NV G (tSeq (tRet te) u) σ L (bd E fun x => pu (.rt x)) := by
  intro m F L' H d s w q b
  refine h m F L' H _ s w (fun x m1 p H1 e1 hp w1 => ?_) b.fst
  refine q x m1 p H1 ?_ hp w1
  rw [bd_ok e1]; rfl
/-- x[i] = e: another row -/
theorem Rws.setr {K : PySem.W.Frag} {B : Addr → Prop} {H H' : Hp} (k : Kp B H B H') : ∀ {ps : List Addr} {rs : List D} {i : Nat} {p : Addr} {vs : List V} {ds : List D}, (∀ q ∈ ps, H' q = H q) → H' p = some (.lst vs) → DtAll K B H' vs ds → Rws K B H ps rs → Rws K B H' (ps.set i p) (rs.set i (.list ds))
  | _, _, i, p, _, _, _, _, _, .nil => .nil
  | _, _, 0, p, vs, ds, hq, hp, hd, .cons h d r => .cons hp hd (r.mono k fun q hq' => hq q (.tail _ hq'))
  | p0 :: _, _, i + 1, p, vs, ds, hq, hp, hd, .cons h d r => .cons (by rw [hq p0 (.head _)]; exact h) (Dt.monoAll k _ _ d) (Rws.setr k (fun q hq' => hq q (.tail _ hq')) hp hd r)
theorem set_nodup : ∀ {l : List Addr} {i : Nat} {p : Addr}, l.Nodup → p ∉ l → (l.set i p).Nodup
  | [], _, _, h, _ => h
  | a :: l, 0, p, h, hp => List.nodup_cons.mpr ⟨fun z => hp (.tail _ z), (List.nodup_cons.mp h).2⟩
  | a :: l, i + 1, p, h, hp => by
    have h2 := List.nodup_cons.mp h
    refine List.nodup_cons.mpr ⟨fun z => ?_, set_nodup (i := i) h2.2 fun z => hp (.tail _ z)⟩
    rcases List.mem_or_eq_of_mem_set z with e | e
    · exact h2.1 e
    · exact hp (by rw [e]; exact .head _)
theorem sv_rowset {k : D → SM μ (Fl τ ρ)} {Z : μ → List Root} {C' : List Addr → D → μ → List Root} (hc : Sub Cp C) (ho : ∀ q ∈ ps, q ∉ G.O.fp) (hv : σ[i]? = some (some (.ref l))) (h1 : FV G ta σ L C E1) (h2 : EV G tb σ L C E2) (hC : ∀ m, (C m).Perm (rootLL G.K l ps d :: Z m)) (hC' : ∀ ps' d' m, (rootLL G.K l ps' d' :: Z m).Perm (C' ps' d' m))
    (hk : ∀ ps' d', (∀ q ∈ ps', q ∉ G.O.fp) → SV G Cp u σ L (C' ps' d') (k d') Jn Jl) : SV G Cp (tSeq (tAsg ta (gSub (tVar i) tb rSetL)) u) σ L C (bd (bd E1 fun y => bd E2 fun x => of (setD d x y)) k) Jn Jl := by
  refine sv_bd hc fun m F L' H e s w q b => ?_
  refine h1 m F L' H _ s w (fun y m1 p H1 e1 hp w1 => ?_) b.fst
  have b1 := b.snd e1
  refine ⟨.ref l, hv, h2 m1 (rootL G.K p y :: F) _ H1 _ s w1 (fun x m2 v H2 e2 w2 => ?_) (b1.fst.frm (List.sublist_cons_self _ _))⟩
  have b2 := b1.snd e2
  have w2' : Wd G.K G.O ((v, x) :: L') (rootL G.K p y :: rootLL G.K l ps d :: (Z m2 ++ F)) H2 :=
    (w2.perm (List.perm_middle)).perm (List.Perm.cons _ ((hC m2).append_right F))
  obtain ⟨B, wb⟩ := w2'
  obtain ⟨ys, us, rfl, hpu, hus⟩ := wb.rt _ (.head _)
  obtain ⟨rs, rfl, hl, hd⟩ := wb.rt _ (.tail _ (.head _))
  cases x with
  | int n =>
    have hset : setD (.list rs) (.int n) (.list ys) = (match ixN rs.length n with | some j => some (.list (rs.set j (.list ys))) | none => none) := rfl
    cases ea : ixN rs.length n with
    | none =>
      rw [hset, ea] at b2
      exact absurd rfl b2.2
    | some c =>
      rw [ea] at hset
      refine ⟨l, ps.map V.ref, n, c, rfl, (wb.ft _ (.head _)).int_inv, hl, by rw [List.length_map, hd.len]; exact ea, ?_⟩
      have hnd : (p :: ((l :: ps) ++ fps (Z m2 ++ F) H2)).Nodup := by
        have := wb.nd
        rw [fps_cons, fps_cons] at this
        exact this
      have hnp : p ∉ l :: ps := fun z => (List.nodup_cons.mp hnd).1 (List.mem_append.mpr (.inl z))
      have hll := (List.nodup_append.mp (List.nodup_cons.mp hnd).2)
      have hl1 : (l :: ps).Nodup := hll.1
      have hpl : p ≠ l := fun z => hnp (by rw [z]; exact .head _)
      have kk : ∀ q, q ≠ l → (upd H2 l (.lst ((ps.map V.ref).set c (.ref p)))) q = H2 q := fun q h => upd_ne h
      -- the old row is let go
      have hsub : ∀ q ∈ l :: ps.set c p, q ∈ p :: l :: ps := fun q hq => by
        rcases List.mem_cons.mp hq with e | e
        · rw [e]; exact .tail _ (.head _)
        · rcases List.mem_or_eq_of_mem_set e with z | z
          · exact .tail _ (.tail _ z)
          · rw [z]; exact .head _
      have kB : Kp B H2 B (upd H2 l (.lst ((ps.map V.ref).set c (.ref p)))) := fun q o bq eq => ⟨bq, by
        rw [upd_ne fun z => wb.nb l (by rw [fps_cons, fps_cons]; exact .tail _ (.head _)) (by rw [← z]; exact bq)]; exact eq⟩
      have w4 : Wb G.K G.O B ((v, .int n) :: L') (rootLL G.K l (ps.set c p) (.list (rs.set c (.list ys))) :: (Z m2 ++ F)) (upd H2 l (.lst ((ps.map V.ref).set c (.ref p)))) := by
        have hfpZ : ∀ q ∈ fps (Z m2 ++ F) H2, q ∉ p :: l :: ps := fun q hq hm => by
          rcases List.mem_cons.mp hm with e | e
          · subst e; exact (List.nodup_cons.mp hnd).1 (List.mem_append.mpr (.inr hq))
          · exact hll.2.2 q e q hq rfl
        have es : fps (Z m2 ++ F) (upd H2 l (.lst ((ps.map V.ref).set c (.ref p)))) = fps (Z m2 ++ F) H2 := fps_same kB (fun c' hc' => wb.rt c' (.tail _ (.tail _ hc'))) fun q hq => kk q fun z => hfpZ q hq (by rw [z]; exact .tail _ (.head _))
        have hin : ∀ q ∈ fps (rootLL G.K l (ps.set c p) (.list (rs.set c (.list ys))) :: (Z m2 ++ F)) (upd H2 l (.lst ((ps.map V.ref).set c (.ref p)))), q ∈ fps (rootL G.K p (.list ys) :: rootLL G.K l ps (.list rs) :: (Z m2 ++ F)) H2 := fun q hq => by
          have hq : q ∈ (l :: ps.set c p) ++ fps (Z m2 ++ F) H2 := by rw [fps_cons, es] at hq; exact hq
          rw [fps_cons, fps_cons]
          show q ∈ p :: ((l :: ps) ++ fps (Z m2 ++ F) H2)
          rcases List.mem_append.mp hq with e | e
          · have := hsub q e
            rcases List.mem_cons.mp this with z | z
            · rw [z]; exact .head _
            · exact .tail _ (List.mem_append.mpr (.inl z))
          · exact .tail _ (List.mem_append.mpr (.inr e))
        refine ⟨wb.lo, wb.hi, ?_, fun q hq => wb.nb q (hin q hq), fun q hq => wb.fr q (hin q hq), fun c' hc' => ?_, fun f hf => Dt.mono kB _ _ (wb.ft f hf), fun q o hq e9 => ?_, fun q hq => ?_, fun q bq => ?_⟩
        · rw [fps_cons, es]
          show ((l :: ps.set c p) ++ fps (Z m2 ++ F) H2).Nodup
          refine List.nodup_append.mpr ⟨?_, hll.2.1, fun a ha b hb z => ?_⟩
          · have h2 := List.nodup_cons.mp hl1
            refine List.nodup_cons.mpr ⟨fun z => ?_, set_nodup h2.2 fun z => hnp (.tail _ z)⟩
            rcases List.mem_or_eq_of_mem_set z with e | e
            · exact h2.1 e
            · exact hpl e.symm
          · subst z
            exact hfpZ a hb (hsub a ha)
        · rcases List.mem_cons.mp hc' with e9 | e9
          · subst e9
            refine ⟨_, rfl, ?_, ?_⟩
            · rw [upd_same, List.map_set]
            · refine Rws.setr kB (fun q hq => kk q fun z => (List.nodup_cons.mp hl1).1 (by rw [← z]; exact hq)) (by rw [kk p hpl]; exact hpu) (Dt.monoAll kB _ _ hus) hd
          · refine c'.mono kB (fun q hq => kk q fun z => hfpZ q (mem_fps e9 hq) (by rw [z]; exact .tail _ (.head _))) (wb.rt c' (.tail _ (.tail _ e9)))
        · by_cases z : q = l
          · subst z
            rcases wb.fr q (by rw [fps_cons, fps_cons]; exact .tail _ (.head _)) with y | y
            · exact absurd y hq
            · rw [y] at e9; cases e9
          · rw [kk q z]; exact wb.kp q o hq e9
        · by_cases z : q = l
          · subst z; exact ⟨_, upd_same⟩
          · rw [kk q z]; exact wb.oc q hq
        · have ne : q ≠ l := fun z => wb.nb l (by rw [fps_cons, fps_cons]; exact .tail _ (.head _)) (by rw [← z]; exact bq)
          rw [kk q ne]; exact wb.bo q bq
      have w5 : Wd G.K G.O ((v, .int n) :: L') (C' (ps.set c p) (.list (rs.set c (.list ys))) m2 ++ F) (upd H2 l (.lst ((ps.map V.ref).set c (.ref p)))) := Wd.perm (C := rootLL G.K l (ps.set c p) (.list (rs.set c (.list ys))) :: (Z m2 ++ F)) ⟨B, w4⟩ ((hC' _ _ m2).append_right F)
      refine q (.list (rs.set c (.list ys))) m2 σ [] (C' (ps.set c p) (.list (rs.set c (.list ys)))) _ ?_ (w5.sub fun f hf => .tail _ hf) (hk _ _ fun a ha => ?_)
      · show bd E1 _ m = _
        rw [bd_ok e1, bd_ok e2, hset]; rfl
      · rcases List.mem_or_eq_of_mem_set ha with z | z
        · exact ho a z
        · rw [z]; exact hp
  | _ => exact absurd rfl b2.2
end
/-! ### roots read whole for a while; new lists returned from anywhere -/
section
open SM
variable {X : Cx} {μ τ τ' ρ : Type} {G : Gx} {σ : St} {L : List (V × D)} {C Cp : μ → List Root} {te ta tb tc : TE} {tt tu : TT} {t u : TS} {E E1 E2 E3 : SM μ D} {Jn : Shp μ τ} {Jl : Shp μ ρ} {i j : Nat} {v : V} {x d : D} {l : Addr}
/-- a test that reads a root as a whole -/
theorem tv_bor {T : SM Unit Bool} {Z : μ → List Root} (hC : ∀ m, (C m).Perm (rootL G.K l d :: Z m)) (h : ∀ O', TV ⟨G.K, O', G.Xk, G.XR, G.rf⟩ tt σ ((.ref l, d) :: L) (fun _ : Unit => []) T) : TV G tt σ L C (px T) := by
  intro m F L' H Q s w q b
  obtain ⟨c, ec⟩ := px_nb b.2
  obtain ⟨B, wb⟩ := w
  have wp : Wd G.K G.O L' (rootL G.K l d :: (Z m ++ F)) H := Wd.perm ⟨B, wb⟩ ((hC m).append_right F)
  obtain ⟨B2, wp⟩ := wp
  obtain ⟨ds, vs, rfl, hl, ha⟩ := wp.rt _ (.head _)
  have k : Kp B2 H (fun q => B2 q ∨ q = l) H := fun q o b e => ⟨.inl b, e⟩
  have w0 : Wd G.K ⟨fun q => B2 q ∨ q = l, H, []⟩ ((.ref l, .list ds) :: L') ([] ++ []) H := by
    refine ⟨fun q => B2 q ∨ q = l, fun p b => b, fun p b => .inl b, List.nodup_nil, fun p hp => (by cases hp), fun p hp => (by cases hp), fun c hc => (by cases hc), fun f hf => ?_, fun p o _ e => e, fun p hp => (by cases hp), fun p b => ?_⟩
    · rcases List.mem_cons.mp hf with e | e
      · rw [e]; exact .lst ⟨.inr rfl, hl⟩ (Dt.monoAll k _ _ ha)
      · exact Dt.mono k _ _ (wp.ft f e)
    · rcases b with b | e
      · exact wp.bo p b
      · rw [e]; exact ⟨_, hl⟩
  refine h ⟨fun q => B2 q ∨ q = l, H, []⟩ () [] ((.ref l, .list ds) :: L') H _ (fun f hf => ?_) w0 (fun z m' H' e1 w1 => ?_) ⟨fun e m' cls d H' z => ?_, fun z => ?_⟩
  · rcases List.mem_cons.mp hf with e | e
    · rw [e]; exact .head _
    · exact .tail _ (s f e)
  · have sm : Same H H' := fun p o e => by
      obtain ⟨B', w1⟩ := w1
      exact w1.kp p o (by intro z; cases z) e
    exact q z m H' (px_ok e1) ⟨B, wb.grow sm (fun p b => b) (fun p b => .inl b)⟩
  · rw [ec] at z; cases z
  · rw [ec] at z; cases z
/-- a new list is returned -/
def rfL (K : PySem.W.Frag) (O : Og) : V → D → List (V × D) → List Root → Prop := fun v x L1 C1 => ∃ a, v = .ref a ∧ a ∉ O.fp ∧ L1 = [] ∧ C1 = [rootL K a x]
theorem sv_retF (hc : Sub Cp C) (h : FV G te σ L C E) (hf : G.rf = rfL G.K G.O := by rfl) : SV G Cp (tSeq (tRet te) u) σ L C (bd E fun x => pu (.rt x)) Jn Jl := by
  intro m F L' H d s w _ _ _ q b
  refine h m F L' H _ s w (fun x m1 a H1 e1 ha w1 => q x m1 (.ref a) H1 [] [rootL G.K a x] ?_ (by rw [hf]; exact ⟨a, rfl, ha, rfl, rfl⟩) ?_) (b.fst.subC hc)
  · rw [bd_ok e1]; rfl
  · exact (w1.perm List.perm_middle).subC (List.Sublist.cons₂ _ ((hc m1).append_right F))
/-- one's own list is returned -/
theorem sv_retR {Z : μ → List Root} (hv : σ[i]? = some (some (.ref l))) (ho : l ∉ G.O.fp) (hC : ∀ m, (C m).Perm (rootL G.K l d :: Z m)) (hz : Sub Cp Z) (hf : G.rf = rfL G.K G.O := by rfl) : SV G Cp (tSeq (tRet (tVar i)) u) σ L C (pu (.rt d)) Jn Jl := by
  intro m F L' H e s w _ _ _ q b
  have w1 : Wd G.K G.O L' (rootL G.K l d :: (Z m ++ F)) H := w.perm ((hC m).append_right F)
  exact ⟨_, hv, q d m (.ref l) H [] [rootL G.K l d] rfl (by rw [hf]; exact ⟨l, rfl, ho, rfl, rfl⟩) (w1.subC (List.Sublist.cons₂ _ ((hz m).append_right F)))⟩
theorem body_F {K : PySem.W.Frag} {n : Nat} {mf : List D → SM Unit D} {ts : TS} {N : List Str} {H : Hp} {vs : List V} {Q : VK} {E : XK} (hsp : SpN K n mf vs H Q E)
    (h : ∀ (ds : List D) (O : Og), vs.length = ds.length → ∃ (R : SM Unit (Fl Unit Empty)), mf ds = fin R ∧ SV ⟨K, O, E0, noX, rfL K O⟩ (fun _ => []) ts (start N vs) (vs.zip ds) (fun _ => []) R (fun _ _ _ _ => False) (fun z _ _ _ => z.elim)) : ts { nx := fun _ H' => Q .non H', rt := Q } (start N vs) H := by
  obtain ⟨hlen, B, ds, x0, hb, hd, ex, q⟩ := hsp
  obtain ⟨R, hR, hS⟩ := h ds ⟨B, H, []⟩ hd.len
  have w0 : Wd K ⟨B, H, []⟩ (vs.zip ds) ([] ++ []) H := ⟨B, fun p b => b, fun p b => .inl b, List.nodup_nil, fun p hp => (by cases hp), fun p hp => (by cases hp), fun c hc => (by cases hc), zip_dt hd, fun p o _ e => e, fun p hp => (by cases hp), hb⟩
  rw [hR] at ex
  refine hS () [] (vs.zip ds) H _ (fun f hf => hf) w0 ?_ ?_ ?_ ?_ ?_
  · intro s m' σ' L2 C2 H' e z w
    exact z.elim
  · intro s; exact s.elim
  · intro s; exact s.elim
  · rintro x m' _ H' _ _ e ⟨a, rfl, ha, rfl, rfl⟩ w
    have e2 : fin R () = .ok x m' := bd_ok e
    rw [e2] at ex
    cases ex
    obtain ⟨B', wb⟩ := w
    refine q a H' B' (fun p o e => wb.kp p o (by intro z; cases z) e) wb.lo (fun p b => ?_) ?_ (wb.nb a (.head _)) (wb.rt _ (.head _))
    · rcases wb.hi p b with z | z
      · exact .inl z
      · exact .inr ⟨z, wb.bo p b⟩
    · exact (wb.fr a (.head _)).resolve_left (by intro z; cases z)
  · refine ⟨fun e m' cls d H' z => ?_, fun z => ?_⟩
    · have e2 : fin R () = .exc e m' := bd_exc z
      rw [e2] at ex
      cases ex
    · have e2 : fin R () = .bad := bd_bad z
      rw [e2] at ex
      cases ex
/-- what is never reached -/
theorem sv_bad : SV G Cp t σ L C (bad : SM μ (Fl τ ρ)) Jn Jl := fun m F L' H d s w _ _ _ _ b => absurd rfl b.2
end
/-- a statement that is never reached -/
theorem ps_never {X : Cx} {st : Stmt} : PS X st (fun _ _ _ => False) := ⟨fun _ _ _ _ _ _ h => h.elim⟩
namespace SM
def unq5 {μ β : Type} (d : D) (k : D → D → D → D → D → SM μ β) : SM μ β := match d with
  | .list [a, b, c, e, f] => k a b c e f
  | _ => bad
end SM
section
open SM
variable {X : Cx} {μ τ τ' ρ : Type} {G : Gx} {σ : St} {L : List (V × D)} {C Cp : μ → List Root} {t u : TS} {Jn : Shp μ τ} {Jl : Shp μ ρ} {v : V} {x d : D}
theorem dt_partsL {K : PySem.W.Frag} {O : Og} {L : List (V × D)} {C : List Root} {H : Hp} {v : V} {ds : List D} (w : Wd K O L C H) (h : (v, PyData.list ds) ∈ L) : ∃ p vs, v = .ref p ∧ SqL K H p vs ∧ vs.length = ds.length ∧ Wd K O (vs.zip ds ++ L) C H := by
  obtain ⟨B, wb⟩ := w
  obtain ⟨p, vs, rfl, hl, ha⟩ := Dt.lst_inv (wb.ft _ h)
  refine ⟨p, vs, rfl, hl.sq, ha.len, B, wb.fts fun f hf => ?_⟩
  rcases List.mem_append.mp hf with e | e
  · exact zip_dt ha f e
  · exact wb.ft f e
theorem tgl_tup5 {gs : TGs} {k : D → D → D → D → D → SM μ (Fl τ ρ)} (hm : (v, x) ∈ L) (h : ∀ v1 v2 v3 v4 v5 a b c e f, SV G Cp (tTgts gs [v1, v2, v3, v4, v5] u) σ ((v1, a) :: (v2, b) :: (v3, c) :: (v4, e) :: (v5, f) :: L) C (k a b c e f) Jn Jl) : SV G Cp (tTgt (gUnl G.K 5 gs) v u) σ L C (unq5 x k) Jn Jl := by
  intro m F L' H d s w q1 q2 q3 q4 bk
  unfold unq5 at bk q1 q2 q3 q4
  split at bk
  · next a b c e f =>
    obtain ⟨p, vs, rfl, hl, hlen, w2⟩ := dt_partsL w (s _ hm)
    match vs, hlen with
    | [v1, v2, v3, v4, v5], _ => exact ⟨p, [v1, v2, v3, v4, v5], rfl, hl, rfl, sv_more (L1 := [(v1, a), (v2, b), (v3, c), (v4, e), (v5, f)]) (h v1 v2 v3 v4 v5 a b c e f) s w2 q1 q2 q3 q4 bk⟩
  · exact absurd rfl bk.2
end
/-! ### objects: what is one's own, by fields -/
inductive Flds (K : PySem.W.Frag) (B : Addr → Prop) (H : Hp) : List (Option Addr) → List V → List D → Prop
  | nil : Flds K B H [] [] []
  | frz {ks : List (Option Addr)} {vs : List V} {ds : List D} {v : V} {d : D} : Dt K B H v d → Flds K B H ks vs ds → Flds K B H (none :: ks) (v :: vs) (d :: ds)
  | own {ks : List (Option Addr)} {vs : List V} {ds : List D} {l : Addr} {xs : List V} {es : List D} : H l = some (.lst xs) → DtAll K B H xs es → Flds K B H ks vs ds → Flds K B H (some l :: ks) (.ref l :: vs) (.list es :: ds)
def ownA (ks : List (Option Addr)) : List Addr := ks.filterMap id
theorem ownA_cons (l : Addr) (ks : List (Option Addr)) : ownA (some l :: ks) = l :: ownA ks := rfl
theorem ownA_none (ks : List (Option Addr)) : ownA (none :: ks) = ownA ks := rfl
section
variable {K : PySem.W.Frag} {B B' : Addr → Prop} {H H' : Hp}
theorem Flds.mono (k : Kp B H B' H') : ∀ {ks : List (Option Addr)} {vs : List V} {ds : List D}, (∀ p ∈ ownA ks, H' p = H p) → Flds K B H ks vs ds → Flds K B' H' ks vs ds
  | _, _, _, _, .nil => .nil
  | _, _, _, e, .frz a r => .frz (Dt.mono k _ _ a) (Flds.mono k e r)
  | _, _, _, e, .own a b r => .own (by rw [e _ (.head _)]; exact a) (Dt.monoAll k _ _ b) (Flds.mono k (fun p hp => e p (.tail _ hp)) r)
theorem Flds.occ : ∀ {ks : List (Option Addr)} {vs : List V} {ds : List D}, Flds K B H ks vs ds → ∀ p ∈ ownA ks, ∃ o, H p = some o
  | _, _, _, .nil, _, hp => by cases hp
  | _, _, _, .frz _ r, p, hp => Flds.occ r p hp
  | _, _, _, .own a _ r, p, hp => by
    rcases List.mem_cons.mp hp with e | e
    · subst e; exact ⟨_, a⟩
    · exact Flds.occ r p e
theorem Flds.len : ∀ {ks : List (Option Addr)} {vs : List V} {ds : List D}, Flds K B H ks vs ds → vs.length = ks.length ∧ ds.length = ks.length
  | _, _, _, .nil => ⟨rfl, rfl⟩
  | _, _, _, .frz _ r => by have := Flds.len r; simp [this.1, this.2]
  | _, _, _, .own _ _ r => by have := Flds.len r; simp [this.1, this.2]
theorem Flds.get : ∀ {ks : List (Option Addr)} {vs : List V} {ds : List D} {i : Nat} {d : D}, Flds K B H ks vs ds → ks[i]? = some none → ds[i]? = some d → ∃ v, vs[i]? = some v ∧ Dt K B H v d
  | _, _, _, _, _, .nil, h, _ => by cases h
  | _, _, _, 0, _, .frz a r, _, h => by cases h; exact ⟨_, rfl, a⟩
  | _, _, _, i + 1, _, .frz a r, h1, h2 => Flds.get (i := i) r h1 h2
  | _, _, _, 0, _, .own a b r, h, _ => by cases h
  | _, _, _, i + 1, _, .own a b r, h1, h2 => Flds.get (i := i) r h1 h2
theorem Flds.getL : ∀ {ks : List (Option Addr)} {vs : List V} {ds : List D} {i : Nat} {l : Addr}, Flds K B H ks vs ds → ks[i]? = some (some l) → ∃ xs es, vs[i]? = some (.ref l) ∧ ds[i]? = some (.list es) ∧ H l = some (.lst xs) ∧ DtAll K B H xs es
  | _, _, _, _, _, .nil, h => by cases h
  | _, _, _, 0, _, .frz a r, h => by cases h
  | _, _, _, i + 1, _, .frz a r, h => Flds.getL (i := i) r h
  | _, _, _, 0, _, .own a b r, h => by cases h; exact ⟨_, _, rfl, rfl, a, b⟩
  | _, _, _, i + 1, _, .own a b r, h => Flds.getL (i := i) r h
theorem Flds.set {v : V} {d : D} (hd : Dt K B H v d) : ∀ {ks : List (Option Addr)} {vs : List V} {ds : List D} {i : Nat}, Flds K B H ks vs ds → ks[i]? = some none → Flds K B H ks (vs.set i v) (ds.set i d)
  | _, _, _, _, .nil, h => by cases h
  | _, _, _, 0, .frz a r, _ => .frz hd r
  | _, _, _, i + 1, .frz a r, h => .frz a (Flds.set (i := i) hd r h)
  | _, _, _, 0, .own a b r, h => by cases h
  | _, _, _, i + 1, .own a b r, h => .own a b (Flds.set (i := i) hd r h)
theorem Flds.setL {xs : List V} {es : List D} (hd : DtAll K B H xs es) : ∀ {ks : List (Option Addr)} {vs : List V} {ds : List D} {i : Nat} {l : Addr}, Flds K B H ks vs ds → ks[i]? = some (some l) → H l = some (.lst xs) → Flds K B H ks vs (ds.set i (.list es))
  | _, _, _, _, _, .nil, h, _ => by cases h
  | _, _, _, 0, _, .frz a r, h, _ => by cases h
  | _, _, _, i + 1, _, .frz a r, h, q => .frz a (Flds.setL (i := i) hd r h q)
  | _, _, _, 0, _, .own a b r, h, q => by cases h; exact .own q hd r
  | _, _, _, i + 1, _, .own a b r, h, q => .own a b (Flds.setL (i := i) hd r h q)
theorem Flds.snoc {v : V} {d : D} (hd : Dt K B H v d) : ∀ {ks : List (Option Addr)} {vs : List V} {ds : List D}, Flds K B H ks vs ds → Flds K B H (ks ++ [none]) (vs ++ [v]) (ds ++ [d])
  | _, _, _, .nil => .frz hd .nil
  | _, _, _, .frz a r => .frz a (Flds.snoc hd r)
  | _, _, _, .own a b r => .own a b (Flds.snoc hd r)
theorem Flds.snocL {l : Addr} {xs : List V} {es : List D} (hl : H l = some (.lst xs)) (hd : DtAll K B H xs es) : ∀ {ks : List (Option Addr)} {vs : List V} {ds : List D}, Flds K B H ks vs ds → Flds K B H (ks ++ [some l]) (vs ++ [.ref l]) (ds ++ [.list es])
  | _, _, _, .nil => .own hl hd .nil
  | _, _, _, .frz a r => .frz a (Flds.snocL hl hd r)
  | _, _, _, .own a b r => .own a b (Flds.snocL hl hd r)
/-- all own lists but the one at l -/
theorem Flds.monoX (k : Kp B H B' H') {l : Addr} {xs : List V} {es : List D} (hl : H' l = some (.lst xs)) (hd : DtAll K B' H' xs es) {ks : List (Option Addr)} {vs : List V} {ds : List D} {i : Nat} (n : (ownA ks).Nodup) (h : ks[i]? = some (some l)) (e : ∀ p ∈ ownA ks, p ≠ l → H' p = H p) (f : Flds K B H ks vs ds) : Flds K B' H' ks vs (ds.set i (.list es)) := by
  induction f generalizing i with
  | nil => cases h
  | frz a r ih =>
    cases i with
    | zero => cases h
    | succ i => exact .frz (Dt.mono k _ _ a) (ih n h e)
  | @own ks vs ds l0 ys zs a b r ih =>
    have n2 := List.nodup_cons.mp n
    cases i with
    | zero =>
      cases h
      exact .own hl hd (Flds.mono k (fun p hp => e p (.tail _ hp) fun z => n2.1 (by rw [← z]; exact hp)) r)
    | succ i =>
      have ne : l0 ≠ l := fun z => n2.1 (by
        rw [z]
        exact List.mem_filterMap.mpr ⟨some l, List.mem_of_getElem? h, rfl⟩)
      exact .own (by rw [e l0 (.head _) ne]; exact a) (Dt.monoAll k _ _ b) (ih n2.2 h fun p hp => e p (.tail _ hp))
end
/-- an object at a: its class, its fields' names, which of them are its own lists; the data is .tuple ds -/
def rootO (K : PySem.W.Frag) (C : Addr) (ns : List Str) (ks : List (Option Addr)) (a : Addr) (d : D) : Root where
  fp := fun _ => a :: ownA ks
  same := fun _ _ _ => rfl
  P := fun B H => ∃ dx ds vs, d = .tuple ds ∧ H a = some (.ins C dx (ns.zip vs)) ∧ Flds K B H ks vs ds
  mono := fun k e h => by
    obtain ⟨dx, ds, vs, h1, h2, h3⟩ := h
    exact ⟨dx, ds, vs, h1, by rw [e a (.head _)]; exact h2, h3.mono k fun p hp => e p (.tail _ hp)⟩
  occ := fun h q hq => by
    obtain ⟨dx, ds, vs, h1, h2, h3⟩ := h
    rcases List.mem_cons.mp hq with e | e
    · subst e; exact ⟨_, h2⟩
    · exact h3.occ q e
/-- fields by name -/
theorem zip_look : ∀ {ns : List Str} {vs : List V} {i : Nat} {nm : Str} {v : V}, ns.Nodup → ns[i]? = some nm → vs[i]? = some v → (ns.zip vs).lookup nm = some v
  | [], _, _, _, _, _, h, _ => by cases h
  | n :: ns, [], _, _, _, _, _, h => by cases h
  | n :: ns, v :: vs, 0, _, _, _, h1, h2 => by
    cases h1; cases h2
    show List.lookup n ((n, v) :: ns.zip vs) = some v
    rw [List.lookup_cons_self]
  | n :: ns, w :: vs, i + 1, nm, v, hn, h1, h2 => by
    have n2 := List.nodup_cons.mp hn
    have ne : (nm == n) = false := beq_eq_false_iff_ne.mpr fun z => n2.1 (by rw [← z]; exact List.mem_of_getElem? (show ns[i]? = some nm from h1))
    show List.lookup nm ((n, w) :: ns.zip vs) = some v
    simp only [List.lookup, ne]
    exact zip_look (i := i) n2.2 h1 h2
theorem zip_nolook : ∀ {ns : List Str} {vs : List V} {nm : Str}, nm ∉ ns → (ns.zip vs).lookup nm = none
  | [], _, _, _ => rfl
  | n :: ns, [], _, _ => rfl
  | n :: ns, w :: vs, nm, h => by
    have ne : (nm == n) = false := beq_eq_false_iff_ne.mpr fun z => h (by rw [z]; exact .head _)
    show List.lookup nm ((n, w) :: ns.zip vs) = none
    simp only [List.lookup, ne]
    exact zip_nolook fun z => h (.tail _ z)
theorem zip_put : ∀ {ns : List Str} {vs : List V} {i : Nat} {nm : Str} {v : V}, ns.Nodup → ns[i]? = some nm → i < vs.length → putF nm v (ns.zip vs) = ns.zip (vs.set i v)
  | [], _, _, _, _, _, h, _ => by cases h
  | n :: ns, [], _, _, _, _, _, h => by cases h
  | n :: ns, w :: vs, 0, _, v, _, h1, _ => by
    cases h1
    show (if n = n then (n, v) :: ns.zip vs else _) = _
    rw [if_pos rfl]; rfl
  | n :: ns, w :: vs, i + 1, nm, v, hn, h1, h2 => by
    have n2 := List.nodup_cons.mp hn
    have ne : ¬ n = nm := fun z => n2.1 (by rw [z]; exact List.mem_of_getElem? (show ns[i]? = some nm from h1))
    show (if n = nm then _ else (n, w) :: putF nm v (ns.zip vs)) = _
    rw [if_neg ne, zip_put (i := i) n2.2 h1 (by rw [List.length_cons] at h2; omega)]; rfl
theorem zip_new : ∀ {ns : List Str} {vs : List V} {nm : Str} {v : V}, ns.Nodup → ns[vs.length]? = some nm → putF nm v (ns.zip vs) = ns.zip (vs ++ [v])
  | [], _, _, _, _, h => by cases h
  | n :: ns, [], nm, v, _, h => by cases h; show [(n, v)] = (n, v) :: ns.zip []; rw [List.zip_nil_right]
  | n :: ns, w :: vs, nm, v, hn, h => by
    have n2 := List.nodup_cons.mp hn
    have ne : ¬ n = nm := fun z => n2.1 (by rw [z]; exact List.mem_of_getElem? (show ns[vs.length]? = some nm from h))
    show (if n = nm then _ else (n, w) :: putF nm v (ns.zip vs)) = _
    rw [if_neg ne, zip_new n2.2 h]; rfl
theorem Wb.rest_same {K : PySem.W.Frag} {O : Og} {B B' : Addr → Prop} {L : List (V × D)} {Z : List Root} {H H' : Hp} {r : Root} (wb : Wb K O B L (r :: Z) H) (hk : ∀ p o, p ∉ r.fp H → H p = some o → H' p = some o) (h1 : ∀ p, B p → B' p) : fps Z H' = fps Z H := by
  have hra : ∀ p ∈ r.fp H, ¬ B p := fun p hp => wb.nb p (by rw [fps_cons]; exact List.mem_append.mpr (.inl hp))
  have hnd := wb.nd
  rw [fps_cons] at hnd
  have hdis := List.nodup_append.mp hnd
  refine fps_same (B := B) (B' := B') (fun p o b e => ⟨h1 p b, hk p o (fun z => hra p z b) e⟩) (fun c hc => wb.rt c (.tail _ hc)) fun p hp => ?_
  obtain ⟨c, hc, hq⟩ := List.mem_flatMap.mp hp
  obtain ⟨o, ho⟩ := c.occ (wb.rt c (.tail _ hc)) p hq
  rw [ho]
  exact hk p o (fun z => hdis.2.2 p z p hp rfl) ho
/-- what is not there lies in no root behind the first one -/
theorem Wb.free_rest {K : PySem.W.Frag} {O : Og} {B B' : Addr → Prop} {L : List (V × D)} {Z : List Root} {H H' : Hp} {r : Root} (wb : Wb K O B L (r :: Z) H) (hk : ∀ p o, p ∉ r.fp H → H p = some o → H' p = some o) (h1 : ∀ p, B p → B' p) {p : Addr} (hn : H p = Option.none) : p ∉ fps Z H' := by
  rw [wb.rest_same hk h1]
  intro z
  exact wb.free hn (by rw [fps_cons]; exact List.mem_append.mpr (.inr z))
/-- a call, or a store, that changes the first root alone -/
theorem Wb.chgG {K : PySem.W.Frag} {O : Og} {B B' : Addr → Prop} {L : List (V × D)} {Z : List Root} {H H' : Hp} {r r' : Root} (wb : Wb K O B L (r :: Z) H) (hf : ∀ p ∈ r'.fp H', p ∈ r.fp H ∨ H p = Option.none) (hf2 : ∀ p ∈ r.fp H, ∃ o, H' p = some o) (hn : (r'.fp H').Nodup) (hb : ∀ p ∈ r'.fp H', ¬ B' p) (hk : ∀ p o, p ∉ r.fp H → H p = some o → H' p = some o)
    (h1 : ∀ p, B p → B' p) (h2 : ∀ p, B' p → B p ∨ (H p = Option.none ∧ ∃ o, H' p = some o)) (hr : r'.P B' H') : Wb K O B' L (r' :: Z) H' := by
  have hra : ∀ p ∈ r.fp H, ¬ B p := fun p hp => wb.nb p (by rw [fps_cons]; exact List.mem_append.mpr (.inl hp))
  have hnd := wb.nd
  rw [fps_cons] at hnd
  have hdis := List.nodup_append.mp hnd
  have hna : ∀ p ∈ fps Z H, p ∉ r.fp H := fun p hp hq => hdis.2.2 p hq p hp rfl
  have k : Kp B H B' H' := fun p o b e => ⟨h1 p b, hk p o (fun z => hra p z b) e⟩
  have oz : ∀ p ∈ fps Z H, ∃ o, H p = some o := fun p hp => by
    obtain ⟨c, hc, hq⟩ := List.mem_flatMap.mp hp
    exact c.occ (wb.rt c (.tail _ hc)) p hq
  have es : fps Z H' = fps Z H := fps_same k (fun c hc => wb.rt c (.tail _ hc)) fun p hp => by
    obtain ⟨o, ho⟩ := oz p hp
    rw [ho]
    exact hk p o (hna p hp) ho
  refine ⟨fun p b => h1 p (wb.lo p b), fun p b => ?_, ?_, fun p hp b => ?_, fun p hp => ?_, fun c hc => ?_, fun f hf => Dt.mono k _ _ (wb.ft f hf), fun p o hp e => ?_, fun p hp => ?_, fun p b => ?_⟩
  · rcases h2 p b with b | n
    · exact wb.hi p b
    · exact .inr (wb.none n.1)
  · rw [fps_cons, es]
    refine List.nodup_append.mpr ⟨hn, hdis.2.1, fun a ha b hb z => ?_⟩
    subst z
    rcases hf a ha with y | y
    · exact hna a hb y
    · obtain ⟨o, ho⟩ := oz a hb
      rw [y] at ho; cases ho
  · rw [fps_cons, es] at hp
    rcases List.mem_append.mp hp with e | e
    · exact hb p e b
    · rcases h2 p b with b | n
      · exact wb.nb p (by rw [fps_cons]; exact List.mem_append.mpr (.inr e)) b
      · obtain ⟨o, ho⟩ := oz p e
        rw [n.1] at ho; cases ho
  · rw [fps_cons, es] at hp
    rcases List.mem_append.mp hp with e | e
    · rcases hf p e with y | y
      · exact wb.fr p (by rw [fps_cons]; exact List.mem_append.mpr (.inl y))
      · exact .inr (wb.none y)
    · exact wb.fr p (by rw [fps_cons]; exact List.mem_append.mpr (.inr e))
  · rcases List.mem_cons.mp hc with e | e
    · subst e; exact hr
    · refine c.mono k (fun p hp => ?_) (wb.rt c (.tail _ e))
      obtain ⟨o, ho⟩ := c.occ (wb.rt c (.tail _ e)) p hp
      rw [ho]
      exact hk p o (fun z => hna p (mem_fps e hp) z) ho
  · by_cases z : p ∈ r.fp H
    · rcases wb.fr p (by rw [fps_cons]; exact List.mem_append.mpr (.inl z)) with y | y
      · exact absurd y hp
      · rw [y] at e; cases e
    · exact hk p o z (wb.kp p o hp e)
  · by_cases z : p ∈ r.fp H
    · exact hf2 p z
    · obtain ⟨o, ho⟩ := wb.oc p hp
      exact ⟨o, hk p o z ho⟩
  · rcases h2 p b with b | n
    · obtain ⟨o, ho⟩ := wb.bo p b
      exact ⟨o, hk p o (fun z => hra p z b) ho⟩
    · exact n.2
/-! promises: a method; what makes an object -/
def SpM (K : PySem.W.Frag) (C : Addr) (ns : List Str) (nl : Nat) (kf : List Addr → List (Option Addr)) (n : Nat) (mf : List D → SM D D) : Sp := fun vs H Q _ => vs.length = n + 1 ∧ ∃ (B : Addr → Prop) (a : Addr) (us : List V) (ds : List D) (m x m' : D) (ls : List Addr), vs = .ref a :: us ∧ (∀ p, B p → ∃ o, H p = some o) ∧ ls.length = nl ∧ (∀ p ∈ a :: ownA (kf ls), ¬ B p) ∧ (a :: ownA (kf ls)).Nodup ∧ DtAll K B H us ds ∧ (rootO K C ns (kf ls) a m).P B H ∧ mf ds m = .ok x m' ∧
  ∀ v H' (B' : Addr → Prop), (∀ p o, p ∉ a :: ownA (kf ls) → H p = some o → H' p = some o) → (∀ p, B p → B' p) → (∀ p, B' p → B p ∨ (H p = none ∧ ∃ o, H' p = some o)) → (∀ p ∈ a :: ownA (kf ls), ¬ B' p) → Dt K B' H' v x → (rootO K C ns (kf ls) a m').P B' H' → Q v H'
def SpI (K : PySem.W.Frag) (C : Addr) (ns : List Str) (nl : Nat) (kf : List Addr → List (Option Addr)) (n : Nat) (mf : List D → SM D D) : Sp := fun vs H Q _ => vs.length = n + 1 ∧ ∃ (B : Addr → Prop) (a dx : Addr) (us : List V) (ds : List D) (m' : D), vs = .ref a :: us ∧ H a = some (.ins C dx []) ∧ (∀ p, B p → ∃ o, H p = some o) ∧ ¬ B a ∧ DtAll K B H us ds ∧ mf ds (.tuple []) = .ok .none m' ∧
  ∀ H' (B' : Addr → Prop) (ls : List Addr), ls.length = nl → (∀ p o, p ≠ a → H p = some o → H' p = some o) → (∀ p, B p → B' p) → (∀ p, B' p → B p ∨ (H p = none ∧ ∃ o, H' p = some o)) → (∀ p ∈ a :: ownA (kf ls), p = a ∨ H p = none) → (a :: ownA (kf ls)).Nodup → (∀ p ∈ a :: ownA (kf ls), ¬ B' p) → (rootO K C ns (kf ls) a m').P B' H' → Q .non H'
namespace SM
def fldD (i : Nat) : D → Option D
  | .tuple ds => ds[i]?
  | _ => none
/-- a field gets another value; a new field -/
def fsetD (i : Nat) : D → D → Option D
  | .tuple ds, y => if i < ds.length then some (.tuple (ds.set i y)) else none
  | _, _ => none
def fnewD : D → D → Option D
  | .tuple ds, y => some (.tuple (ds ++ [y]))
  | _, _ => none
def fappD (i : Nat) : D → D → Option D
  | .tuple ds, y => match ds[i]? with
    | some (.list es) => if es.length < sizeLine then some (.tuple (ds.set i (.list (es ++ [y])))) else none
    | _ => none
  | _, _ => none
/-- the state, by a step -/
def stp (f : D → Option D) : SM D Unit := fun m => match f m with
  | some m' => .ok () m'
  | none => .bad
def rdS (f : D → Option D) : SM D D := fun m => match f m with
  | some x => .ok x m
  | none => .bad
/-- a thing done to an object that stands beside the state -/
def foc {μ τ : Type} (R : SM D (Fl τ Empty)) (d : D) : SM μ (τ × D) := fun m => match R d with
  | .ok (.nx s) d' => .ok (s, d') m
  | _ => .bad
def mkD {μ : Type} (x : SM D D) : SM μ D := fun m => match x (.tuple []) with
  | .ok .none d => .ok d m
  | _ => .bad
end SM
section
open SM
variable {X : Cx} {μ τ τ' ρ : Type} {G : Gx} {σ : St} {L : List (V × D)} {C Cp : μ → List Root} {te ta tb tc : TE} {tt tu : TT} {t u : TS} {i j : Nat} {v : V} {x d : D} {a Ca l : Addr} {ns : List Str} {ks : List (Option Addr)} {nm : Str}
theorem stp_nb {f : D → Option D} {m : D} (h : stp f m ≠ .bad) : ∃ m', f m = some m' := by
  unfold stp at h
  cases e : f m with
  | some m' => exact ⟨m', rfl⟩
  | none => rw [e] at h; exact absurd rfl h
theorem stp_ok {f : D → Option D} {m m' : D} (h : f m = some m') : stp f m = .ok () m' := by unfold stp; rw [h]
theorem rdS_nb {f : D → Option D} {m : D} (h : rdS f m ≠ .bad) : ∃ x, f m = some x := by
  unfold rdS at h
  cases e : f m with
  | some m' => exact ⟨m', rfl⟩
  | none => rw [e] at h; exact absurd rfl h
theorem rdS_ok {f : D → Option D} {m x : D} (h : f m = some x) : rdS f m = .ok x m := by unfold rdS; rw [h]
/-- self.f -/
theorem ev_fldS {Z : List Root} (hv : σ[j]? = some (some (.ref a))) (c : Cls G.K Ca) (n : NoAttr G.K Ca nm) (hn : ns.Nodup) (hi : ns[i]? = some nm) (hk : ks[i]? = some none) : EV G (tFld G.K (tVar j) nm) σ L (fun m => rootO G.K Ca ns ks a m :: Z) (rdS (fldD i)) := by
  intro m F L' H Q s w q b
  obtain ⟨x, ex⟩ := rdS_nb b.2
  obtain ⟨B, wb⟩ := w
  obtain ⟨dx, ds, vs, rfl, h1, h2⟩ := wb.rt _ (.head _)
  obtain ⟨v, hv1, hd⟩ := h2.get hk (show ds[i]? = some x from ex)
  exact ⟨.ref a, hv, a, Ca, dx, _, v, rfl, h1, c, n, zip_look hn hi hv1, q x _ v H (rdS_ok ex) ⟨B, wb.fact hd⟩⟩
theorem Wd.objSet {K : PySem.W.Frag} {O : Og} {Z : List Root} {H : Hp} {y : V} {e m' : D} {ds : List D} {vs : List V} {dx : Addr} {B : Addr → Prop} {ks' : List (Option Addr)} {ds' : List D} {vs' : List V} (wb : Wb K O B L (rootO K Ca ns ks a (.tuple ds) :: Z) H) (hk : ownA ks' = ownA ks) (h : H a = some (.ins Ca dx (ns.zip vs))) (hf : ∀ H', (∀ p, p ≠ a → H' p = H p) → Flds K B H' ks' vs' ds') : Wd K O L (rootO K Ca ns ks' a (.tuple ds') :: Z) (upd H a (.ins Ca dx (ns.zip vs'))) := by
  have hnd := wb.nd
  rw [fps_cons] at hnd
  have hfn : (a :: ownA ks).Nodup := (List.nodup_append.mp hnd).1
  have ho := (rootO K Ca ns ks a (.tuple ds)).occ (wb.rt _ (.head _))
  have hb : ∀ p ∈ a :: ownA ks, ¬ B p := fun p hp => wb.nb p (by rw [fps_cons]; exact List.mem_append.mpr (.inl hp))
  refine ⟨B, wb.chgG (r' := rootO K Ca ns ks' a (.tuple ds')) (fun p hp => .inl ?_) (fun p hp => ?_) ?_ (fun p hp => ?_) (fun p o hp e => ?_) (fun p b => b) (fun p b => .inl b) ⟨dx, ds', vs', rfl, upd_same, hf _ fun p hp => upd_ne hp⟩⟩
  · show p ∈ a :: ownA ks
    rw [← hk]; exact hp
  · by_cases z : p = a
    · subst z; exact ⟨_, upd_same⟩
    · rw [upd_ne z]; exact ho p hp
  · show (a :: ownA ks').Nodup
    rw [hk]; exact hfn
  · exact hb p (by rw [← hk]; exact hp)
  · rw [upd_ne fun z => hp (by rw [z]; exact .head _)]; exact e
end
/-! ### objects: rules -/
section
open SM
variable {X : Cx} {μ τ τ' ρ : Type} {G : Gx} {σ : St} {L : List (V × D)} {te ta tb tc : TE} {tt tu : TT} {t u : TS} {i j : Nat} {v : V} {x d : D} {a Ca l : Addr} {ns : List Str} {ks : List (Option Addr)} {nm : Str}
/-- one place within what is one's own is changed; roots stand over the same places -/
theorem Wb.rerootA {K : PySem.W.Frag} {O : Og} {B : Addr → Prop} (A A' : List Root) {Z : List Root} {H : Hp} {o : HO} (wb : Wb K O B L (A ++ Z) H) (ha : a ∈ fps A H) (hp : (fps A H).Perm (fps A' (upd H a o))) (hr : ∀ c ∈ A' ++ Z, c.P B (upd H a o)) : Wb K O B L (A' ++ Z) (upd H a o) := by
  refine wb.swap hp (fun q hq => upd_ne fun z => hq (by rw [z]; exact ha)) (fun q hq => ?_) fun _ c hc => hr c (List.mem_append.mpr (.inl hc))
  by_cases z : q = a
  · subst z; exact ⟨_, upd_same⟩
  · rw [upd_ne z]
    obtain ⟨c, hc, hq2⟩ := List.mem_flatMap.mp hq
    exact c.occ (wb.rt c (List.mem_append.mpr (.inl hc))) q hq2
theorem Wb.reroot {K : PySem.W.Frag} {O : Og} {B : Addr → Prop} {r r' : Root} {Z : List Root} {H : Hp} {o : HO} (wb : Wb K O B L (r :: Z) H) (ha : a ∈ r.fp H) (hp : (r.fp H).Perm (r'.fp (upd H a o))) (hr : ∀ c ∈ r' :: Z, c.P B (upd H a o)) : Wb K O B L (r' :: Z) (upd H a o) :=
  Wb.rerootA [r] [r'] (Z := Z) wb (by rw [fps_cons]; exact List.mem_append.mpr (.inl ha)) (by rw [fps_cons, fps_cons]; exact hp.append_right _) hr
theorem Wb.rests {K : PySem.W.Frag} {O : Og} {B : Addr → Prop} {r : Root} {Z : List Root} {H : Hp} {o : HO} (wb : Wb K O B L (r :: Z) H) (ha : a ∈ r.fp H) : ∀ c ∈ Z, c.P B (upd H a o) := by
  intro c hc
  have hnd := wb.nd
  rw [fps_cons] at hnd
  have nb : ¬ B a := wb.nb a (by rw [fps_cons]; exact List.mem_append.mpr (.inl ha))
  refine c.mono (fun q u b e => ⟨b, by rw [upd_ne fun z => nb (by rw [← z]; exact b)]; exact e⟩) (fun q hq => upd_ne fun z => ?_) (wb.rt c (.tail _ hc))
  exact (List.nodup_append.mp hnd).2.2 a ha a (mem_fps hc (by rw [← z]; exact hq)) rfl
theorem zip_lt (vs : List V) (h : ns.length < 1000) : (ns.zip vs).length < 1000 := by rw [List.length_zip]; omega
/-- self.f = e, a field that is there -/
theorem sv_fset {Z : List Root} {E : SM D D} {Cp : D → List Root} {Jn : Shp D τ} {Jl : Shp D ρ} {k : SM D (Fl τ ρ)} (hc : Sub Cp (fun m => rootO G.K Ca ns ks a m :: Z)) (hv : σ[j]? = some (some (.ref a))) (c : Cls G.K Ca) (n : NoAttr G.K Ca nm) (hn : ns.Nodup) (hi : ns[i]? = some nm) (hl : ns.length < 1000) (hk : ks[i]? = some none)
    (h : EV G te σ L (fun m => rootO G.K Ca ns ks a m :: Z) E) (hk2 : SV G Cp u σ L (fun m => rootO G.K Ca ns ks a m :: Z) k Jn Jl) : SV G Cp (tSeq (sFld G.K (tVar j) te nm) u) σ L (fun m => rootO G.K Ca ns ks a m :: Z) (bd (bd E fun y => stp fun m => fsetD i m y) fun _ => k) Jn Jl := by
  refine sv_bd hc fun m F L' H e s w q b => ?_
  refine h m F L' H _ s w (fun y m1 vy H1 e1 w1 => ?_) b.fst
  have b1 := b.snd e1
  obtain ⟨m', em⟩ := stp_nb b1.2
  obtain ⟨B, wb⟩ := w1
  obtain ⟨dx, ds, vs, rfl, h1, h2⟩ := wb.rt _ (.head _)
  have hlen := h2.len
  have hi2 : i < ks.length := (List.getElem?_eq_some_iff.mp hk).1
  have em2 : m' = .tuple (ds.set i y) := by
    have : fsetD i (.tuple ds) y = some (.tuple (ds.set i y)) := if_pos (by omega)
    rw [this] at em; cases em; rfl
  subst em2
  refine ⟨.ref a, hv, a, Ca, dx, _, rfl, h1, c, n, zip_lt vs hl, ?_⟩
  rw [zip_put hn hi (by omega)]
  have nb : ¬ B a := wb.nb a (by rw [List.cons_append, fps_cons]; exact .head _)
  have kk : Kp B H1 B (upd H1 a (.ins Ca dx (ns.zip (vs.set i vy)))) := fun p o b e => ⟨b, by rw [upd_ne fun z => nb (by rw [← z]; exact b)]; exact e⟩
  have hna : a ∉ ownA ks := by
    have := wb.nd
    rw [List.cons_append, fps_cons] at this
    exact (List.nodup_cons.mp (List.nodup_append.mp this).1).1
  have w3 : Wb G.K G.O B ((vy, y) :: L') ((rootO G.K Ca ns ks a (.tuple (ds.set i y)) :: Z) ++ F) (upd H1 a (.ins Ca dx (ns.zip (vs.set i vy)))) := by
    refine Wb.reroot (r := rootO G.K Ca ns ks a (.tuple ds)) (Z := Z ++ F) wb (.head _) (List.Perm.refl _) fun c' hc' => ?_
    rcases List.mem_cons.mp hc' with e | e
    · subst e
      refine ⟨dx, _, _, rfl, upd_same, Flds.set (Dt.mono kk _ _ (wb.ft _ (.head _))) (h2.mono kk fun p hp => upd_ne fun z => hna (by rw [← z]; exact hp)) hk⟩
    · exact Wb.rests (r := rootO G.K Ca ns ks a (.tuple ds)) (Z := Z ++ F) wb (.head _) c' e
  refine q () _ σ [] (fun m => rootO G.K Ca ns ks a m :: Z) _ ?_ ⟨B, w3.fts fun f hf => w3.ft f (.tail _ hf)⟩ hk2
  show bd E _ m = _
  rw [bd_ok e1]
  exact stp_ok em
/-- self.f = e, a field that is new -/
theorem sv_fnew {Z : List Root} {E : SM D D} {Cp : D → List Root} {Jn : Shp D τ} {Jl : Shp D ρ} {k : SM D (Fl τ ρ)} (hc : Sub Cp (fun m => rootO G.K Ca ns ks a m :: Z)) (hv : σ[j]? = some (some (.ref a))) (c : Cls G.K Ca) (n : NoAttr G.K Ca nm) (hn : ns.Nodup) (hi : ns[ks.length]? = some nm) (hl : ns.length < 1000)
    (h : EV G te σ L (fun m => rootO G.K Ca ns ks a m :: Z) E) (hk2 : SV G Cp u σ L (fun m => rootO G.K Ca ns (ks ++ [none]) a m :: Z) k Jn Jl) : SV G Cp (tSeq (sFld G.K (tVar j) te nm) u) σ L (fun m => rootO G.K Ca ns ks a m :: Z) (bd (bd E fun y => stp fun m => fnewD m y) fun _ => k) Jn Jl := by
  refine sv_bd hc fun m F L' H e s w q b => ?_
  refine h m F L' H _ s w (fun y m1 vy H1 e1 w1 => ?_) b.fst
  have b1 := b.snd e1
  obtain ⟨m', em⟩ := stp_nb b1.2
  obtain ⟨B, wb⟩ := w1
  obtain ⟨dx, ds, vs, rfl, h1, h2⟩ := wb.rt _ (.head _)
  have hlen := h2.len
  have em2 : m' = .tuple (ds ++ [y]) := by
    have : fnewD (.tuple ds) y = some (.tuple (ds ++ [y])) := rfl
    rw [this] at em; cases em; rfl
  subst em2
  refine ⟨.ref a, hv, a, Ca, dx, _, rfl, h1, c, n, zip_lt vs hl, ?_⟩
  rw [zip_new hn (by rw [hlen.1]; exact hi)]
  have nb : ¬ B a := wb.nb a (by rw [List.cons_append, fps_cons]; exact .head _)
  have kk : Kp B H1 B (upd H1 a (.ins Ca dx (ns.zip (vs ++ [vy])))) := fun p o b e => ⟨b, by rw [upd_ne fun z => nb (by rw [← z]; exact b)]; exact e⟩
  have hna : a ∉ ownA ks := by
    have := wb.nd
    rw [List.cons_append, fps_cons] at this
    exact (List.nodup_cons.mp (List.nodup_append.mp this).1).1
  have eo : ownA (ks ++ [none]) = ownA ks := by unfold ownA; rw [List.filterMap_append]; simp
  have w3 : Wb G.K G.O B ((vy, y) :: L') ((rootO G.K Ca ns (ks ++ [none]) a (.tuple (ds ++ [y])) :: Z) ++ F) (upd H1 a (.ins Ca dx (ns.zip (vs ++ [vy])))) := by
    refine Wb.reroot (r := rootO G.K Ca ns ks a (.tuple ds)) (Z := Z ++ F) wb (.head _) ?_ fun c' hc' => ?_
    · show (a :: ownA ks).Perm (a :: ownA (ks ++ [none]))
      rw [eo]
    · rcases List.mem_cons.mp hc' with e | e
      · subst e
        exact ⟨dx, _, _, rfl, upd_same, Flds.snoc (Dt.mono kk _ _ (wb.ft _ (.head _))) (h2.mono kk fun p hp => upd_ne fun z => hna (by rw [← z]; exact hp))⟩
      · exact Wb.rests (r := rootO G.K Ca ns ks a (.tuple ds)) (Z := Z ++ F) wb (.head _) c' e
  refine q () _ σ [] (fun m => rootO G.K Ca ns (ks ++ [none]) a m :: Z) _ ?_ ⟨B, w3.fts fun f hf => w3.ft f (.tail _ hf)⟩ hk2
  show bd E _ m = _
  rw [bd_ok e1]
  exact stp_ok em
/-- self.f = a new list, a field that is new -/
theorem sv_fnewL {Z : List Root} {E : SM D D} {Cp : D → List Root} {Jn : Shp D τ} {Jl : Shp D ρ} {k : SM D (Fl τ ρ)} (hc : Sub Cp (fun m => rootO G.K Ca ns ks a m :: Z)) (hv : σ[j]? = some (some (.ref a))) (c : Cls G.K Ca) (n : NoAttr G.K Ca nm) (hn : ns.Nodup) (hi : ns[ks.length]? = some nm) (hl : ns.length < 1000)
    (h : FV G te σ L (fun m => rootO G.K Ca ns ks a m :: Z) E) (hk2 : ∀ p, p ∉ G.O.fp → SV G Cp u σ L (fun m => rootO G.K Ca ns (ks ++ [some p]) a m :: Z) k Jn Jl) : SV G Cp (tSeq (sFld G.K (tVar j) te nm) u) σ L (fun m => rootO G.K Ca ns ks a m :: Z) (bd (bd E fun y => stp fun m => fnewD m y) fun _ => k) Jn Jl := by
  refine sv_bd hc fun m F L' H e s w q b => ?_
  refine h m F L' H _ s w (fun y m1 p H1 e1 hpO w1 => ?_) b.fst
  have b1 := b.snd e1
  obtain ⟨m', em⟩ := stp_nb b1.2
  obtain ⟨B, wb⟩ := w1.perm (C' := rootO G.K Ca ns ks a m1 :: rootL G.K p y :: (Z ++ F)) (by rw [List.cons_append]; exact List.Perm.cons _ List.perm_middle)
  obtain ⟨dx, ds, vs, rfl, h1, h2⟩ := wb.rt _ (.head _)
  obtain ⟨es, xs, rfl, hp1, hp2⟩ := wb.rt _ (.tail _ (.head _))
  have hlen := h2.len
  have em2 : m' = .tuple (ds ++ [.list es]) := by
    have : fnewD (.tuple ds) (.list es) = some (.tuple (ds ++ [.list es])) := rfl
    rw [this] at em; cases em; rfl
  subst em2
  refine ⟨.ref a, hv, a, Ca, dx, _, rfl, h1, c, n, zip_lt vs hl, ?_⟩
  rw [zip_new hn (by rw [hlen.1]; exact hi)]
  have nb : ¬ B a := wb.nb a (by rw [fps_cons]; exact .head _)
  have kk : Kp B H1 B (upd H1 a (.ins Ca dx (ns.zip (vs ++ [.ref p])))) := fun p o b e => ⟨b, by rw [upd_ne fun z => nb (by rw [← z]; exact b)]; exact e⟩
  have hnd := wb.nd
  rw [fps_cons, fps_cons] at hnd
  have hna : a ∉ ownA ks := (List.nodup_cons.mp (List.nodup_append.mp hnd).1).1
  have hpa : p ≠ a := fun z => (List.nodup_append.mp hnd).2.2 a (.head _) p (.head _) z.symm
  have eo : ownA (ks ++ [some p]) = ownA ks ++ [p] := by unfold ownA; rw [List.filterMap_append]; simp
  have w3 : Wb G.K G.O B L' (rootO G.K Ca ns (ks ++ [some p]) a (.tuple (ds ++ [.list es])) :: (Z ++ F)) (upd H1 a (.ins Ca dx (ns.zip (vs ++ [.ref p])))) := by
    refine Wb.rerootA [rootO G.K Ca ns ks a (.tuple ds), rootL G.K p (.list es)] [rootO G.K Ca ns (ks ++ [some p]) a (.tuple (ds ++ [.list es]))] (Z := Z ++ F) wb (by rw [fps_cons]; exact .head _) ?_ fun c' hc' => ?_
    · show ((a :: ownA ks) ++ ([p] ++ [])).Perm ((a :: ownA (ks ++ [some p])) ++ [])
      rw [eo, List.append_nil, List.append_nil]
      exact List.Perm.refl _
    · rcases List.mem_cons.mp hc' with e | e
      · subst e
        refine ⟨dx, _, _, rfl, upd_same, Flds.snocL (by rw [upd_ne hpa]; exact hp1) (Dt.monoAll kk _ _ hp2) (h2.mono kk fun p hp => upd_ne fun z => hna (by rw [← z]; exact hp))⟩
      · exact Wb.rests (r := rootO G.K Ca ns ks a (.tuple ds)) (Z := rootL G.K p (.list es) :: (Z ++ F)) wb (.head _) c' (.tail _ e)
  refine q () _ σ [] (fun m => rootO G.K Ca ns (ks ++ [some p]) a m :: Z) _ ?_ ⟨B, w3⟩ (hk2 p hpO)
  show bd E _ m = _
  rw [bd_ok e1]
  exact stp_ok em
/-- self.f op= e -/
theorem sv_faug {Z : List Root} {E : SM D D} {Cp : D → List Root} {Jn : Shp D τ} {Jl : Shp D ρ} {k : SM D (Fl τ ρ)} {rd : V → V → Hp → VK → Prop} {f : D → D → Option D} (hc : Sub Cp (fun m => rootO G.K Ca ns ks a m :: Z)) (hf : OpS G rd f) (hv : σ[j]? = some (some (.ref a))) (c : Cls G.K Ca) (n : NoAttr G.K Ca nm) (hn : ns.Nodup) (hi : ns[i]? = some nm) (hl : ns.length < 1000) (hk : ks[i]? = some none)
    (h : EV G te σ L (fun m => rootO G.K Ca ns ks a m :: Z) E) (hk2 : SV G Cp u σ L (fun m => rootO G.K Ca ns ks a m :: Z) k Jn Jl) : SV G Cp (tSeq (sFldAug G.K (tVar j) te rd nm) u) σ L (fun m => rootO G.K Ca ns ks a m :: Z) (bd (bd (rdS (fldD i)) fun o => bd E fun y => bd (of (f o y)) fun z => stp fun m => fsetD i m z) fun _ => k) Jn Jl := by
  refine sv_bd hc fun m F L' H e s w q b => ?_
  obtain ⟨o, eo⟩ := rdS_nb b.fst.2
  have b0 := b.snd (rdS_ok eo)
  obtain ⟨B0, wb0⟩ := w
  obtain ⟨dx0, ds0, vs0, rfl, h10, h20⟩ := wb0.rt _ (.head _)
  obtain ⟨v0, hv0, hd0⟩ := h20.get hk (show ds0[i]? = some o from eo)
  refine ⟨.ref a, hv, a, Ca, dx0, _, v0, rfl, h10, c, n, zip_look hn hi hv0, ?_⟩
  refine h _ F ((v0, o) :: L') H _ (fun f hf => .tail _ (s f hf)) ⟨B0, wb0.fact hd0⟩ (fun y m1 vy H1 e1 w1 => ?_) (b0.fst.mono fun f hf => .tail _ hf)
  have b1 := b0.snd e1
  cases ef : f o y with
  | none => rw [ef] at b1; exact absurd rfl b1.2
  | some z =>
    rw [ef] at b1
    refine hf _ _ H1 v0 vy o y z _ w1 (.tail _ (.head _)) (.head _) ef fun vz H2 w2 => ?_
    have b2 := b1.snd (show of (some z) m1 = .ok z m1 from rfl)
    obtain ⟨m', em⟩ := stp_nb b2.2
    obtain ⟨B, wb⟩ := w2
    obtain ⟨dx, ds, vs, rfl, h1, h2⟩ := wb.rt _ (.head _)
    have hlen := h2.len
    have hi2 : i < ks.length := (List.getElem?_eq_some_iff.mp hk).1
    have em2 : m' = .tuple (ds.set i z) := by
      have : fsetD i (.tuple ds) z = some (.tuple (ds.set i z)) := if_pos (by omega)
      rw [this] at em; cases em; rfl
    subst em2
    refine ⟨dx, _, h1, zip_lt vs hl, ?_⟩
    rw [zip_put hn hi (by omega)]
    have nb : ¬ B a := wb.nb a (by rw [List.cons_append, fps_cons]; exact .head _)
    have kk : Kp B H2 B (upd H2 a (.ins Ca dx (ns.zip (vs.set i vz)))) := fun p o b e => ⟨b, by rw [upd_ne fun z => nb (by rw [← z]; exact b)]; exact e⟩
    have hna : a ∉ ownA ks := by
      have := wb.nd
      rw [List.cons_append, fps_cons] at this
      exact (List.nodup_cons.mp (List.nodup_append.mp this).1).1
    have w3 : Wb G.K G.O B ((vz, z) :: (vy, y) :: (v0, o) :: L') ((rootO G.K Ca ns ks a (.tuple (ds.set i z)) :: Z) ++ F) (upd H2 a (.ins Ca dx (ns.zip (vs.set i vz)))) := by
      refine Wb.reroot (r := rootO G.K Ca ns ks a (.tuple ds)) (Z := Z ++ F) wb (.head _) (List.Perm.refl _) fun c' hc' => ?_
      rcases List.mem_cons.mp hc' with e | e
      · subst e
        refine ⟨dx, _, _, rfl, upd_same, Flds.set (Dt.mono kk _ _ (wb.ft _ (.head _))) (h2.mono kk fun p hp => upd_ne fun z => hna (by rw [← z]; exact hp)) hk⟩
      · exact Wb.rests (r := rootO G.K Ca ns ks a (.tuple ds)) (Z := Z ++ F) wb (.head _) c' e
    refine q () _ σ [] (fun m => rootO G.K Ca ns ks a m :: Z) _ ?_ ⟨B, w3.fts fun f hf => w3.ft f (.tail _ (.tail _ (.tail _ hf)))⟩ hk2
    rw [bd_ok (rdS_ok eo), bd_ok e1, ef]
    exact stp_ok em
/-- self.f.append(e), f an own list -/
theorem sv_fapp {Z : List Root} {E : SM D D} {Cp : D → List Root} {Jn : Shp D τ} {Jl : Shp D ρ} {k : SM D (Fl τ ρ)} (hc : Sub Cp (fun m => rootO G.K Ca ns ks a m :: Z)) (hv : σ[j]? = some (some (.ref a))) (c : Cls G.K Ca) (n : NoAttr G.K Ca nm) (hn : ns.Nodup) (hi : ns[i]? = some nm) (hk : ks[i]? = some (some l))
    (h : EV G te σ L (fun m => rootO G.K Ca ns ks a m :: Z) E) (hk2 : SV G Cp u σ L (fun m => rootO G.K Ca ns ks a m :: Z) k Jn Jl) : SV G Cp (tSeq (tDrop (tBM G.K "list" rAppend (tFld G.K (tVar j) nm) (tCons te tNil))) u) σ L (fun m => rootO G.K Ca ns ks a m :: Z) (bd (bd E fun y => stp fun m => fappD i m y) fun _ => k) Jn Jl := by
  refine sv_bd hc fun m F L' H e s w q b => ?_
  obtain ⟨B0, wb0⟩ := id w
  obtain ⟨dx0, ds0, vs0, rfl, h10, h20⟩ := wb0.rt _ (.head _)
  obtain ⟨xs0, es0, hv0, _, hl0, _⟩ := h20.getL hk
  refine ⟨.ref a, hv, a, Ca, dx0, _, _, rfl, h10, c, n, zip_look hn hi hv0, .inl ⟨rfl, xs0, SqL.of hl0⟩, ?_⟩
  refine h _ F L' H _ s w (fun y m1 vy H1 e1 w1 => ?_) b.fst
  have b1 := b.snd e1
  obtain ⟨m', em⟩ := stp_nb b1.2
  obtain ⟨B, wb⟩ := w1
  obtain ⟨dx, ds, vs, rfl, h1, h2⟩ := wb.rt _ (.head _)
  obtain ⟨xs, es, hv1, hd1, hl1, ha1⟩ := h2.getL hk
  have ef : fappD i (.tuple ds) y = (if es.length < sizeLine then some (.tuple (ds.set i (.list (es ++ [y])))) else none) := by
    show (match ds[i]? with | some (.list es) => if es.length < sizeLine then some (PyData.tuple (ds.set i (.list (es ++ [y])))) else none | _ => none) = _
    rw [hd1]
  by_cases cz : es.length < sizeLine
  · rw [if_pos cz] at ef
    rw [ef] at em
    cases em
    refine ⟨l, xs, vy, rfl, rfl, hl1, by rw [ha1.len]; exact cz, ?_⟩
    have hnd := wb.nd
    rw [List.cons_append, fps_cons] at hnd
    have hfn : (a :: ownA ks).Nodup := (List.nodup_append.mp hnd).1
    have hlm : l ∈ ownA ks := List.mem_filterMap.mpr ⟨some l, List.mem_of_getElem? hk, rfl⟩
    have nla : a ≠ l := fun z => (List.nodup_cons.mp hfn).1 (by rw [z]; exact hlm)
    have nb : ¬ B l := wb.nb l (by rw [List.cons_append, fps_cons]; exact List.mem_append.mpr (.inl (.tail _ hlm)))
    have kk : Kp B H1 B (upd H1 l (.lst (xs ++ [vy]))) := fun p o b e => ⟨b, by rw [upd_ne fun z => nb (by rw [← z]; exact b)]; exact e⟩
    have w3 : Wb G.K G.O B ((vy, y) :: L') ((rootO G.K Ca ns ks a (.tuple (ds.set i (.list (es ++ [y])))) :: Z) ++ F) (upd H1 l (.lst (xs ++ [vy]))) := by
      refine Wb.reroot (r := rootO G.K Ca ns ks a (.tuple ds)) (Z := Z ++ F) wb (.tail _ hlm) (List.Perm.refl _) fun c' hc' => ?_
      rcases List.mem_cons.mp hc' with e | e
      · subst e
        refine ⟨dx, _, vs, rfl, by rw [upd_ne nla]; exact h1, Flds.monoX kk upd_same ?_ (List.nodup_cons.mp hfn).2 hk (fun p _ hp => upd_ne hp) h2⟩
        exact (Dt.monoAll kk _ _ ha1).app (.cons (Dt.mono kk _ _ (wb.ft _ (.head _))) .nil)
      · exact Wb.rests (r := rootO G.K Ca ns ks a (.tuple ds)) (Z := Z ++ F) wb (.tail _ hlm) c' e
    refine q () _ σ [] (fun m => rootO G.K Ca ns ks a m :: Z) _ ?_ ⟨B, w3.fts fun f hf => w3.ft f (.tail _ hf)⟩ hk2
    rw [bd_ok e1]
    exact stp_ok ef
  · rw [if_neg cz] at ef
    rw [ef] at em
    cases em
end
/-! ### objects: methods called, objects made, bodies -/
namespace SM
def foc2 {μ τ τ' ρ : Type} (R : SM D (Fl τ' Empty)) (d : D) (k : τ' → D → SM μ (Fl τ ρ)) : SM μ (Fl τ ρ) := bd (foc R d) fun q => k q.1 q.2
end SM
theorem len0 {ls : List Addr} (h : ls.length = 0) : ∃ _ : Unit, ls = [] := ⟨(), List.eq_nil_of_length_eq_zero h⟩
theorem len1 {ls : List Addr} (h : ls.length = 1) : ∃ a, ls = [a] := match ls, h with | [a], _ => ⟨a, rfl⟩
theorem len2 {ls : List Addr} (h : ls.length = 2) : ∃ a b, ls = [a, b] := match ls, h with | [a, b], _ => ⟨a, b, rfl⟩
section
open SM
variable {X : Cx} {μ τ τ' ρ : Type} {G : Gx} {σ : St} {L : List (V × D)} {te ta tb tc : TE} {tt tu : TT} {t u : TS} {i j : Nat} {v : V} {x d : D} {a Ca l : Addr} {ns : List Str} {nm : Str} {nl : Nat} {kf : List Addr → List (Option Addr)} {ls : List Addr}
/-- what is first among all, and what it may not be -/
theorem Wb.firstR {K : PySem.W.Frag} {O : Og} {B : Addr → Prop} {r : Root} {Z : List Root} {H : Hp} (wb : Wb K O B L (r :: Z) H) : (∀ p ∈ r.fp H, ¬ B p) ∧ (r.fp H).Nodup := by
  refine ⟨fun p hp => wb.nb p (by rw [fps_cons]; exact List.mem_append.mpr (.inl hp)), ?_⟩
  have := wb.nd
  rw [fps_cons] at this
  exact (List.nodup_append.mp this).1
/-- o.m(..), o the object that is the state -/
theorem ev_cM {ta : TA} {Z : List Root} {Es : SM D (List D)} {mf : List D → SM D D} {n : Nat} {m0 : Str} (hσ : σ[i]? = some (some (.ref a))) (hm : m0 ∉ ns) (hls : ls.length = nl) (hn : ∀ ds m, mf ds m ≠ .bad → ds.length = n) (h : AV G ta σ L (fun m => rootO G.K Ca ns (kf ls) a m :: Z) Es) :
    EV G (tMeth Ca m0 (SpM G.K Ca ns nl kf n mf) [] E0 (tVar i) ta) σ L (fun m => rootO G.K Ca ns (kf ls) a m :: Z) (cD mf Es) := by
  intro m F L' H Q s w q b
  obtain ⟨B0, wb0⟩ := id w
  obtain ⟨dx0, ds0, vs0, rfl, h10, h20⟩ := wb0.rt _ (.head _)
  refine ⟨.ref a, hσ, a, dx0, _, rfl, h10, zip_nolook hm, h _ F L' H _ s w (fun xs m1 vs H1 L2 e1 s2 i2 w1 => ?_) b.fst⟩
  have b1 := b.snd e1
  have er : cD mf Es (.tuple ds0) = qx (mf xs) m1 := bd_ok e1
  obtain ⟨x, m', ex⟩ := qx_nb b1.2
  show SpM G.K Ca ns nl kf n mf (.ref a :: (vs ++ [])) H1 Q E0
  rw [List.append_nil]
  obtain ⟨B, wb⟩ := w1
  obtain ⟨f1, f2⟩ := Wb.firstR (Z := Z ++ F) wb
  refine ⟨by rw [List.length_cons, i2.len, hn xs m1 (by rw [ex]; intro z; cases z)], B, a, vs, xs, m1, x, m', ls, rfl, wb.bo, hls, f1, f2, i2.dt wb.ft, wb.rt _ (.head _), ex, fun v H' B' hk h1 h2 hb hd hr => ?_⟩
  have w2 := Wb.chgG (Z := Z ++ F) wb (r' := rootO G.K Ca ns (kf ls) a m') (fun p hp => .inl hp) ((rootO G.K Ca ns (kf ls) a m').occ hr) f2 hb hk h1 h2 hr
  refine q x m' v H' (er.trans (qx_ok ex)) ⟨B', (w2.fact hd).fts fun f hf => ?_⟩
  rcases List.mem_cons.mp hf with e | e
  · subst e; exact hd
  · exact w2.ft f (s2 f e)
/-- a statement over an object that stands beside the state -/
theorem sv_focus {R : SM D (Fl τ' Empty)} {k : τ' → D → SM μ (Fl τ ρ)} {C Cp : μ → List Root} {Z : μ → List Root} {Jn : Shp μ τ} {Jl : Shp μ ρ} {r : D → Root} (J : τ' → St → List (V × D) → Prop) (Z' : τ' → μ → List Root) (C' : τ' → D → μ → List Root) (hc : Sub Cp C) (hC : ∀ m, (C m).Perm (r d :: Z m)) (hC' : ∀ s d' m, (r d' :: Z' s m).Perm (C' s d' m))
    (h1 : ∀ m, SV G (fun _ => []) t σ L (fun d => r d :: Z m) R (fun s σ' L2 C2 => J s σ' L2 ∧ C2 = fun d => r d :: Z' s m) (fun z _ _ _ => z.elim))
    (h2 : ∀ s d' σ' L2, J s σ' L2 → SV G Cp u σ' (L2 ++ L) (C' s d') (k s d') Jn Jl) : SV G Cp (tSeq t u) σ L C (foc2 R d k) Jn Jl := by
  show SV G Cp (tSeq t u) σ L C (bd (foc R d) fun q => k q.1 q.2) Jn Jl
  refine sv_bd hc fun m F L' H e s w q b => ?_
  have hb := b.2
  unfold foc at hb
  have ok : ∃ z d', R d = .ok (.nx z) d' := by
    cases er : R d with
    | ok o d' =>
      rw [er] at hb
      cases o with
      | nx z => exact ⟨z, d', rfl⟩
      | bk z => exact z.elim
      | ct z => exact z.elim
      | rt z => exact absurd rfl hb
    | exc e' d' => rw [er] at hb; exact absurd rfl hb
    | bad => rw [er] at hb; exact absurd rfl hb
  obtain ⟨z, d', er⟩ := ok
  refine h1 m d F L' H _ s (w.perm ((hC m).append_right F)) ?_ (fun z => z.elim) (fun z => z.elim) ?_ ⟨fun e' m' cls d2 H' y => ?_, fun y => ?_⟩
  · intro z2 d2 σ' L2 C2 H' e2 hj w2
    obtain ⟨j1, rfl⟩ := hj
    rw [er] at e2
    cases e2
    refine q (z, d') m σ' L2 (C' z d') H' ?_ (w2.perm ((hC' z d' m).append_right F)) (h2 z d' σ' L2 j1)
    unfold foc
    rw [er]
  · intro x m' v H' L1 C1 e2
    rw [er] at e2; cases e2
  · rw [er] at y; cases y
  · rw [er] at y; cases y
theorem sv_solo {R : SM μ (Fl τ ρ)} {C Cp : μ → List Root} {Jn : Shp μ τ} {Jl : Shp μ ρ} (h : SV G Cp (tSeq t tNext) σ L C R Jn Jl) : SV G Cp t σ L C R Jn Jl := h
/-- x = C(..) -/
theorem sv_make {ta : TA} {C Cp : μ → List Root} {Es : SM μ (List D)} {mf : List D → SM D D} {n : Nat} {k : D → SM μ (Fl τ ρ)} {Jn : Shp μ τ} {Jl : Shp μ ρ} {σ' : V → St} {C' : Addr → List Addr → D → μ → List Root} (hc : Sub Cp C) (hn : ∀ ds m, mf ds m ≠ .bad → ds.length = n) (h : AV G ta σ L C Es) (hσ : ∀ v, σ.set i (some v) = σ' v) (hC : ∀ p ls d m, (rootO G.K Ca ns (kf ls) p d :: C m).Perm (C' p ls d m))
    (hk : ∀ p ls d, ls.length = nl → p ∉ G.O.fp → SV G Cp u (σ' (.ref p)) L (C' p ls d) (k d) Jn Jl) : SV G Cp (tSeq (tAsg (tMake Ca (SpI G.K Ca ns nl kf n mf) [] E0 ta) (gName i)) u) σ L C (bd (bd Es fun xs => mkD (mf xs)) k) Jn Jl := by
  refine sv_bd hc fun m F L' H e s w q b => ?_
  refine h m F L' H _ s w (fun xs m1 vs H1 L2 e1 s2 i2 w1 p dx hp hdx hne => ?_) b.fst
  have b1 := b.snd e1
  have hb := b1.2
  unfold mkD at hb
  have ok : ∃ d, mf xs (.tuple []) = .ok .none d := by
    cases er : mf xs (.tuple []) with
    | ok o d' =>
      rw [er] at hb
      cases o <;> first | exact ⟨d', rfl⟩ | exact absurd rfl hb
    | exc e' d' => rw [er] at hb; exact absurd rfl hb
    | bad => rw [er] at hb; exact absurd rfl hb
  obtain ⟨d, ed⟩ := ok
  rw [List.append_nil]
  obtain ⟨B, wb⟩ := w1
  have sm0 : Same H1 (upd (upd H1 dx (.own p)) p (.ins Ca dx [])) := fun b u q => by
    rw [upd_ne (ne_of_none q hp), upd_ne (ne_of_none q hdx)]; exact q
  have nbp : ¬ B p := fun z => by
    obtain ⟨o, ho⟩ := wb.bo p z
    rw [hp] at ho; cases ho
  refine ⟨by rw [List.length_cons, i2.len, hn xs _ (by rw [ed]; intro z; cases z)], B, p, dx, vs, xs, d, rfl, upd_same, fun q b => ?_, nbp, Dt.monoAll (fun q o b e => ⟨b, sm0 q o e⟩) _ _ (i2.dt wb.ft), ed, fun H' B' ls hls hk2 h1 h2 hfr hfn hfb hr => ⟨rfl, ?_⟩⟩
  · obtain ⟨o, ho⟩ := wb.bo q b
    exact ⟨o, sm0 q o ho⟩
  · show u e (σ.set i (some (.ref p))) H'
    rw [hσ]
    have free : ∀ {q : Addr}, (upd (upd H1 dx (.own p)) p (.ins Ca dx [])) q = none → H1 q = none := fun {q} hq => by
      cases z : H1 q with
      | none => rfl
      | some o => rw [sm0 q o z] at hq; cases hq
    have sm : Same H1 H' := fun b u q => hk2 b u (ne_of_none q hp) (sm0 b u q)
    have h2' : ∀ q, B' q → B q ∨ (H1 q = none ∧ ∃ o, H' q = some o) := fun q b => (h2 q b).imp id fun z => ⟨free z.1, z.2⟩
    have wg := wb.grow sm h1 h2'
    have hfn1 : ∀ q ∈ p :: ownA (kf ls), H1 q = none := fun q hq => by
      rcases hfr q hq with z | z
      · rw [z]; exact hp
      · exact free z
    have w2 : Wb G.K G.O B' L2 (rootO G.K Ca ns (kf ls) p d :: (C m1 ++ F)) H' := by
      refine ⟨wg.lo, wg.hi, ?_, fun q hq => ?_, fun q hq => ?_, fun c hc => ?_, wg.ft, wg.kp, wg.oc, wg.bo⟩
      · rw [fps_cons]
        refine List.nodup_append.mpr ⟨hfn, wg.nd, fun a ha b hb z => ?_⟩
        subst z
        exact wb.free (hfn1 a ha) (by rw [← wb.same sm]; exact hb)
      · rw [fps_cons] at hq
        rcases List.mem_append.mp hq with z | z
        · exact hfb q z
        · exact wg.nb q z
      · rw [fps_cons] at hq
        rcases List.mem_append.mp hq with z | z
        · exact .inr (wb.none (hfn1 q z))
        · exact wg.fr q z
      · rcases List.mem_cons.mp hc with z | z
        · subst z; exact hr
        · exact wg.rt c z
    have w3 : Wd G.K G.O L2 (C' p ls d m1 ++ F) H' := Wd.perm (C := rootO G.K Ca ns (kf ls) p d :: (C m1 ++ F)) ⟨B', w2⟩ ((hC p ls d m1).append_right F)
    refine q d m1 (σ' (.ref p)) [] (C' p ls d) H' ?_ (w3.sub fun f hf => s2 f hf) (hk p ls d hls (wb.nofp hp))
    rw [bd_ok e1]
    show mkD (mf xs) m1 = _
    unfold mkD
    rw [ed]
/-- the body of a method -/
theorem body_M {K : PySem.W.Frag} {n : Nat} {mf : List D → SM D D} {ts : TS} {N : List Str} {H : Hp} {vs : List V} {Q : VK} {E : XK} (hsp : SpM K Ca ns nl kf n mf vs H Q E)
    (h : ∀ (a : Addr) (us : List V) (ds : List D) (ls : List Addr) (O : Og), vs = .ref a :: us → us.length = ds.length → ls.length = nl → ∃ (R : SM D (Fl Unit Empty)), mf ds = fin R ∧ SV ⟨K, O, E0, noX, rfF⟩ (fun m => [rootO K Ca ns (kf ls) a m]) ts (start N vs) (us.zip ds) (fun m => [rootO K Ca ns (kf ls) a m]) R (fun _ _ _ C2 => C2 = fun m => [rootO K Ca ns (kf ls) a m]) (fun z _ _ _ => z.elim)) : ts { nx := fun _ H' => Q .non H', rt := Q } (start N vs) H := by
  obtain ⟨_, B, a, us, ds, m, x, m', ls, rfl, hb, hls, hnB, hnd, hd, hr, ex, q⟩ := hsp
  obtain ⟨R, hR, hS⟩ := h a us ds ls ⟨B, H, a :: ownA (kf ls)⟩ rfl hd.len hls
  have w0 : Wd K ⟨B, H, a :: ownA (kf ls)⟩ (us.zip ds) ([rootO K Ca ns (kf ls) a m] ++ []) H := by
    have ef : fps ([rootO K Ca ns (kf ls) a m] ++ []) H = a :: ownA (kf ls) := by
      rw [List.append_nil, fps_cons]
      show (a :: ownA (kf ls)) ++ [] = _
      rw [List.append_nil]
    refine ⟨B, fun p b => b, fun p b => .inl b, by rw [ef]; exact hnd, fun p hp => hnB p (by rw [← ef]; exact hp), fun p hp => .inl (by rw [← ef]; exact hp), fun c hc => ?_, zip_dt hd, fun p o _ e => e, (rootO K Ca ns (kf ls) a m).occ hr, hb⟩
    have : c = rootO K Ca ns (kf ls) a m := by simpa using hc
    subst this; exact hr
  rw [hR] at ex
  have fin2 : ∀ {m2 : D} {x2 : D} {v : V} {H' : Hp}, fin R m = .ok x2 m2 → Wd K ⟨B, H, a :: ownA (kf ls)⟩ [(v, x2)] ([rootO K Ca ns (kf ls) a m2] ++ []) H' → Q v H' := fun {m2 x2 v H'} e w => by
    rw [ex] at e
    cases e
    obtain ⟨B', wb⟩ := w
    refine q v H' B' (fun p o hp e => wb.kp p o hp e) wb.lo (fun p b => ?_) (fun p hp => wb.nb p ?_) (wb.ft _ (.head _)) (wb.rt _ (.head _))
    · rcases wb.hi p b with z | z
      · exact .inl z
      · exact .inr ⟨z, wb.bo p b⟩
    · rw [List.append_nil, fps_cons]
      exact List.mem_append.mpr (.inl hp)
  refine hS m [] (us.zip ds) H _ (fun f hf => hf) w0 ?_ ?_ ?_ ?_ ?_
  · intro s m2 σ' L2 C2 H' e hC2 w
    rw [show C2 = fun m => [rootO K Ca ns (kf ls) a m] from hC2] at w
    exact fin2 (x2 := .none) (bd_ok e) ((w.fact (v := .non) (d := .none) fun _ _ => .non).sub fun f hf => by
      rw [List.mem_singleton.mp hf]; exact .head _)
  · intro s; exact s.elim
  · intro s; exact s.elim
  · rintro x2 m2 v H' _ _ e ⟨rfl, rfl⟩ w
    exact fin2 (bd_ok e) (w.sub fun f hf => by rw [List.mem_singleton.mp hf]; exact .head _)
  · refine ⟨fun e m' cls d H' z => ?_, fun z => ?_⟩
    · have e2 : fin R m = .exc e m' := bd_exc z
      rw [e2] at ex; cases ex
    · have e2 : fin R m = .bad := bd_bad z
      rw [e2] at ex; cases ex
/-- the body of what makes an object -/
theorem body_I {K : PySem.W.Frag} {n : Nat} {mf : List D → SM D D} {ts : TS} {N : List Str} {H : Hp} {vs : List V} {Q : VK} {E : XK} (hsp : SpI K Ca ns nl kf n mf vs H Q E)
    (h : ∀ (a : Addr) (us : List V) (ds : List D) (O : Og), vs = .ref a :: us → us.length = ds.length → O.fp = [a] → ∃ (R : SM D (Fl Unit Empty)), mf ds = fin R ∧ SV ⟨K, O, E0, noX, fun _ _ _ _ => False⟩ (fun _ => []) ts (start N vs) (us.zip ds) (fun m => [rootO K Ca ns [] a m]) R (fun _ _ _ C2 => ∃ ls : List Addr, ls.length = nl ∧ C2 = fun m => [rootO K Ca ns (kf ls) a m]) (fun z _ _ _ => z.elim)) : ts { nx := fun _ H' => Q .non H', rt := Q } (start N vs) H := by
  obtain ⟨_, B, a, dx, us, ds, m', rfl, ha, hb, hnB, hd, ex, q⟩ := hsp
  obtain ⟨R, hR, hS⟩ := h a us ds ⟨B, H, [a]⟩ rfl hd.len rfl
  have hr : (rootO K Ca ns [] a (.tuple [])).P B H := ⟨dx, [], [], rfl, by rw [List.zip_nil_right]; exact ha, .nil⟩
  have w0 : Wd K ⟨B, H, [a]⟩ (us.zip ds) ([rootO K Ca ns [] a (.tuple [])] ++ []) H := by
    have ef : fps ([rootO K Ca ns [] a (.tuple [])] ++ []) H = [a] := rfl
    refine ⟨B, fun p b => b, fun p b => .inl b, by rw [ef]; simp, fun p hp => ?_, fun p hp => .inl (by rw [← ef]; exact hp), fun c hc => ?_, zip_dt hd, fun p o _ e => e, fun p hp => ?_, hb⟩
    · rw [ef] at hp; rw [List.mem_singleton.mp hp]; exact hnB
    · have : c = rootO K Ca ns [] a (.tuple []) := by simpa using hc
      subst this; exact hr
    · rw [List.mem_singleton.mp hp]; exact ⟨_, ha⟩
  rw [hR] at ex
  refine hS (.tuple []) [] (us.zip ds) H _ (fun f hf => hf) w0 ?_ ?_ ?_ ?_ ?_
  · intro s m2 σ' L2 C2 H' e hC2 w
    obtain ⟨ls, hls, rfl⟩ := hC2
    have e2 : fin R (.tuple []) = .ok .none m2 := bd_ok e
    rw [e2] at ex
    cases ex
    obtain ⟨B', wb⟩ := w
    obtain ⟨f1, f2⟩ := Wb.firstR (Z := []) wb
    refine q H' B' ls hls (fun p o hp e => wb.kp p o (by intro z; exact hp (List.mem_singleton.mp z)) e) wb.lo (fun p b => ?_) (fun p hp => ?_) f2 f1 (wb.rt _ (.head _))
    · rcases wb.hi p b with z | z
      · exact .inl z
      · exact .inr ⟨z, wb.bo p b⟩
    · rcases wb.fr p (by rw [List.append_nil, fps_cons]; exact List.mem_append.mpr (.inl hp)) with z | z
      · exact .inl (List.mem_singleton.mp z)
      · exact .inr z
  · intro s; exact s.elim
  · intro s; exact s.elim
  · intro x m2 v H' L1 C1 e z
    exact z.elim
  · refine ⟨fun e m' cls d H' z => ?_, fun z => ?_⟩
    · have e2 : fin R (.tuple []) = .exc e m' := bd_exc z
      rw [e2] at ex; cases ex
    · have e2 : fin R (.tuple []) = .bad := bd_bad z
      rw [e2] at ex; cases ex
end
/-! ### comprehensions over tuples of four -/
section
open SM
variable {X : Cx} {μ : Type} {G : Gx} {σ : St} {L : List (V × D)} {C : μ → List Root} {te : TE} {tt : TT}
theorem ev_lc4 {wi : TI} {I : SM μ (List D)} {T : D → D → D → D → SM μ Bool} {E : D → D → D → D → SM μ D} {vs : List Nat} {i j l k : Nat} {σ2 : V → V → V → V → St} (hi : IV G wi σ L C I) (hσ : ∀ v w z y, ((((wipe σ vs).set i (some v)).set j (some w)).set l (some z)).set k (some y) = σ2 v w z y) (hw : ∀ v w z y, wipe (σ2 v w z y) vs = wipe σ vs)
    (hT : ∀ v w z y x x2 x3 x4, TV G tt (σ2 v w z y) ((v, x) :: (w, x2) :: (z, x3) :: (y, x4) :: L) C (T x x2 x3 x4)) (hE : ∀ v w z y x x2 x3 x4, EV G te (σ2 v w z y) ((v, x) :: (w, x2) :: (z, x3) :: (y, x4) :: L) C (E x x2 x3 x4)) : EV G (tLc wi (gTup G.K 4 (gCons (gName i) (gCons (gName j) (gCons (gName l) (gCons (gName k) gNil))))) tt te vs) σ L C (lc I (fun z => unp4 z T) (fun z => unp4 z E)) :=
  ev_lcG hi fun v x m F L' H Q s w b q => by
    unfold unp4 at b
    split at b
    · next a c e f =>
      obtain ⟨p, us, rfl, hl, hlen, w2⟩ := dt_parts w (s _ (.head _))
      match us, hlen with
      | [v1, v2, v3, v4], _ =>
        refine ⟨p, [v1, v2, v3, v4], rfl, hl, rfl, v1, [v2, v3, v4], rfl, v2, [v3, v4], rfl, v3, [v4], rfl, v4, [], rfl, rfl, ?_⟩
        show Q (((((wipe σ vs).set i (some v1)).set j (some v2)).set l (some v3)).set k (some v4)) H
        rw [hσ]
        have s2 : ∀ g ∈ (v1, a) :: (v2, c) :: (v3, e) :: (v4, f) :: L, g ∈ [v1, v2, v3, v4].zip [a, c, e, f] ++ L' := fun g hg => by
          rcases List.mem_cons.mp hg with e | hg
          · rw [e]; exact .head _
          · rcases List.mem_cons.mp hg with e | hg
            · rw [e]; exact .tail _ (.head _)
            · rcases List.mem_cons.mp hg with e | hg
              · rw [e]; exact .tail _ (.tail _ (.head _))
              · rcases List.mem_cons.mp hg with e | hg
                · rw [e]; exact .tail _ (.tail _ (.tail _ (.head _)))
                · exact .tail _ (.tail _ (.tail _ (.tail _ (s g (.tail _ hg)))))
        exact q (σ2 v1 v2 v3 v4) _ (fun f hf => .tail _ (.tail _ (.tail _ (.tail _ hf)))) (hw v1 v2 v3 v4) w2 ((hT v1 v2 v3 v4 a c e f).sub s2) ((hE v1 v2 v3 v4 a c e f).sub s2)
    · exact absurd rfl b
end
/-! ### what is walked and unpacked while an exception is handled -/
section
open PySem PySem.Spec PyProof.Rows HotX
variable {prog : Program} {w : World} {A : Around} {E : Value → Shared → Prop} {s : Shared}
theorem hot_ne2 {x1 b : Addr} {h : Heap} {o : Obj} {vs : Array Value} (hot : HotAt A x1 h) (hb : h.get? b = some o) (hd : o.data = .fields vs) (hs : vs.size ≤ 2) : x1 ≠ b := fun e => by
  obtain ⟨_, o1, v1, h1, d1, c1⟩ := hot
  rw [e, hb] at h1
  cases h1
  rw [hd] at d1
  cases d1
  have := (Array.getElem?_eq_some_iff.mp c1).1
  omega
theorem hot_keep {x1 : Addr} {h h' : Heap} (hot : HotAt A x1 h) (k : ∀ o, h.get? x1 = some o → h'.get? x1 = some o) : HotAt A x1 h' := by
  obtain ⟨hh, o1, v1, h1, d1, c1⟩ := hot
  exact ⟨hh, o1, v1, k _ h1, d1, c1⟩
/-- the last object pushed is changed -/
theorem ext_upd {it : Addr} {h h1 : Heap} {o3 : Obj} {f : Obj → Obj} (x : Heap.ExtBut it h h1) : Heap.ExtBut it h ((h1.push o3).update h1.objs.size f) := fun b o hb e => by
  have e1 := x b o hb e
  rw [Heap.get?_update_other _ _ (Nat.ne_of_gt (Heap.lt_size e1))]
  exact Heap.get?_push_of_some _ e1
theorem next_tuple_end_hot {it t x1 : Addr} {i : Nat} {items : Array Value} {Q : Option Value → Shared → Prop} (hot : HotAt A x1 s.heap)
    (hit : IsTupIter s.heap it t i) (ht : IsTup s.heap t items) (hx : items[i]? = none)
    (hQ : ∀ h', Heap.ExtBut it s.heap h' → Q none { s with heap := h' }) : wpAny (model prog w) A (pyNext (.ref it)) Q E s := by
  obtain ⟨o, ho, hc, hd⟩ := id hit
  have hne : x1 ≠ it := hot_ne2 hot ho hd (by simp)
  obtain ⟨hh, o1, vs1, h1, d1, c1⟩ := hot
  obtain ⟨ol, hol, _, nl, hdl⟩ := ht
  unfold pyNext
  refine wpAny_bind (wpAny_attempt (wpAny_callSpecial?_slot (name := Str.ofString "__next__") hit.typeIs slot_tupleiter_next
    (wpAny_call_entry slot_tupleiter_next hit.typeIs entry_tupleiter_next ?_ (args_tupleiter_next _))))
  show wpAny _ _ (field (.ref it) 0 >>= _) _ _ s
  refine wpAny_bind (wpAny_field ho hd (x := .ref t) rfl ?_)
  show wpAny _ _ (if (Value.ref t == Value.none) = true then _ else _) _ _ s
  rw [if_neg (show ¬ ((Value.ref t == Value.none) = true) from Bool.false_ne_true)]
  show wpAny _ _ (field (.ref it) 1 >>= _) _ _ s
  refine wpAny_bind (wpAny_field ho hd (x := .int i 0) rfl ?_)
  show wpAny _ _ (seqItems? (.ref t) >>= _) _ _ s
  refine wpAny_bind (wpAny_seqItems hol hdl ?_)
  simp only [Int.toNat_natCast, hx]
  refine wpAny_bind (wpAny_rule (wpAny_bind (wpAny_setField ho hd (by simp) ?_)))
  show wpAny _ _ (newExc (.type "StopIteration") [] >>= _) _ _ _
  refine wpAny_bind ?_
  simp only [newExc, newTuple]
  refine wpAny_bind (wpAny_newObj_type ?_ (by size_fits))
  refine wpAny_bind (m := firstArgMember _ _) (wpAny_of_eq (a := Value.none) (by first | rfl | (simp only [firstArgMember]; rfl)) ?_)
  refine wpAny_newObj_type ?_ (by size_fits)
  have k : ∀ {f : Obj → Obj} {o2 o3 : Obj}, (((s.heap.update it f).push o2).push o3).get? x1 = some o1 := fun {f o2 o3} => Heap.get?_push_of_some _ (Heap.get?_push_of_some _ ((Heap.get?_update_other _ _ (Ne.symm hne)).trans h1))
  refine raiseNew_hot ⟨hh, o1, vs1, k, d1, c1⟩ (Nat.ne_of_lt (Heap.lt_size (Heap.get?_push_of_some _ ((Heap.get?_update_other _ _ (Ne.symm hne)).trans h1)))) (Heap.get?_push_size _ rfl) rfl (by first | (simp; done) | (simp; omega)) ?_
  refine wpAny_bind (wpAny_isInstance (T := "StopIteration") (b := true) ⟨_, Heap.get?_update_self _ (Heap.get?_push_size _ rfl) rfl, rfl⟩ isSubtype_stop ?_)
  exact wpAny_pure (hQ _ (ext_upd ((Heap.SameBut.update ..).extBut.push _)))
theorem unpackItems_tuple_hot {t x1 : Addr} {items : Array Value} {Q : List Value → Shared → Prop} (hot : HotAt A x1 s.heap) (ht : IsTup s.heap t items)
    (hQ : ∀ h', Heap.ExtBut s.heap.objs.size s.heap h' → Q items.toList { s with heap := h' }) : wpAny (model prog w) A (unpackItems (.ref t) items.size none) Q E s := by
  have hlt : t ≠ s.heap.objs.size := by obtain ⟨o, ho, _⟩ := ht; exact Nat.ne_of_lt (Heap.lt_size ho)
  unfold unpackItems
  refine wpAny_bind ?_
  · unfold notIterableAtAll
    refine wpAny_bind (wpAny_specialOf ht.typeIs slot_tuple_iter.lookup ?_)
    refine wpAny_pure ?_
    simp only [Bool.false_eq_true, if_false]
    refine wpAny_bind (wpAny_holding (iter_tuple ht ?_))
    refine wpAny_bind (wpAny_holding (draw_tuple hlt items.size 0 _ _ ⟨_, Heap.get?_push_size _ rfl, rfl, rfl⟩ (ht.push _) (by omega) fun h₁ hit₁ hs₁ => ?_))
    have hall : List.take items.size (List.drop 0 items.toList) = items.toList := by
      rw [List.drop_zero]; exact List.take_of_length_le (by simp)
    rw [hall]
    rw [if_neg (by simp)]
    have ht₁ : IsTup h₁ t items := (ht.push _).extBut hs₁.extBut hlt
    have hot1 : HotAt A x1 h₁ := hot_keep hot fun o e => hs₁.extBut x1 o (Nat.ne_of_lt (Heap.lt_size e)) (Heap.get?_push_of_some _ e)
    refine wpAny_bind (wpAny_holding (next_tuple_end_hot hot1 hit₁ ht₁ (by simp) fun h₂ he₂ => ?_))
    simp only [Option.isSome_none, Bool.false_eq_true, if_false]
    refine wpAny_pure (hQ h₂ fun b o hb e => he₂ b o hb (hs₁.extBut b o hb (Heap.get?_push_of_some _ e)))
theorem unpack_tuple_hot {t x1 : Addr} {items : Array Value} {targets : List (Bool × (Value → Sem Unit))} {Q : Unit → Shared → Prop} (hot : HotAt A x1 s.heap) (ht : IsTup s.heap t items)
    (hn : targets.length = items.size) (hstar : targets.findIdx? (·.1) = none)
    (h : ∀ h', Heap.ExtBut s.heap.objs.size s.heap h' → wpAny (model prog w) A (assignInOrder (targets.map (·.2)) items.toList) Q E { s with heap := h' }) :
    wpAny (model prog w) A (unpack (.ref t) targets) Q E s := by
  unfold unpack
  rw [hn, hstar]
  exact wpAny_bind (wpAny_holding (unpackItems_tuple_hot hot ht h))
theorem assign_Tuple_tuple_hot {env : Env} {elts : List Expr} {k1} {pos : Pos} {t x1 : Addr} {items : Array Value} {Q : Unit → Shared → Prop} (hot : HotAt A x1 s.heap) (ht : IsTup s.heap t items)
    (hn : (assignEach elts env).length = items.size) (hstar : (assignEach elts env).findIdx? (·.1) = none)
    (h : ∀ h', Heap.ExtBut s.heap.objs.size s.heap h' → wpAny (model prog w) A (assignInOrder ((assignEach elts env).map (·.2)) items.toList) Q E { s with heap := h' }) :
    wpAny (model prog w) A (assign (.Tuple elts k1 pos) env (.ref t)) Q E s := by
  rw [assign_Tuple]
  exact wpAny_bind (wpAny_standAt (unpack_tuple_hot hot ht hn hstar h))
/-! zip of two lists -/
theorem nextOf_list_end_hot {it l x1 : Addr} {i : Nat} {items : Array Value} {Q : Value → Shared → Prop} (hot : HotAt A x1 s.heap)
    (hit : s.heap.IsListIter it l i) (hl : s.heap.IsList l items) (hx : items[i]? = none)
    (hE : ∀ h' e, Heap.ExtBut it s.heap h' → (∃ o, h'.get? e = some o ∧ o.cls = .type "StopIteration") → E (.ref e) { s with heap := h' }) :
    wpAny (model prog w) A (Builtin.SmallTypes.nextOf (.ref it)) Q E s := by
  obtain ⟨o, ho, hc, hd⟩ := id hit
  have hne : x1 ≠ it := hot_ne2 hot ho hd (by simp)
  obtain ⟨hh, o1, vs1, h1, d1, c1⟩ := hot
  obtain ⟨ol, hol, _, nl, hdl⟩ := hl
  unfold Builtin.SmallTypes.nextOf
  refine wpAny_bind (wpAny_callSpecial?_slot (name := Str.ofString "__next__") hit.typeIs slot_listiter_next
    (wpAny_call_entry slot_listiter_next hit.typeIs entry_listiter_next ?_ (args_listiter_next _)))
  show wpAny _ _ (field (.ref it) 0 >>= _) _ _ s
  refine wpAny_bind (wpAny_field ho hd (x := .ref l) rfl ?_)
  show wpAny _ _ (if (Value.ref l == Value.none) = true then _ else _) _ _ s
  rw [if_neg (show ¬ ((Value.ref l == Value.none) = true) from Bool.false_ne_true)]
  show wpAny _ _ (field (.ref it) 1 >>= _) _ _ s
  refine wpAny_bind (wpAny_field ho hd (x := .int i 0) rfl ?_)
  show wpAny _ _ (seqItems? (.ref l) >>= _) _ _ s
  refine wpAny_bind (wpAny_seqItems hol hdl ?_)
  simp only [Int.toNat_natCast, hx]
  refine wpAny_bind (wpAny_rule (wpAny_bind (wpAny_setField ho hd (by simp) ?_)))
  show wpAny _ _ (newExc (.type "StopIteration") [] >>= _) _ _ _
  refine wpAny_bind ?_
  simp only [newExc, newTuple]
  refine wpAny_bind (wpAny_newObj_type ?_ (by size_fits))
  refine wpAny_bind (m := firstArgMember _ _) (wpAny_of_eq (a := Value.none) (by first | rfl | (simp only [firstArgMember]; rfl)) ?_)
  refine wpAny_newObj_type ?_ (by size_fits)
  have k : ∀ {f : Obj → Obj} {o2 o3 : Obj}, (((s.heap.update it f).push o2).push o3).get? x1 = some o1 := fun {f o2 o3} => Heap.get?_push_of_some _ (Heap.get?_push_of_some _ ((Heap.get?_update_other _ _ (Ne.symm hne)).trans h1))
  refine raiseNew_hot ⟨hh, o1, vs1, k, d1, c1⟩ (Nat.ne_of_lt (Heap.lt_size (Heap.get?_push_of_some _ ((Heap.get?_update_other _ _ (Ne.symm hne)).trans h1)))) (Heap.get?_push_size _ rfl) rfl (by first | (simp; done) | (simp; omega)) ?_
  exact hE _ _ (ext_upd ((Heap.SameBut.update ..).extBut.push _)) ⟨_, Heap.get?_update_self _ (Heap.get?_push_size _ rfl) rfl, rfl⟩
theorem hot_zip {x1 z TI TO : Addr} {f0 : Value} {h : Heap} (hot : HotAt A x1 h) (hz : IsZip h z TI TO f0) : x1 ≠ z := fun e => by
  obtain ⟨_, o1, v1, h1, d1, c1⟩ := hot
  rw [e, hz] at h1
  cases h1
  cases d1
  cases c1
theorem hot_pair {x1 T : Addr} {a b : Value} {h : Heap} (hot : HotAt A x1 h) (hz : IsPair h T a b) : x1 ≠ T := fun e => by
  obtain ⟨_, o1, v1, h1, d1, c1⟩ := hot
  rw [e, hz] at h1
  cases h1
  cases d1
theorem zip_next_end_hot {z TI TO i1 i2 l1 l2 x1 : Addr} {k1 k2 : Nat} {xs ys : Array Value} {a b : Value} {Q : Fin → Shared → Prop} (hot : HotAt A x1 s.heap) (D : ZipApart z TI TO i1 i2 l1 l2)
    (hz : IsZip s.heap z TI TO .none) (hTI : IsPair s.heap TI (.ref i1) (.ref i2)) (hTO : IsPair s.heap TO a b)
    (h1 : s.heap.IsListIter i1 l1 k1) (h2 : s.heap.IsListIter i2 l2 k2) (hl1 : s.heap.IsList l1 xs) (hl2 : s.heap.IsList l2 ys) (hend : xs[k1]? = none ∨ ys[k2]? = none)
    (hE : ∀ h' e, (∀ c o, c ≠ z → c ≠ TO → c ≠ i1 → c ≠ i2 → s.heap.get? c = some o → h'.get? c = some o) → (∃ o, h'.get? e = some o ∧ o.cls = .type "StopIteration") → E (.ref e) { s with heap := h' }) :
    wpAny (model prog w) A (Builtin.«zip.__next__» ⟨[.ref z], []⟩) Q E s := by
  have nz : x1 ≠ z := hot_zip hot hz
  have nTO : x1 ≠ TO := hot_pair hot hTO
  have n1 : x1 ≠ i1 := by obtain ⟨o, ho, _, hd⟩ := id h1; exact hot_ne2 hot ho hd (by simp)
  have n2 : x1 ≠ i2 := by obtain ⟨o, ho, _, hd⟩ := id h2; exact hot_ne2 hot ho hd (by simp)
  show wpAny _ _ (field (.ref z) 2 >>= _) _ _ _
  refine wpAny_bind (wpAny_field hz rfl (x := .bool false) rfl ?_)
  show wpAny _ _ (field (.ref z) 3 >>= _) _ _ _
  refine wpAny_bind (wpAny_field hz rfl (x := .ref TI) rfl ?_)
  refine wpAny_bind (wpAny_seqItems hTI rfl ?_)
  show wpAny _ _ (Builtin.SmallTypes.ownedTupleIsFree (.ref z) >>= _) _ _ _
  refine wpAny_bind ?_
  unfold Builtin.SmallTypes.ownedTupleIsFree
  refine wpAny_bind (wpAny_field hz rfl (x := .none) rfl (wpAny_pure ?_))
  simp only [if_true]
  refine wpAny_bind (wpAny_rule ?_)
  refine wpAny_bind (wpAny_field hz rfl (x := .ref TO) rfl ?_)
  refine wpAny_bind (wpAny_setField_rec hz (by simp) fun h₁ hz₁ hs₁ => ?_)
  replace hz₁ : IsZip h₁ z TI TO .ellipsis := hz₁
  have hot1 : HotAt A x1 h₁ := hot_keep hot fun o e => hs₁.extBut _ _ nz e
  refine wpAny_bind ?_
  simp only [List.zipIdx_cons, List.zipIdx_nil, List.forIn_cons, List.forIn_nil]
  refine wpAny_bind (wpAny_bind (wpAny_onRaise ?_))
  show wpAny _ _ (Builtin.SmallTypes.nextOf (.ref i1) >>= _) _ _ _
  cases hx : xs[k1]? with
  | none =>
    refine wpAny_bind (nextOf_list_end_hot hot1 (h1.extBut hs₁.extBut D.i1z) (hl1.extBut hs₁.extBut D.l1z) hx fun h₂ e hs₂ he => ?_)
    obtain ⟨oe, hoe, hce⟩ := he
    have hz₂ : IsZip h₂ z TI TO .ellipsis := hs₂ _ _ D.i1z.symm hz₁
    have hez : e ≠ z := fun x => by subst x; rw [hz₂] at hoe; cases hoe; simp at hce
    refine wpAny_setField_rec hz₂ (by simp) fun h₃ _ hs₃ => hE h₃ e (fun c o c1 _ c3 _ x => hs₃.extBut _ _ c1 (hs₂ _ _ c3 (hs₁.extBut _ _ c1 x))) ⟨oe, hs₃.extBut _ _ hez hoe, hce⟩
  | some x =>
    have hy : ys[k2]? = none := by rcases hend with h | h; rw [hx] at h; cases h; exact h
    refine wpAny_bind (wpAny_nextOf_list_item (h1.extBut hs₁.extBut D.i1z) (hl1.extBut hs₁.extBut D.l1z) hx fun h₂ h1₂ hs₂ => wpAny_pure ?_)
    have hTO₂ : IsPair h₂ TO a b := hs₂.extBut _ _ D.TOi1 (hs₁.extBut _ _ D.TOz hTO)
    have hot2 : HotAt A x1 h₂ := hot_keep hot1 fun o e => hs₂.extBut _ _ n1 e
    refine wpAny_bind (wpAny_seqItems hTO₂ rfl ?_)
    refine wpAny_bind (wpAny_updateSeq_pair hTO₂ fun h₃ hTO₃ hs₃ => ?_)
    have hot3 : HotAt A x1 h₃ := hot_keep hot2 fun o e => hs₃.extBut _ _ nTO e
    refine wpAny_bind (wpAny_letGo (wpAny_pure ?_))
    refine wpAny_bind (wpAny_bind (wpAny_onRaise ?_))
    show wpAny _ _ (Builtin.SmallTypes.nextOf (.ref i2) >>= _) _ _ _
    refine wpAny_bind (nextOf_list_end_hot hot3 (((h2.extBut hs₁.extBut D.i2z).extBut hs₂.extBut D.i12.symm).extBut hs₃.extBut D.TOi2.symm)
      (((hl2.extBut hs₁.extBut D.l2z).extBut hs₂.extBut D.l2i1).extBut hs₃.extBut D.l2TO) hy fun h₄ e hs₄ he => ?_)
    obtain ⟨oe, hoe, hce⟩ := he
    have hz₄ : IsZip h₄ z TI TO .ellipsis := hs₄ _ _ D.i2z.symm (hs₃.extBut _ _ D.TOz.symm (hs₂.extBut _ _ D.i1z.symm hz₁))
    have hez : e ≠ z := fun x => by subst x; rw [hz₄] at hoe; cases hoe; simp at hce
    refine wpAny_setField_rec hz₄ (by simp) fun h₅ _ hs₅ => hE h₅ e (fun c o c1 c2 c3 c4 x => hs₅.extBut _ _ c1 (hs₄ _ _ c4 (hs₃.extBut _ _ c2 (hs₂.extBut _ _ c3 (hs₁.extBut _ _ c1 x))))) ⟨oe, hs₅.extBut _ _ hez hoe, hce⟩
theorem pyNext_zip_end_hot {z TI TO i1 i2 l1 l2 x1 : Addr} {k1 k2 : Nat} {xs ys : Array Value} {a b : Value} {Q : Option Value → Shared → Prop} (hot : HotAt A x1 s.heap) (D : ZipApart z TI TO i1 i2 l1 l2)
    (hz : IsZip s.heap z TI TO .none) (hTI : IsPair s.heap TI (.ref i1) (.ref i2)) (hTO : IsPair s.heap TO a b)
    (h1 : s.heap.IsListIter i1 l1 k1) (h2 : s.heap.IsListIter i2 l2 k2) (hl1 : s.heap.IsList l1 xs) (hl2 : s.heap.IsList l2 ys) (hend : xs[k1]? = none ∨ ys[k2]? = none)
    (hQ : ∀ h', (∀ c o, c ≠ z → c ≠ TO → c ≠ i1 → c ≠ i2 → s.heap.get? c = some o → h'.get? c = some o) → Q none { s with heap := h' }) : wpAny (model prog w) A (pyNext (.ref z)) Q E s := by
  have hT : s.TypeIs (.ref z) "zip" := ⟨_, hz, rfl⟩
  unfold pyNext
  refine wpAny_bind (wpAny_attempt (wpAny_callSpecial?_slot (name := Str.ofString "__next__") hT F.slot_zip_next
    (wpAny_call_entry F.slot_zip_next hT F.entry_zip_next (zip_next_end_hot hot D hz hTI hTO h1 h2 hl1 hl2 hend fun h' e hk he => ?_) (F.args_zip_next_1 _))))
  obtain ⟨o, ho, hc⟩ := he
  refine wpAny_bind (wpAny_isInstance (T := "StopIteration") (b := true) ⟨o, ho, hc⟩ isSubtype_stop ?_)
  exact wpAny_pure (hQ _ hk)
end
/-! ### the same by contexts -/
section
open PySem PySem.Spec PyProof.Rows HotX L2H
/-- an exception is handled, and stands in every state of X -/
def HotS (X : Cx) : Prop := ∃ p : Addr × Obj, Hot1 X.A p ∧ ∀ (pins : List (Addr × Obj)) (σ : L2.St) (H : Hp) (s : Shared), Inv X pins σ H s → s.heap.get? p.1 = some p.2
theorem HotS.of {X : Cx} (h : HotC X) : HotS X := by
  obtain ⟨p, h1, hp⟩ := h
  exact ⟨p, h1, fun pins σ H s I => (I.pin p (List.mem_append_left _ hp)).1⟩
theorem HotS.at {X : Cx} {pins : List (Addr × Obj)} {σ : L2.St} {H : Hp} {s : Shared} (c : HotS X) (I : Inv X pins σ H s) : ∃ x1, HotAt X.A x1 s.heap := by
  obtain ⟨p, ⟨hh, v1, e1, c1⟩, hp⟩ := c
  exact ⟨p.1, hh, p.2, v1, hp _ _ _ _ I, e1, c1⟩
theorem HotS.blk {X : Cx} {pins : List (Addr × Obj)} {σ : L2.St} {H : Hp} {s : Shared} {scope : Scope} {ce : Env} {fp : List Addr} (h : HotC X) (I : Inv X pins σ H s) (hf : ∀ b ∈ fp, FpOk X pins H b) : HotS (X.blk s H scope ce fp) := by
  obtain ⟨p, h1, hp⟩ := h
  obtain ⟨g1, g2, g3, g4, g5⟩ := I.pin p (List.mem_append_left _ hp)
  refine ⟨p, h1, fun pins' σ' H' s' J => J.base.keep p.1 p.2 g1 g2 (fun hm => ?_) (fun hm => ?_)⟩
  · exact (List.mem_cons.mp (I.stkSub p.1 hm)).elim g3 g4
  · obtain ⟨_, _, _, _, _, f5⟩ := hf p.1 hm
    exact f5 p (List.mem_append_left _ hp) rfl
/-- a, b, .. = a tuple, while an exception is handled -/
theorem pg_tupS {X : Cx} {es : List Expr} {k : Nat} {pos : Pos} {t : TGs} {n : Nat} (hc : HotS X) (h : PGs X es t)
    (hn : (assignEach es X.env).length = n := by rfl) (hst : (assignEach es X.env).findIdx? (·.1) = none := by rfl) : PG X (.Tuple es k pos) (gTup X.K n t) := by
  refine ⟨fun pins s σ H v u Q I r hw => ?_⟩
  obtain ⟨a, xs, e1, hq, hl, hw⟩ := hw
  subst e1
  cases r
  obtain ⟨its, rv, ht, hz⟩ := I.tuple hq
  obtain ⟨x1, hot⟩ := hc.at I
  refine assign_Tuple_tuple_hot hot ht (by simp [hn, ← hl, rv.length]) hst fun h' hx => ?_
  have I1 : Inv X pins σ H { s with heap := h' } := I.kept (t' := s.toks) fun b o e => hx b o (Nat.ne_of_lt (Heap.lt_size e)) e
  exact h.run pins _ σ H xs _ Q I1 (by simpa using rv) hw
structure TurnS (P : Program) (w : World) (K : PySem.W.Frag) (tg : Expr) (J : It) (fp : List Addr) (it : Addr) (tn : Nat → Heap → Prop) : Prop where
  mem : it ∈ fp
  obj : ∀ i h, tn i h → ∀ b ∈ fp, ∃ o, h.get? b = some o ∧ ∀ v, o.data ≠ .cell v
  keep : ∀ i h h', tn i h → (∀ b ∈ fp, ∀ o, h.get? b = some o → h'.get? b = some o) → tn i h'
  item : ∀ (X : Cx), X.prog = P → X.w = w → X.K = K → HotS X → ∀ (i : Nat) (pins : List (Addr × Obj)) (s : Shared) (σ : L2.St) (H : Hp) (E : Value → Shared → Prop), Inv X pins σ H s → (∀ b ∈ fp, FpOk X pins H b) → tn i s.heap → J.go i H →
    wpAny (model P w) X.A (pyNext (.ref it)) (fun r s1 => ∃ u, r = some u ∧
      wpAny (model P w) X.A (letOwnedTupleGo tg (.ref it) u) (fun _ s2 => ∃ x H', Inv X pins σ H' s2 ∧ RelV x u ∧ J.yld i H x H' ∧ tn (i + 1) s2.heap ∧ ∀ b ∈ fp, H' b = none) E s1) E s
  done : ∀ (X : Cx), X.prog = P → X.w = w → X.K = K → HotS X → ∀ (i : Nat) (pins : List (Addr × Obj)) (s : Shared) (σ : L2.St) (H : Hp) (E : Value → Shared → Prop), Inv X pins σ H s → (∀ b ∈ fp, FpOk X pins H b) → tn i s.heap → J.stop i H →
    wpAny (model P w) X.A (pyNext (.ref it)) (fun r s1 => r = none ∧ Inv X pins σ H s1) E s
  self : ∀ (A : Around) (i : Nat) (s : Shared) (Q : Value → Shared → Prop) (E : Value → Shared → Prop), tn i s.heap → Q (.ref it) s → wpAny (model P w) A (pyIter (.ref it)) Q E s
theorem turn_zipS {P : Program} {w : World} {K : PySem.W.Frag} {elts : List Expr} {kk : Nat} {tpos : Pos} {a b z TI TO i1 i2 : Addr} (D : ZipApart z TI TO i1 i2 a b) :
    TurnS P w K (.Tuple elts kk tpos) (Itz K a b) [z, TI, TO, i1, i2] z (fun i h => IsZip h z TI TO .none ∧ IsPair h TI (.ref i1) (.ref i2) ∧ (∃ x y, IsPair h TO x y) ∧ h.IsListIter i1 a i ∧ h.IsListIter i2 b i) where
  mem := by simp
  obj := fun i h st c hc => by
    obtain ⟨hz, hTI, ⟨x, y, hTO⟩, ⟨o1, e1, _, d1⟩, ⟨o2, e2, _, d2⟩⟩ := st
    have e' : c = z ∨ c = TI ∨ c = TO ∨ c = i1 ∨ c = i2 := by simpa using hc
    rcases e' with q | q | q | q | q
    · rw [q]; exact ⟨_, hz, fun v q => nomatch q⟩
    · rw [q]; exact ⟨_, hTI, fun v q => nomatch q⟩
    · rw [q]; exact ⟨_, hTO, fun v q => nomatch q⟩
    · rw [q]; exact ⟨o1, e1, fun v q => by rw [d1] at q; cases q⟩
    · rw [q]; exact ⟨o2, e2, fun v q => by rw [d2] at q; cases q⟩
  keep := fun i h h' st k => by
    obtain ⟨hz, hTI, ⟨x, y, hTO⟩, h1, h2⟩ := st
    exact ⟨k z (by simp) _ hz, k TI (by simp) _ hTI, ⟨x, y, k TO (by simp) _ hTO⟩, h1.at fun o q => k i1 (by simp) o q, h2.at fun o q => k i2 (by simp) o q⟩
  item := by
    intro X hP hw hK hc i pins s σ H E I hf st hg
    subst hP hw hK
    obtain ⟨hz, hTI, ⟨x0, y0, hTO⟩, h1, h2⟩ := st
    obtain ⟨xs, ys, x, y, hqx, hqy, hx, hy⟩ := hg
    obtain ⟨its, rv, p, _⟩ := I.list hqx
    obtain ⟨its2, rv2, p2, _⟩ := I.list hqy
    obtain ⟨u, hu, ru⟩ := rv.get hx
    obtain ⟨u2, hu2, ru2⟩ := rv2.get hy
    have hzl : z < s.heap.objs.size := Heap.lt_size hz
    refine wpAny_pyNext_zip_item D hz hTI hTO h1 h2 p.isList p2.isList (x := u) (y := u2) (by simpa using hu) (by simpa using hu2) fun h' z' TO' h1' h2' hT hsz hk => ?_
    refine ⟨_, rfl, wpAny_letOwnedTupleGo_zip (s := { s with heap := h' }) z' fun h'' z'' sb => ?_⟩
    have hT2 : h''.get? s.heap.objs.size = some { cls := .type "tuple", data := .seq #[u, u2] } := (sb.2 _ (Nat.ne_of_gt hzl)).trans hT
    have new : ObjOk X.prog X.w (upd H s.heap.objs.size (.tup [x, y])) h'' s.heap.objs.size (.tup [x, y]) :=
      ⟨by show 2 ≤ sizeLine; decide, [u, u2], .cons ru (.cons ru2 .nil), ⟨_, hT2, rfl, _, rfl⟩⟩
    have I1 : Inv X pins σ (upd H s.heap.objs.size (.tup [x, y])) { s with heap := h'' } :=
      I.turnedNew (t' := s.toks) (ch := [z, TI, TO, i1, i2]) (fun c o hb q => (sb.2 c (fun q' => hb (by simp [q']))).trans (hk c o (fun q' => hb (by simp [q'])) (fun q' => hb (by simp [q'])) (fun q' => hb (by simp [q'])) (fun q' => hb (by simp [q'])) q)) hf (Nat.le_refl _) new
    refine ⟨.ref s.heap.objs.size, _, I1, rfl, ⟨_, x, y, rfl, I.hok.fresh (Nat.le_refl _), rfl, fun l hl => by rw [I.list_inj hl hqx]; exact hx, fun l hl => by rw [I.list_inj hl hqy]; exact hy⟩, ⟨z'', ?_, ⟨u, u2, ?_⟩, ?_, ?_⟩, fun c hcm => ?_⟩
    · exact (sb.2 _ D.TIz).trans (hk _ _ D.TIz D.TITO D.TIi1 D.TIi2 hTI)
    · exact (sb.2 _ D.TOz).trans TO'
    · exact h1'.at fun o q => (sb.2 _ D.i1z).trans q
    · exact h2'.at fun o q => (sb.2 _ D.i2z).trans q
    · have hlt : c < s.heap.objs.size := by
        have e' : c = z ∨ c = TI ∨ c = TO ∨ c = i1 ∨ c = i2 := by simpa using hcm
        rcases e' with q | q | q | q | q
        · rw [q]; exact hzl
        · rw [q]; exact Heap.lt_size hTI
        · rw [q]; exact Heap.lt_size hTO
        · rw [q]; obtain ⟨_, e1, _⟩ := h1; exact Heap.lt_size e1
        · rw [q]; obtain ⟨_, e2, _⟩ := h2; exact Heap.lt_size e2
      rw [upd_ne (Nat.ne_of_lt hlt)]
      exact (hf c hcm).1
  done := by
    intro X hP hw hK hc i pins s σ H E I hf st hg
    subst hP hw hK
    obtain ⟨hz, hTI, ⟨x0, y0, hTO⟩, h1, h2⟩ := st
    obtain ⟨xs, ys, hqx, hqy, hend⟩ := hg
    obtain ⟨its, rv, p, _⟩ := I.list hqx
    obtain ⟨its2, rv2, p2, _⟩ := I.list hqy
    have l1 := rv.length
    have l2 := rv2.length
    have he : its.toArray[i]? = none ∨ its2.toArray[i]? = none := by
      rcases hend with q | q
      · exact .inl (by simp; omega)
      · exact .inr (by simp; omega)
    obtain ⟨x1, hot⟩ := hc.at I
    exact pyNext_zip_end_hot hot D hz hTI hTO h1 h2 p.isList p2.isList he fun h' hk => ⟨rfl, I.turnedL (t' := s.toks) (ch := [z, TI, TO, i1, i2]) (fun c o hb q =>
      hk c o (fun q' => hb (by simp [q'])) (fun q' => hb (by simp [q'])) (fun q' => hb (by simp [q'])) (fun q' => hb (by simp [q'])) q) hf⟩
  self := fun A i s Q E st h => wpAny_pyIter_zip st.1 h
def PIES (X : Cx) (pins : List (Addr × Obj)) (σ : L2.St) (tg : Expr) (R : It → Hp → Prop) (itv : Value) (s2 : Shared) : Prop :=
  ∃ (it : Addr) (fp : List Addr) (tn : Nat → Heap → Prop) (J : It) (H' : Hp), itv = .ref it ∧ Inv X pins σ H' s2 ∧ TurnS X.prog X.w X.K tg J fp it tn ∧ tn 0 s2.heap ∧ (∀ b ∈ fp, FpOk X pins H' b) ∧ R J H'
structure PIS (X : Cx) (tg iter : Expr) (wi : TI) : Prop where
  run : ∀ (pins : List (Addr × Obj)) (s : Shared) (σ : L2.St) (H : Hp) (R : It → Hp → Prop), Inv X pins σ H s → wi σ H R →
    wpAny (model X.prog X.w) X.A (eval iter X.env) (fun v s1 => wpAny (model X.prog X.w) X.A (pyIter v) (PIES X pins σ tg R) X.xe s1) X.xe s
theorem pi_zipS {X : Cx} {e e2 : Expr} {ta : TA} {p pos tpos : Pos} {elts : List Expr} {kk : Nat} (hg : Gl X "zip") (hm : X.mg "zip" = none) (ha : PA X [e, e2] ta)
    (hs : starEach [e, e2] X.env = (false, eval e X.env) :: starEach [e2] X.env := by rfl) (hpl : (backTo pos (starEach [e2] X.env)).any (·.1) = false := by rfl) :
    PIS X (.Tuple elts kk tpos) (.Call (.Name "zip" p) [e, e2] [] pos) (iZip X.K ta) := by
  refine ⟨fun pins s σ H R I h => ?_⟩
  refine Call_ (ld_blt I hg hm PyProof.Rows.boot_zip (PyProof.Rows.callWith_type1 (thn (ha.run pos pins s σ H _ I h) fun us s1 ⟨vs, H1, I1, r1, q1⟩ => ?_) hs hpl))
  obtain ⟨a, b, xs, ys, ex, hqx, hqy, q⟩ := q1
  subst ex
  cases r1 with
  | cons r rr =>
    cases rr with
    | cons r' rr =>
      cases rr
      cases r
      cases r'
      obtain ⟨its, rv, p1, _⟩ := I1.list hqx
      obtain ⟨its2, rv2, p2, _⟩ := I1.list hqy
      have la : a < s1.heap.objs.size := p1.lt
      have lb : b < s1.heap.objs.size := p2.lt
      refine call_zip_2 p1.isList p2.isList fun h' hz hTI hTO h1 h2 hsz hk => wpAny_pyIter_zip hz ?_
      have I2 : Inv X pins σ H1 { s1 with heap := h' } := I1.kept (t' := s1.toks) hk
      refine ⟨s1.heap.objs.size + 4, [s1.heap.objs.size + 4, s1.heap.objs.size + 2, s1.heap.objs.size + 3, s1.heap.objs.size, s1.heap.objs.size + 1], _, _, H1, rfl, I2, turn_zipS (PySem.W.ktu_apart s1.heap.objs.size a b la lb), ⟨hz, hTI, ⟨_, _, hTO⟩, h1, h2⟩, fun c hcm => ?_, q⟩
      have e' : c = s1.heap.objs.size + 4 ∨ c = s1.heap.objs.size + 2 ∨ c = s1.heap.objs.size + 3 ∨ c = s1.heap.objs.size ∨ c = s1.heap.objs.size + 1 := by simpa using hcm
      have hle : s1.heap.objs.size ≤ c := by
        rcases e' with z | z | z | z | z
        · rw [z]; exact Nat.le_add_right _ _
        · rw [z]; exact Nat.le_add_right _ _
        · rw [z]; exact Nat.le_add_right _ _
        · rw [z]; exact Nat.le_refl _
        · rw [z]; exact Nat.le_add_right _ _
      exact I1.fpOk hle (I1.hok.fresh hle)
section
variable {X : Cx}
/-- [elt for target in iter if ..] while an exception is handled (as L2.lc_core) -/
theorem pe_lcS {elt tg iter : Expr} {ifs : List Expr} {scope : Scope} {own : List (Str × Nat)} {pos : Pos} {wi : TI} {g : TG} {tt : TT} {te : TE} (hc : HotC X) (hN : X.N.Nodup) (hi : PIS X tg iter wi) (ok : BlkOk X.N X.env.scope scope own)
    (hg : ∀ (s : Shared) (H : Hp) (C : Addr) (cl : List (Str × Addr)) (fp : List Addr), HotS (X.blk s H scope (compEnvC scope cl C X.env) fp) → PG (X.blk s H scope (compEnvC scope cl C X.env) fp) tg g) (ht : ∀ (s : Shared) (H : Hp) (C : Addr) (cl : List (Str × Addr)) (fp : List Addr), PTs (X.blk s H scope (compEnvC scope cl C X.env) fp) ifs tt)
    (he : ∀ (s : Shared) (H : Hp) (C : Addr) (cl : List (Str × Addr)) (fp : List Addr), PE (X.blk s H scope (compEnvC scope cl C X.env) fp) elt te) (hs : ∀ x, foldedSetIterable iter X.env x = pure x := by intro _; rfl) :
    PE X (.ListComp elt [⟨tg, iter, ifs, 0⟩] scope pos) (tLc wi g tt te (own.map (·.2))) := by
  refine ⟨fun pins s σ H Q I h => ?_⟩
  rw [eval_ListComp]
  have hfree : ∀ y ∈ scope.names, y.2 = .free → ∃ c, X.env.cells.lookup y.1 = some c := fun y hy e => by
    rcases ok.free y hy e with k | k
    · exact I.ok.has _ (.inl k)
    · exact I.ok.has _ (.inr k)
  refine wpAny_comprehension_free rfl hs (closure_ok hfree) ok.kind (fun y hy e => by rw [ok.uniq y hy, e])
    (thn (hi.run pins s σ H _ I h) fun xv s1 hx => thn hx fun itv s2 h2 => ?_)
  obtain ⟨it, fp, tn, J, H2, e, I2, T, st2, f2, q⟩ := h2
  subst e
  refine wpAny_newObj_type (newEnv_comp ?_) (by show 0 ≤ sizeLine; decide)
  generalize hD : s2.heap.objs.size = D
  have hDn : H2 D = none := I2.hok.fresh (Nat.le_of_eq hD)
  obtain ⟨W, ⟨m0, w0⟩, turn⟩ := q D hDn
  generalize hs3 : ({ s2 with heap := s2.heap.push { cls := .type "list", data := .seq ([] : List Value).toArray } } : Shared) = s3
  have I3 : Inv X pins σ (upd H2 D (.lst [])) s3 := by
    rw [← hs3]
    refine I2.laid (t' := s2.toks) (fun b o e => Heap.get?_push_of_some _ e) (Nat.le_of_eq hD) ⟨Nat.zero_le _, [], 0, .nil, ?_⟩
    rw [← hD]
    exact Heap.get?_push_size _ rfl
  have h3 : s3.heap = s2.heap.push { cls := .type "list", data := .seq ([] : List Value).toArray } := by rw [← hs3]
  have sz : ∀ b ∈ fp, b < s2.heap.objs.size := fun b hb => by
    obtain ⟨o, e, _⟩ := T.obj _ _ st2 b hb
    exact Heap.lt_size e
  have f3 : ∀ b ∈ fp, FpOk X pins (upd H2 D (.lst [])) b ∧ b < s3.heap.objs.size := fun b hb => by
    have hlt := sz b hb
    refine ⟨⟨?_, (f2 b hb).2⟩, by rw [h3, Heap.size_push]; exact Nat.lt_succ_of_lt hlt⟩
    rw [upd_ne (by rw [← hD]; exact Nat.ne_of_lt hlt)]
    exact (f2 b hb).1
  have st3 : tn 0 s3.heap := T.keep _ _ _ st2 fun b _ o e => by rw [h3]; exact Heap.get?_push_of_some _ e
  have I4 := block_start I3 ok hN f3
  have hotB : HotS (X.blk s3 (upd H2 D (.lst [])) scope (compEnvC scope (cellsFrom (s3.heap.objs.size + 1) scope.names (cloFrom X.env.cells scope.names [])) s3.heap.objs.size X.env) fp) := HotS.blk hc I3 fun b hb => (f3 b hb).1
  have pg := hg s3 (upd H2 D (.lst [])) s3.heap.objs.size (cellsFrom (s3.heap.objs.size + 1) scope.names (cloFrom X.env.cells scope.names [])) fp hotB
  have pt := ht s3 (upd H2 D (.lst [])) s3.heap.objs.size (cellsFrom (s3.heap.objs.size + 1) scope.names (cloFrom X.env.cells scope.names [])) fp
  have pe := he s3 (upd H2 D (.lst [])) s3.heap.objs.size (cellsFrom (s3.heap.objs.size + 1) scope.names (cloFrom X.env.cells scope.names [])) fp
  have hRR : ∀ m H', Inv X pins σ H' m → Q (.ref D) H' → ∀ mm, m.heap.Ns s3.heap.objs.size mm → FpOk X pins H' s3.heap.objs.size → compPost (model X.prog X.w) X.A X.xe none (EP X pins σ Q) (.ref D) s3.heap.objs.size (.ok .next) m := fun s' H' I' q mm hn f => ⟨mm, hn, fun h'' sb => by
    obtain ⟨f0, f1, f2, f3, f4, f5⟩ := f
    exact ⟨.ref D, H', I'.turned (t' := s'.toks) (fun b o hb e => (sb.2 b hb).trans e) f0 f1 f3 f4 f5, rfl, q⟩⟩
  show codeAny _ _ (.compStart (.ListComp elt [⟨tg, iter, ifs, 0⟩] scope pos) 0 (.ref it) (.ref D) (compEnvC scope (cellsFrom (s3.heap.objs.size + 1) scope.names (cloFrom X.env.cells scope.names [])) s3.heap.objs.size X.env)) (compPost (model X.prog X.w) X.A X.xe none (EP X pins σ Q) (.ref D) s3.heap.objs.size) { s3 with heap := pushCells (s3.heap.push { cls := .type "dict", data := .dict #[] }) scope.names }
  have nfp : ∀ b ∈ fp, (upd H2 D (.lst [])) b = none := fun b hb => (f3 b hb).1.1
  generalize hce : compEnvC scope (cellsFrom (s3.heap.objs.size + 1) scope.names (cloFrom X.env.cells scope.names [])) s3.heap.objs.size X.env = ce at I4 hotB pg pt pe ⊢
  have cL : ce.locals = s3.heap.objs.size := by subst hce; rfl
  generalize hH3 : upd H2 D (.lst []) = H3 at I3 I4 hotB pg pt pe w0 nfp f3
  generalize hs4 : ({ s3 with heap := pushCells (s3.heap.push { cls := .type "dict", data := .dict #[] }) scope.names } : Shared) = s4 at I4 ⊢
  have st4 : tn 0 s4.heap := T.keep _ _ _ st3 fun b _ o e => by rw [← hs4]; exact pushCells_keeps _ _ _ _ (Heap.get?_push_of_some _ e)
  have stat : ∀ {σ' : L2.St} {H' : Hp} {s' : Shared}, Inv (X.blk s3 H3 scope ce fp) [] σ' H' s' → (∀ b ∈ fp, H' b = none) → ∀ b ∈ fp, FpOk (X.blk s3 H3 scope ce fp) [] H' b := fun {σ' H' s'} I' hn b hb =>
    ⟨hn b hb, (I'.ok.exf b hb).1, I'.ok.exfs b hb, .inl hb, fun x c e => (I'.ok.exf b hb).2 x c e, fun p hp => absurd (show p ∈ ([] : List (Addr × Obj)) ++ [] from hp) (by simp)⟩
  have loop : codeAny (model X.prog X.w) X.A (.compLoop (.ListComp elt [⟨tg, iter, ifs, 0⟩] scope pos) 0 (.ref it) (.ref D) ce) (compPost (model X.prog X.w) X.A X.xe none (EP X pins σ Q) (.ref D) s3.heap.objs.size) s4 := by
    refine compLoop_any (fun n s' => ∃ i H', Inv (X.blk s3 H3 scope ce fp) [] (wipe σ (own.map (·.2))) H' s' ∧ tn i s'.heap ∧ (∀ b ∈ fp, H' b = none) ∧ W i n H') ?_ m0 ⟨0, H3, I4, st4, nfp, w0⟩
    rintro n s5 ⟨i, H5, I5, st5, n5, w5⟩
    rcases turn i n H5 w5 with ⟨stop, qq⟩ | ⟨go, Nx, hNx, step⟩
    · have td := T.done (X.blk s3 H3 scope ce fp) rfl rfl rfl hotB i [] s5 _ H5 (fun _ _ => False) I5 (stat I5 n5) st5 stop
      refine thnF td fun r s6 ⟨hr, I6⟩ => ?_
      subst hr
      have I7 : Inv X pins σ H5 s6 := I3.call' (ch := fp) I6.os I6.base I6.hok I6.bare fun b hb => ⟨(f3 b hb).1.2.2.2.1, (f3 b hb).1.2.1, (f3 b hb).1.2.2.2.2.1, (f3 b hb).1.2.2.2.2.2⟩
      have nC : H5 s3.heap.objs.size = none := by
        have z : H5 ce.locals = none := I6.free
        rw [cL] at z
        exact z
      obtain ⟨m, hn, _⟩ := I6.loc
      have hn : s6.heap.Ns ce.locals m := hn
      rw [cL] at hn
      exact hRR s6 H5 I7 qq m hn (I3.fpOk (Nat.le_refl _) nC)
    · have ti := T.item (X.blk s3 H3 scope ce fp) rfl rfl rfl hotB i [] s5 _ H5 (fun _ _ => False) I5 (stat I5 n5) st5 go
      refine thnF ti fun r s6 ⟨u, hr, h6⟩ => ?_
      subst hr
      refine thnF h6 fun _ s7 ⟨x, H7, I7, r7, y7, st7, n7⟩ => ?_
      have I7' := I7.pinned (stat I7 n7) (T.obj _ _ st7)
      refine thnF (pg.run _ s7 _ H7 x u _ I7' r7 (step x H7 y7)) fun _ s8 ⟨σ8, H8, I8, hw8, q8⟩ => ?_
      refine thnF (pt.run _ s8 σ8 H8 _ I8 q8) fun b s9 ⟨H9, I9, q9⟩ => ?_
      have fin : ∀ {s' : Shared} {H' : Hp}, Inv (X.blk s3 H3 scope ce fp) ([] ++ pinsAt fp s7.heap) σ8 H' s' → Nx H' → ∃ m, m < n ∧ ∃ i H', Inv (X.blk s3 H3 scope ce fp) [] (wipe σ (own.map (·.2))) H' s' ∧ tn i s'.heap ∧ (∀ b ∈ fp, H' b = none) ∧ W i m H' := fun {s' H'} I' nx => by
        obtain ⟨m', hm, w'⟩ := hNx H' nx
        have pin' : ∀ b ∈ fp, ∀ o, s7.heap.get? b = some o → s'.heap.get? b = some o ∧ H' b = none := fun b hb o e =>
          let z := I'.pin (b, o) (List.mem_append_right _ (List.mem_append_right _ (mem_pinsAt hb e)))
          ⟨z.1, z.2.1⟩
        have hl : (wipe σ (own.map (·.2))).length = σ8.length := by rw [← hw8, wipe_length]
        refine ⟨m', hm, i + 1, H', (I'.unpinned (pins := [])).weak hl (fun j v e => ?_), T.keep _ _ _ st7 fun b hb o e => (pin' b hb o e).1, fun b hb => ?_, w'⟩
        · rw [← hw8] at e
          exact (wipe_some e).1
        · obtain ⟨o, e, _⟩ := T.obj _ _ st7 b hb
          exact (pin' b hb o e).2
      cases b with
      | false =>
        simp only [Bool.false_eq_true, if_false] at q9 ⊢
        exact fin I9 q9
      | true =>
        simp only [if_true] at q9 ⊢
        refine thnF (pe.run _ s9 σ8 H9 _ I9 q9) fun z s10 ⟨yv, H10, I10, r10, acc, hD10, hz10, nx⟩ => ?_
        exact app_ok (X := X.blk s3 H3 scope ce fp) I10 hD10 hz10 r10 fun s11 I11 => fin I11 nx
  exact codeAny_compStart_list loop (T.self X.A 0 _ _ _ st4 loop)
end
end
/-! ### exceptions at the hand layer's level -/
section
open PySem PySem.Spec PyProof.Rows HotX L2H
/-- as Fun.okX, exceptions with no context -/
theorem okN {P : Program} {w : World} {K : PySem.W.Frag} {mg : Str → Option Value} {base : Heap} {x qual : Str} {st : Stmt} {f : Addr} {fd : FuncData} {N ps : List Str} {k : Nat} {sp : Sp} (F : Fun K x qual st f fd) (S : FnScope N ps (defScope st)) (len : ∀ vs H Q E, sp vs H Q E → vs.length = ps.length)
    (hbody : ∀ (cdv : Value) (A : Around) (outer : List Env) (s : Shared) (H : Hp) (vs : List V) (Q : VK) (E : XK), Room k (A.deeper (envOfC qual (defScope st) s.heap.objs.size f cdv)) → sp vs H Q E →
      ∃ t, PSs (cxOf (L2N.CX P w) P w K mg base N qual (defScope st) f cdv A outer s H E) (defBody st) t ∧ t { nx := fun _ H' => Q .non H', rt := Q } (start N vs) H) : FnOk P w K mg base (L2N.CX P w) (k + 1) f fd ps sp := by
  obtain ⟨oc, od, kV, doc, pm, an, cdv, ct, osl, rfl, lk, hcd⟩ := F.ex
  exact fn_of lk hcd S len fun A outer s H vs Q E hr hsp => hbody cdv A outer s H vs Q E hr hsp
/-- what a callee lets out at the slots σ, where a try stands around -/
theorem passAtN {X : Cx} {W : WX} (tk : L2N.Takes X W) (σ : L2.St) : PassesAt (L2N.CX X.prog X.w) X σ (WE W σ) := fun _ _ _ e s' I c => tk e s' (L2N.XE.of_call I (fun _ _ _ h => h) c)
theorem takes0N {X : Cx} : L2N.Takes X (fun _ _ _ _ => False) := fun _ _ x => by
  obtain ⟨_, _, _, _, _, _, _, _, _, _, _, _, _, _, _, _, z⟩ := x
  exact z.elim
/-- the reading of a try, its parts by name -/
def tTryA (K : PySem.W.Frag) (c : Value) (i : Nat) (ts : Addr → Value → Option Addr → TS) (Wout : WX) (tb : WX → TS) : TS := fun D σ H => tb (wAs K c i ts Wout D) D σ H
theorem ps_tryA {X : Cx} {x n : Str} {c : Value} {i : Nat} {body suite : List Stmt} {b₀ : Stmt} {np pos pos' : Pos} {tb : WX → TS} {ts : Addr → Value → Option Addr → TS} {Wout : WX} (hs : X.stack = X.env :: X.outer) (hf : X.env.frame = some X.env.locals) (hN : X.N.Nodup) (hi : X.N[i]? = some n) (hln : X.env.kindOf n = some .local) (hc : Names X x c) (tk : L2N.Takes X Wout)
    (hb : ∀ (W : WX) (pn : List (Addr × Obj)) (xe : Value → Shared → Prop), L2N.Takes (X.tr pn xe) W → PassesOwn (model X.prog X.w) X.A X.env xe → PSs (X.tr pn xe) body (tb W))
    (hsu : ∀ (a : Addr) (oe : Obj) (cls : Value) (d : Option Addr) (pn : List (Addr × Obj)), L2N.Zn cls d oe → (∃ vs, oe.data = .fields vs) → PSs (X.suite a ((a, oe) :: pn)) (b₀ :: suite) (ts a cls d)) :
    PS X (.Try body [.ExceptHandler (some (.Name x np)) (some n) (b₀ :: suite) pos'] [] [] pos) (tTryA X.K c i ts Wout tb) := L2N.ps_try_as hs hf hN hi hln hc tk hb hsu
section
variable {X : Cx} {e : Expr} {es : List Expr} {ta : TA}
/-- C(e, ..), C an own exception class with its own __init__ -/
theorem pmk_oexN {CX : CXT} {x : Str} {C fI : Addr} {k : Nat} {fd : FuncData} {ps : List Str} {sp : Sp} {p pos : Pos} (T : OexC X.K C) (iC : PySem.W.findIn X.K (.ref C) "__init__" = some (some (.ref fI))) (tI : PySem.W.typeIn X.K (.ref fI) = some (.type "function"))
    (F1 : FnOk X.prog X.w X.K X.mg X.base CX k fI fd ps sp) (hr : Room (k + 1) X.A) (hb : Binds X.K fd ps []) (hx : Passes CX X (fun _ _ _ => False)) (hg : Gl X x) (hm : X.mg x = some (.ref C)) (ha : PA X (e :: es) ta)
    (hdb : (x == ("__debug__" : Str)) = false := by decide) (he : starEach (e :: es) X.env = (false, eval e X.env) :: starEach es X.env := by rfl) (hpl : (backTo pos (starEach es X.env)).any (·.1) = false := by rfl) :
    L2N.PMk X (.Call (.Name x p) (e :: es) [] pos) (tMkO C sp [] ta) := by
  intro pins s σ H Q I h
  obtain ⟨nm, q, N, bs, bm, sn, sub, ab, col, dd, k0, k1, k2, k3, k5, hC, hbm⟩ := T.cls
  refine wpAny_Call_Name_kw (ld_glob I hg hm ?_ hdb)
  refine PySem.W.callWith_K (h₀ := X.base) I.ok.mod.kin T.kC (thn (ha.run pos pins s σ H _ I h) fun us s1 ⟨vs, H1, I1, r1, hz, q1⟩ => ⟨I1.kIn, ?_⟩) he hpl
  show wpAny _ _ (call (.ref C) us) _ _ _
  obtain ⟨hp, g, dr, tk, os⟩ := s1
  have hsz : hp.objs.size ≤ hp.objs.size + 1 := Nat.le_succ _
  have hn : H1 (hp.objs.size + 1) = none := I1.hok.fresh hsz
  have hq := q1 (hp.objs.size + 1) hn
  rw [List.append_nil] at hq
  have kk : ∀ b o, hp.get? b = some o → ((hp.push (PySem.W.kdv_tup us)).push (PySem.HandSPX.excO C hp.objs.size)).get? b = some o := fun b o e => Heap.get?_push_of_some _ (Heap.get?_push_of_some _ e)
  have hget : ((hp.push (PySem.W.kdv_tup us)).push (PySem.HandSPX.excO C hp.objs.size)).get? (hp.objs.size + 1) = some (PySem.HandSPX.excO C hp.objs.size) := by heap_get
  have I2 : Inv X pins σ (upd H1 (hp.objs.size + 1) (exo (hp.objs.size + 1) C none)) ⟨(hp.push (PySem.W.kdv_tup us)).push (PySem.HandSPX.excO C hp.objs.size), g, dr, tk, os⟩ :=
    I1.laid (t' := tk) (a := hp.objs.size + 1) (o := exo (hp.objs.size + 1) C none) (h' := (hp.push (PySem.W.kdv_tup us)).push (PySem.HandSPX.excO C hp.objs.size)) kk hsz (exo_ok hget)
  have r2 : Vals (V.ref (hp.objs.size + 1) :: vs) (Value.ref (hp.objs.size + 1) :: us) := .cons rfl r1
  have hl : (Value.ref (hp.objs.size + 1) :: us ++ []).length = ps.length := by
    have e := r2.length
    rw [F1.len _ _ _ _ hq] at e
    rw [List.append_nil]
    exact e.symm
  have hus : us.length ≤ sizeLine := by
    rw [← Paired.length r1, sizeLine_eq]
    omega
  have b2 := hb _ (Value.ref (hp.objs.size + 1) :: us) I2.kIn hl
  rw [List.append_nil] at b2
  refine wpAny_call (PySem.HandSPX.call_own F.excBase_ValueError (fun Y => PySem.HandSPX.refsVE_contains Y bm hbm) (I1.kIn _ _ hC) (PySem.W.looks_findIn I1.kIn iC) (fun self => PySem.W.bind_fn I1.kIn self tI) hus
    (codeAny_mono (F1.run _ X.stack _ _ ⟨Value.ref (hp.objs.size + 1) :: us, []⟩ (Value.ref (hp.objs.size + 1) :: us) _ _ (fun _ _ _ => False) (hr.make C us []) (I2.env0.make C us []) b2 r2 hq) fun r s' hq' => ?_))
  cases r with
  | error er => exact hx pins σ _ _ er s' I2 hq'
  | ok fl =>
    cases fl with
    | ret u =>
      obtain ⟨v, H2, os2, bare2, un2, hok2, rv, ev, d, fs, ea, ed, hd1, q2⟩ := hq'
      subst ev
      obtain ⟨h2, g2, d2, t2, os'⟩ := s'
      obtain ⟨t0, G, J, kG, ge, hoe, na⟩ := mk_end0 (d2 := d2) (t2 := t2) I1 hsz kk un2 hok2 os2 bare2 ea ed hd1
      exact ⟨rv, hp.objs.size + 1, _, _, ⟨G, g2, d2, t2, os'⟩, _, .ref C, some d, rfl, J, kG, ge, hoe, ⟨rfl, rfl, fun vs hv => by cases hv; rfl⟩, rfl, rfl, na, rfl, bare2, raises_own T.exC T.tyC, q2⟩
    | next => exact False.elim hq'
    | brk => exact False.elim hq'
    | cont => exact False.elim hq'
/-- S.__init__(self, ..), S an own class over ValueError with no __init__ of its own -/
theorem pe_slinit {S : Str} {CS : Addr} {p1 p2 pos : Pos} {pl : Sem Bool} (hg : Gl X S) (hm : X.mg S = some (.ref CS)) (hr : PySem.W.readsIn X.K CS (.type "type") = true) (ga : PySem.W.specialIn X.K (.ref CS) "__getattribute__" = some (some (.builtin "type.__getattribute__")))
    (vV : PySem.W.findCls X.K (.ref CS) (.type "type") "__init__" = some (.val (.builtin "ValueError.__init__"))) (ha : PA X (e :: es) ta)
    (hdb : (S == ("__debug__" : Str)) = false := by decide)
    (hc : eval (.Call (.Attribute (.Name S p1) "__init__" p2) (e :: es) [] pos) X.env = (do
      let ov ← eval (.Name S p1) X.env
      standAt p2.atName
      let (f, first) ← holding [ov] (getMethod ov "__init__" pl)
      callWith pos f first (backTo pos (starEach (e :: es) X.env)) (backToKw pos (keywordEach [] X.env))) := by rfl)
    (he : starEach (e :: es) X.env = (false, eval e X.env) :: starEach es X.env := by rfl) (hpl : (backTo pos (starEach es X.env)).any (·.1) = false := by rfl) :
    PE X (.Call (.Attribute (.Name S p1) "__init__" p2) (e :: es) [] pos) (tVeI X.K ta) := by
  refine ⟨fun pins s σ H Q I h => ?_⟩
  refine PySem.W.methodCall_KW (ld_glob I hg hm ?_ hdb) hc
  refine PySem.W.method_cls I.kIn ga (PySem.W.cls_value I.kIn hr vV (by decide +kernel) ?_)
  show wpAny _ _ (callWith pos (Value.builtin "ValueError.__init__") [] (backTo pos (starEach (e :: es) X.env)) []) _ _ _
  refine PyProof.Rows.callWith_method1 (thn (ha.run pos pins _ σ H _ (I.tok _) h) fun us s1 ⟨vs, H1, I1, r1, a, C, ws, ev, hl, T, ea, q⟩ => ?_) he hpl
  subst ev
  cases r1 with
  | @cons _ u0 _ ur ra rw' =>
    obtain rfl : u0 = Value.ref a := ra
    have hlen : ur.length ≤ sizeLine := by
      rw [← Paired.length rw', sizeLine_eq]
      omega
    exact oinit_ok T I1 ea hlen fun s' J => ⟨.non, H1, J, rfl, q⟩
/-- isinstance(e, c), e the exception that is handled, with its dict or without -/
def rIsX (K : PySem.W.Frag) (cls : Value) (d : Option Addr) (a : Addr) : List V → Hp → VK → Prop := fun xs H Q => ∃ (D : Addr) (c : V) (cv : Value) (b : Bool), cls = .ref D ∧ ExcC K D ∧ xs = [.ref a, c] ∧ (∀ u, RelV c u → u = cv) ∧ PySem.W.kitOne K (.ref D) cv = some b ∧ (∀ dx, d = some dx → ∃ fs, H dx = some (.xd fs)) ∧ Q (.bl b) H
theorem call_isX {pa : Addr} {po : Obj} {cls : Value} {d : Option Addr} (hp : (pa, po) ∈ X.pn) (hz : Zc cls d po) (hf : ∃ vs, po.data = .fields vs) : CallR X (.builtin "isinstance") (rIsX X.K cls d pa) := by
  obtain ⟨p, ep⟩ : ∃ p : Addr × Obj, p = (pa, po) := ⟨_, rfl⟩
  have e1 : pa = p.1 := by rw [ep]
  have e2 : po = p.2 := by rw [ep]
  subst e1 e2
  clear ep
  intro pins s σ H xs us Q I r h
  obtain ⟨D, c, cv, b, ec, C, rfl, hcv, e, hd, q⟩ := h
  subst ec
  cases r with
  | cons rx rr =>
    cases rr with
    | cons rt rr =>
      cases rr
      cases rx
      have ec := hcv _ rt
      subst ec
      obtain ⟨hget, _⟩ := I.pin p (List.mem_append_left _ hp)
      obtain ⟨vs, hv⟩ := hf
      have hcl : (PySem.W.clsIn X.K D).isSome = true := by obtain ⟨cd, hc, _⟩ := PySem.W.any_some C.hd; rw [hc]; rfl
      obtain ⟨a, oe⟩ := p
      cases hd2 : d with
      | none =>
        subst hd2
        have J : PySem.W.InstAt s.heap a oe D none := by
          obtain ⟨oc, od, oda, osl⟩ := oe
          obtain ⟨h1, h2⟩ := hz
          dsimp only at h1 h2 hv
          subst h1 h2 hv
          exact ⟨hget, rfl, rfl, trivial⟩
        exact PySem.W.kia_one (PySem.W.kitx_exc hcl C.hg C.hk C.hs C.ha C.hn C.ht C.hm) I.kIn J e (fun z => nomatch z) fun tk => ⟨.bl b, H, I.kept (t' := tk) fun _ _ z => z, rfl, q⟩
      | some dx =>
        subst hd2
        obtain ⟨fs, hdx⟩ := hd dx rfl
        have hx : ObjOk X.prog X.w H s.heap dx (.xd fs) := I.hok dx _ hdx
        obtain ⟨mA, ⟨od, es, ep, ho, hr'⟩, hr⟩ := hx
        have J : PySem.W.InstAt s.heap a oe D (some od) := by
          obtain ⟨oc, od', oda, osl⟩ := oe
          obtain ⟨h1, h2⟩ := hz
          dsimp only at h1 h2 hv
          subst h1 h2 hv
          exact ⟨hget, rfl, rfl, ho⟩
        exact PySem.W.kia_one (PySem.W.kitx_exc hcl C.hg C.hk C.hs C.ha C.hn C.ht C.hm) I.kIn J e (fun z => nomatch z) fun tk => ⟨.bl b, H, I.kept (t' := tk) fun _ _ z => z, rfl, q⟩
/-- e.f, e the exception that is handled -/
theorem pe_xfX {pa : Addr} {po : Obj} {C : Addr} {cls : Value} {d : Option Addr} {o : Expr} {te : TE} {pos : Pos} {n : Str} (hp : (pa, po) ∈ X.pn) (T : XfC X.K C) (hno : PySem.W.findIn X.K (.ref C) n = some none)
    (hz : Zc cls d po) (hf : ∃ vs, po.data = .fields vs) (he : PE X o te) (hb : attributeBase o n X.env (eval o X.env) = eval o X.env := by rfl) :
    PE X (.Attribute o n pos) (tXf pa cls d C n te) := by
  obtain ⟨p, ep⟩ : ∃ p : Addr × Obj, p = (pa, po) := ⟨_, rfl⟩
  have e1 : pa = p.1 := by rw [ep]
  have e2 : po = p.2 := by rw [ep]
  subst e1 e2
  clear ep
  refine ⟨fun pins s σ H Q I h => ?_⟩
  refine attr_of hb (thn (he.run pins s σ H _ I h) fun u s1 hh => ?_)
  obtain ⟨x, H1, I1, rx, ex, ec, dd, fs, v, ed, ea, l, q⟩ := hh
  subst ex
  obtain rfl : u = Value.ref p.1 := rx
  subst ec
  subst ed
  obtain ⟨ha, _⟩ := I1.pin p (List.mem_append_left _ hp)
  obtain ⟨vs, hd⟩ := hf
  have hx : ObjOk X.prog X.w H1 s1.heap dd (.xd fs) := I1.hok dd _ ea
  obtain ⟨mA, hns, hr⟩ := hx
  obtain ⟨od, ho, hl⟩ := lookIn_ns hns
  obtain ⟨u, hu, ru⟩ := RelO.some_of (v := v) (o := mA n) (by rw [← l]; exact hr n)
  have J : PySem.W.InstAt s1.heap p.1 p.2 C (some od) := ⟨ha, hz.1, by unfold PySem.W.notCls; rw [hd] <;> rfl, by rw [hz.2]; exact ho⟩
  exact HandSPX.exc_get I1.kIn J T.ga T.gg T.exC (PySem.W.findObj_own T.hdC hno rfl (by rw [hl, hu])) (handed_of ru) ⟨v, H1, I1.tok _, ru, q⟩
end
/-! ### defs that are handed the exception that is handled -/
/-- a promise that speaks of the exception: its place, its class, its dict -/
structure FnX (P : Program) (w : World) (K : PySem.W.Frag) (mg : Str → Option Value) (base : Heap) (CX : CXT) (k : Nat) (f : Addr) (fd : FuncData) (ps : List Str) (sp : Addr → Value → Option Addr → Sp) : Prop where
  len : ∀ a cls d vs H Q E, sp a cls d vs H Q E → vs.length = ps.length
  run : ∀ (A : Around) (outer : List Env) (s : Shared) (H : Hp) (args : Args) (us : List Value) (vs : List V) (Q : VK) (E : XK) (p : Addr × Obj) (cls : Value) (d : Option Addr), RoomH k A → Hot1 A p → Zc cls d p.2 → PinOk outer H s p → Env0 P w K mg base A outer s H → BindsTo s fd args (ps.zip us) → Vals vs us → sp p.1 cls d vs H Q E →
    codeAny (model P w) A (.call (.ref f) args) (CR CX outer P w H s Q E) s
theorem okFX {CX : CXT} {P : Program} {w : World} {K : PySem.W.Frag} {mg : Str → Option Value} {base : Heap} {k : Nat} {x qual : Str} {st : Stmt} {f : Addr} {fd : FuncData} {N ps : List Str} {sp : Addr → Value → Option Addr → Sp} (F : Fun K x qual st f fd) (S : FnScope N ps (defScope st))
    (len : ∀ a cls d vs H Q E, sp a cls d vs H Q E → vs.length = ps.length)
    (hbody : ∀ (cdv : Value) (A : Around) (outer : List Env) (s : Shared) (H : Hp) (vs : List V) (Q : VK) (E : XK) (p : Addr × Obj) (cls : Value) (d : Option Addr), Hot1 A p → Zc cls d p.2 → RoomH k (A.deeper (envOfC qual (defScope st) s.heap.objs.size f cdv)) → sp p.1 cls d vs H Q E →
      ∃ t, PSs (cxH CX P w K mg base N qual (defScope st) f cdv A outer s H E p) (defBody st) t ∧ t { nx := fun _ H' => Q .non H', rt := Q } (L2.start N vs) H) :
    FnX P w K mg base CX (k + 1) f fd ps sp := by
  obtain ⟨oc, od, kV, doc, pm, an, cdv, ct, osl, rfl, lk, hcd⟩ := F.ex
  refine ⟨len, fun A outer s H args us vs Q E p cls d hr hot hz hpin e0 hb r hsp => ?_⟩
  have hl := len _ _ _ _ _ _ _ hsp
  have KX : K.In s.heap := e0.mod.kin.keeps fun b o e => (e0.bs b o e).1
  have lim : s.heap.NoLimit := e0.mod.nolimit.keeps fun b o e => (e0.bs b o e).1
  have hkind : ∀ y ∈ ps.zip us, (defScope st).names.lookup y.1 = some .local ∨ ((defScope st).names.lookup y.1 = some .cell ∧ ((cellsFrom (s.heap.objs.size + 1) (defScope st).names []).lookup y.1).isSome = true) := fun ⟨n, v⟩ hy => by
    rcases S.par n (List.of_mem_zip hy).1 with q | q
    · exact .inl q
    · exact .inr ⟨q, PySem.W.cellsFrom_some _ _ _ (.inl q)⟩
  refine codeAny_call_function hr.depth (KX _ _ lk) rfl S.co S.gen rfl (PySem.W.codeRec_of KX hcd) (hb _ _ _ _ ?_)
  refine wpAny_newFunctionEnv_cells S.kind hkind fun env he s1 x => ?_
  subst he
  refine ⟨lim.keeps x.toInCall.keep, codeAny_func ?_⟩
  obtain ⟨t, ht, hq⟩ := hbody cdv A outer s H vs Q E p cls d hot hz (hr.deeper _) hsp
  have I : Inv (cxH CX P w K mg base N qual (defScope st) f cdv A outer s H E p) [] (L2.start N vs) H s1 := inv_startH S hpin e0 hl r x
  refine wpAny_mono (ht.run [] s1 (L2.start N vs) H _ I hq) (fun fl s' hs => ?_) fun e s' hs => hs
  have fin : ∀ {σ' : L2.St} {H' : Hp} {v : V} {u : Value}, Inv (cxH CX P w K mg base N qual (defScope st) f cdv A outer s H E p) [] σ' H' s' → RelV v u → Q v H' → CE outer P w H s Q u s' :=
    fun {σ' H' v u} J rv q => ⟨v, H', J.os, J.bare, J.base, J.hok, rv, q⟩
  cases fl with
  | ret u =>
    obtain ⟨v, σ', H', J, rv, q⟩ := hs
    exact fin J rv q
  | next =>
    obtain ⟨σ', H', J, q⟩ := hs
    exact fin (v := V.non) (u := Value.none) J rfl q
  | brk =>
    obtain ⟨_, _, _, q⟩ := hs
    exact False.elim q
  | cont =>
    obtain ⟨_, _, _, q⟩ := hs
    exact False.elim q
section
variable {X : Cx} {CX : CXT} {k : Nat} {f : Addr} {fd : FuncData} {ps : List Str} {sp : Addr → Value → Option Addr → Sp} {E : L2.St → XK} {x : Str} {q pos : Pos} {e : Expr} {es : List Expr} {t : TA}
theorem pe_callX {pa : Addr} {po : Obj} {cls : Value} {d : Option Addr} (hot : Hot1 X.A (pa, po)) (hp : (pa, po) ∈ X.pn) (hz : Zc cls d po) (F : FnX X.prog X.w X.K X.mg X.base CX k f fd ps sp) (hr : RoomH k X.A) (hg : Gl X x) (hm : X.mg x = some (.ref f)) (hk : PySem.W.keepIn X.K (.ref f) = true) (hb : Binds X.K fd ps []) (hx : ∀ σ, PassesAt CX X σ (E σ))
    (ha : PA X (e :: es) t) (hdb : (x == ("__debug__" : Str)) = false := by decide) (he : starEach (e :: es) X.env = (false, eval e X.env) :: starEach es X.env := by rfl) (hpl : (backTo pos (starEach es X.env)).any (·.1) = false := by rfl) :
    PE X (.Call (.Name x q) (e :: es) [] pos) (tCallS (sp pa cls d) E t) := by
  obtain ⟨p, ep⟩ : ∃ p : Addr × Obj, p = (pa, po) := ⟨_, rfl⟩
  have e1 : pa = p.1 := by rw [ep]
  have e2 : po = p.2 := by rw [ep]
  subst e1 e2
  clear ep
  refine ⟨fun pins s σ H Q I h => ?_⟩
  refine wpAny_Call_Name_kw (ld_glob I hg hm ?_ hdb)
  refine PySem.W.callWith_K (h₀ := X.base) I.ok.mod.kin hk (thn (ha.run pos pins s σ H _ I h) fun us s1 ⟨vs, H1, I1, r, q⟩ => ⟨I1.kIn, ?_⟩) he hpl
  have hl : us.length = ps.length := by rw [← r.length]; exact F.len _ _ _ _ _ _ _ q
  have b := hb s1 us I1.kIn (by rw [List.append_nil]; exact hl)
  rw [List.append_nil] at b
  have P1 := I1.pin p (List.mem_append_left _ hp)
  have hpin : PinOk X.stack H1 s1 p := ⟨P1.1, P1.2.1, fun hm => (List.mem_cons.mp (I1.stkSub p.1 hm)).elim P1.2.2.1 P1.2.2.2.1, P1.2.2.2.2⟩
  refine wpAny_call (codeAny_mono (F.run X.A X.stack s1 H1 ⟨us, []⟩ us vs Q (E σ) p cls d hr hot hz hpin I1.env0 b r q) fun r s' hq => ?_)
  cases r with
  | error e => exact hx σ pins H1 s1 e s' I1 hq
  | ok fl =>
    cases fl with
    | ret u => exact I1.after hq
    | next => exact False.elim hq
    | brk => exact False.elim hq
    | cont => exact False.elim hq
/-- nothing is let out -/
theorem passS0 {X : Cx} : ∀ σ : L2.St, PassesAt CX0 X σ E0 := fun _ _ _ _ _ _ _ h => h.elim
end
end
/-! ### exceptions: mirrors -/
namespace SM
variable {μ τ ρ α : Type}
/-- an exception: its class, its numbers -/
def exD (n : Str) (is : List Int) : D := .tuple (.str n :: is.map .int)
/-- the fields that an exception's class stores -/
def fldsX (n : Str) : List Str := if n = "Spoilt" then ["step"] else if n = "NoTable" then ["top", "look"] else if n = "NoDeed" then ["number"] else []
def nmX : D → Str
  | .tuple (.str n :: _) => n
  | _ => Str.empty
def numsX : D → List D
  | .tuple (.str _ :: ds) => ds
  | _ => []
/-- e.f -/
def fldX (f : Str) (e : D) : Option D := ((fldsX (nmX e)).zip (numsX e)).lookup f
/-- whether it is of the class n -/
def isX (n : Str) (e : D) : Bool := nmX e == n
/-- C(..), C with fields -/
def mkX (n : Str) (xs : List D) : Option D := match intsD xs with
  | some is => if is.length = (fldsX n).length ∧ is ≠ [] ∧ is.all (fun i => decide (i.natAbs.log2 < 1900)) = true then some (exD n is) else none
  | none => none
def tryS (mt : D → Bool) (R : SM μ (Fl τ ρ)) (hnd : D → SM μ (Fl τ ρ)) : SM μ (Fl τ ρ) := fun m => match R m with
  | .exc e m' => if mt e then hnd e m' else .exc e m'
  | .ok a m' => .ok a m'
  | .bad => .bad
theorem tryS_ok {mt : D → Bool} {R : SM μ (Fl τ ρ)} {hnd : D → SM μ (Fl τ ρ)} {m m' : μ} {a : Fl τ ρ} (h : R m = .ok a m') : tryS mt R hnd m = .ok a m' := by unfold tryS; rw [h]
theorem tryS_bad {mt : D → Bool} {R : SM μ (Fl τ ρ)} {hnd : D → SM μ (Fl τ ρ)} {m : μ} (h : R m = .bad) : tryS mt R hnd m = .bad := by unfold tryS; rw [h]
theorem tryS_exc {mt : D → Bool} {R : SM μ (Fl τ ρ)} {hnd : D → SM μ (Fl τ ρ)} {m m' : μ} {e : D} (h : R m = .exc e m') : tryS mt R hnd m = if mt e then hnd e m' else .exc e m' := by unfold tryS; rw [h]
theorem tryS_pu {mt : D → Bool} {hnd : D → SM μ (Fl τ ρ)} (a : Fl τ ρ) : tryS mt (pu a) hnd = pu a := rfl
theorem tryS_raise {mt : D → Bool} {hnd : D → SM μ (Fl τ ρ)} (e : D) : tryS mt (raise e) hnd = if mt e then hnd e else raise e := by
  funext m
  show (if mt e then hnd e m else .exc e m) = _
  cases mt e <;> rfl
theorem raise_bd {β : Type} (e : D) (f : α → SM μ β) : bd (raise e) f = raise e := rfl
end SM
section
open SM
/-- an exception's data, its class and its dict: of the classes cl -/
def rootX (cl : List (Str × Addr)) (e : D) (cls : Value) (d : Option Addr) : Root where
  fp := fun _ => d.toList
  same := fun _ _ _ => rfl
  P := fun _ H => ∃ (n : Str) (is : List Int) (C : Addr), (n, C) ∈ cl ∧ e = exD n is ∧ cls = .ref C ∧ is.length = (fldsX n).length ∧ ((d = none ∧ is = []) ∨ ∃ (dx : Addr) (fs : List (Str × V)), d = some dx ∧ H dx = some (.xd fs) ∧ ∀ (k : Nat) (f : Str) (i : Int), (fldsX n)[k]? = some f → is[k]? = some i → fs.lookup f = some (.int i))
  mono := fun k e h => by
    obtain ⟨n, is, C, h1, h2, h3, h4, h5⟩ := h
    refine ⟨n, is, C, h1, h2, h3, h4, h5.imp id fun ⟨dx, fs, e1, e2, e3⟩ => ⟨dx, fs, e1, ?_, e3⟩⟩
    rw [e dx (by rw [e1]; exact .head _)]; exact e2
  occ := fun h p hp => by
    obtain ⟨n, is, C, h1, h2, h3, h4, h5⟩ := h
    rcases h5 with ⟨rfl, _⟩ | ⟨dx, fs, rfl, e2, _⟩
    · cases hp
    · rw [List.mem_singleton.mp hp]; exact ⟨_, e2⟩
theorem rootX_iff {cl : List (Str × Addr)} {e : D} {cls : Value} {d : Option Addr} {B : Addr → Prop} {H : Hp} : (rootX cl e cls d).P B H ↔ ∃ (n : Str) (is : List Int) (C : Addr), (n, C) ∈ cl ∧ e = exD n is ∧ cls = .ref C ∧ is.length = (fldsX n).length ∧ ((d = none ∧ is = []) ∨ ∃ (dx : Addr) (fs : List (Str × V)), d = some dx ∧ H dx = some (.xd fs) ∧ ∀ (k : Nat) (f : Str) (i : Int), (fldsX n)[k]? = some f → is[k]? = some i → fs.lookup f = some (.int i)) := Iff.rfl
variable {X : Cx} {μ τ τ' ρ : Type} {G : Gx} {σ : St} {L : List (V × D)} {C Cp : μ → List Root} {te ta tb tc : TE} {tt tu : TT} {t u : TS} {E E1 E2 E3 : SM μ D} {Jn : Shp μ τ} {Jl : Shp μ ρ} {i j : Nat}
/-- raise X('..') -/
theorem sv_raise0 {Cc : Addr} {n : Str} {cl : List (Str × Addr)} (hc : Sub Cp C) (hX : G.XR = rootX cl) (hm : (n, Cc) ∈ cl) (hf : fldsX n = []) : SV G Cp (tSeq (fun _ _ H => G.Xk (.ref Cc) none H) u) σ L C (raise (exD n [])) Jn Jl := by
  intro m F L' H d s w _ _ _ _ b
  refine b.1 (exD n []) m _ _ H rfl ?_
  obtain ⟨B, wb⟩ := (w.subC ((hc m).append_right F) : Wd G.K G.O L' (Cp m ++ F) H)
  rw [hX]
  refine ⟨B, wb.addR (r := rootX cl (exD n []) (.ref Cc) none) (rootX_iff.mpr ⟨n, [], Cc, hm, rfl, rfl, by rw [hf]; rfl, .inl ⟨rfl, rfl⟩⟩) (fun p hp => by have hp' : p ∈ ([] : List Addr) := hp; cases hp') List.nodup_nil⟩
/-- what an own __init__ that stores its arguments promises -/
def SpXI (K : PySem.W.Frag) (Cc : Addr) (flds : List Str) : Sp := fun vs H Q _ => vs.length = flds.length + 1 ∧ ∃ (a : Addr) (is : List Int), vs = .ref a :: is.map V.int ∧ H a = some (exo a Cc none) ∧ (∀ i ∈ is, i.natAbs.log2 < 1900) ∧
  ∀ dx H', H dx = none → dx ≠ a → H' a = some (exo a Cc (some dx)) → H' dx = some (exd dx ((flds.zip (is.map V.int)).reverse)) → (∀ p, p ≠ a → p ≠ dx → H' p = H p) → Q .non H'
theorem look_rev : ∀ {fs : List Str} {is : List Int} {k : Nat} {f : Str} {i : Int}, fs.Nodup → fs[k]? = some f → is[k]? = some i → ((fs.zip (is.map V.int)).reverse).lookup f = some (V.int i)
  | [], _, k, f, i, _, h, _ => by cases h
  | _ :: _, [], k, f, i, _, _, h => by cases h
  | g :: fs, x :: is, 0, f, i, nd, h1, h2 => by
    cases h1
    cases h2
    have hnm : ∀ (l : List (Str × V)), (∀ p ∈ l, p.1 ≠ g) → (l ++ [(g, V.int x)]).lookup g = some (V.int x) := by
      intro l
      induction l with
      | nil => intro _; simp [List.lookup]
      | cons p l ih =>
        intro h
        obtain ⟨q, v⟩ := p
        have hq : q ≠ g := h _ (.head _)
        have : (g == q) = false := by simpa using fun e => hq e.symm
        rw [List.cons_append]
        simp only [List.lookup, this]
        exact ih fun p hp => h p (.tail _ hp)
    rw [List.map_cons, List.zip_cons_cons, List.reverse_cons]
    refine hnm _ fun p hp e => ?_
    have := List.of_mem_zip (List.mem_reverse.mp hp)
    exact (List.nodup_cons.mp nd).1 (e ▸ this.1)
  | g :: fs, x :: is, k + 1, f, i, nd, h1, h2 => by
    have ih := look_rev (k := k) (List.nodup_cons.mp nd).2 h1 h2
    rw [List.map_cons, List.zip_cons_cons, List.reverse_cons]
    have hap : ∀ (l : List (Str × V)) (v : V), l.lookup f = some v → ∀ l2, (l ++ l2).lookup f = some v := by
      intro l
      induction l with
      | nil => intro v h; cases h
      | cons p l ih =>
        intro v h l2
        obtain ⟨q, w⟩ := p
        rw [List.cons_append]
        unfold List.lookup at h ⊢
        by_cases c : f = q
        · subst c
          simp only [beq_self_eq_true] at h ⊢
          exact h
        · have : (f == q) = false := by simpa using c
          rw [this] at h ⊢
          exact ih v h l2
    exact hap _ _ ih _
/-- raise X(..), X with fields -/
theorem sv_raiseN {ta : TA} {Es : SM μ (List D)} {Cc : Addr} {n : Str} {cl : List (Str × Addr)} (hc : Sub Cp C) (hX : G.XR = rootX cl) (hm : (n, Cc) ∈ cl) (hnd : (fldsX n).Nodup) (h : AV G ta σ L C Es) :
    SV G Cp (tSeq (fun _ σ H => tMkO Cc (SpXI G.K Cc (fldsX n)) [] ta σ H fun cls d H' => G.Xk cls d H') u) σ L C (bd Es fun xs => bd (of (mkX n xs)) fun e => raise e) Jn Jl := by
  intro m F L' H d s w _ _ _ _ b
  show tMkO Cc (SpXI G.K Cc (fldsX n)) [] ta σ H fun cls d H' => G.Xk cls d H'
  refine h m F L' H _ s w (fun xs m1 vs H1 Lz e1 s2 i2 w1 => ?_) (b.fst.subC hc)
  have b1 : Bk G Cp F L' (bd (of (mkX n xs)) (fun e => (raise e : SM μ (Fl τ ρ))) m1) := b.snd e1
  cases em : mkX n xs with
  | none => rw [em] at b1; exact absurd rfl b1.2
  | some z =>
    unfold mkX at em
    cases ei : intsD xs with
    | none => rw [ei] at em; cases em
    | some is =>
      rw [ei] at em
      simp only at em
      split at em
      · next c =>
        cases em
        obtain ⟨c1, c0, c2⟩ := c
        obtain ⟨B0, wb0⟩ := w1
        have hvs : vs = is.map V.int := by
          have := i2.dt (fun f hf => wb0.ft f hf)
          rw [intsD_map ei] at this
          exact DtAll.ints_inv this
        have hlen : (fldsX n).length ≤ 2 := by
          unfold fldsX
          split
          · exact (by decide : 1 ≤ 2)
          · split
            · exact (by decide : 2 ≤ 2)
            · split
              · exact (by decide : 1 ≤ 2)
              · exact (by decide : 0 ≤ 2)
        refine ⟨by rw [hvs, List.length_map]; omega, fun a ha => ?_⟩
        rw [List.append_nil]
        refine ⟨by rw [List.length_cons, hvs, List.length_map]; omega, a, is, by rw [hvs], upd_same, fun i hi => of_decide_eq_true (List.all_eq_true.mp c2 i hi), fun dx H' hdx hne e1' e2' hk => ?_⟩
        rw [upd_ne hne] at hdx
        refine ⟨rfl, dx, _, e1', e2', hdx, ?_⟩
        have er : bd Es (fun xs => bd (of (mkX n xs)) fun e => (raise e : SM μ (Fl τ ρ))) m = .exc (exD n is) m1 := by
          rw [bd_ok e1]
          unfold mkX
          rw [ei]
          show bd (of (if is.length = (fldsX n).length ∧ is ≠ [] ∧ is.all (fun i => decide (i.natAbs.log2 < 1900)) = true then some (exD n is) else none)) _ m1 = _
          rw [if_pos ⟨c1, c0, c2⟩]
          rfl
        refine b.1 (exD n is) m1 _ _ _ er ?_
        rw [hX]
        have sm : Same H1 (upd (L2.del H' a) dx (.xd (((fldsX n).zip (is.map V.int)).reverse))) := fun p o e => by
          have npd : p ≠ dx := fun z => by rw [z, hdx] at e; cases e
          have npa : p ≠ a := fun z => by rw [z, ha] at e; cases e
          rw [upd_ne npd, L2.del_ne npa, hk p npa npd, upd_ne npa]
          exact e
        have w2 := wb0.grow (B' := B0) sm (fun _ b => b) (fun _ b => .inl b)
        have nB : ¬ B0 dx := fun z => by
          obtain ⟨o, ho⟩ := wb0.bo dx z
          rw [hdx] at ho; cases ho
        have w4 : Wb G.K G.O B0 Lz (Cp m1 ++ F) (upd (L2.del H' a) dx (.xd (((fldsX n).zip (is.map V.int)).reverse))) := by
          have hs : ∀ {H0 : Hp}, (fps (Cp m1 ++ F) H0).Sublist (fps (C m1 ++ F) H0) := fps_sub ((hc m1).append_right F)
          exact ⟨w2.lo, w2.hi, hs.nodup w2.nd, fun p hp => w2.nb p (hs.mem hp), fun p hp => w2.fr p (hs.mem hp), fun c hc' => w2.rt c (((hc m1).append_right F).mem hc'), w2.ft, w2.kp, w2.oc, w2.bo⟩
        refine ⟨B0, (w4.addR (r := rootX cl (exD n is) (.ref Cc) (some dx)) (rootX_iff.mpr ⟨n, is, Cc, hm, rfl, rfl, c1, .inr ⟨dx, _, rfl, upd_same, fun k f i k1 k2 => look_rev hnd k1 k2⟩⟩) (fun p hp => ?_) (List.nodup_cons.mpr ⟨by simp, List.nodup_nil⟩)).fts fun f hf => w4.ft f (s2 f hf)⟩
        rw [List.mem_singleton.mp hp]
        exact ⟨wb0.none hdx, nB, fun z => wb0.free hdx (by rw [← wb0.same sm]; exact (fps_sub ((hc m1).append_right F)).mem z)⟩
      · cases em
/-- a call within a try -/
theorem ev_cPXS {ta : TA} {Es : SM μ (List D)} {mf : List D → SM Unit D} {n : Nat} {W : WX} (hW : ∀ cls d H, G.Xk cls d H → W cls d σ H) (hn : ∀ ds, mf ds () ≠ .bad → ds.length = n) (h : AV G ta σ L C Es) : EV G (tCallS (SpPX G.K G.XR n mf) (WE W) ta) σ L C (cPX mf Es) := by
  intro m F L' H Q s w q b
  refine h m F L' H _ s w (fun xs m1 vs H1 L2 e1 s2 i2 w1 => ?_) b.fst
  have b1 := b.snd e1
  have er : cPX mf Es m = p0 (mf xs) m1 := bd_ok e1
  have nb : mf xs () ≠ .bad := fun z => by
    exact b1.2 (p0_bad z)
  obtain ⟨B, wb⟩ := w1
  refine ⟨by rw [i2.len]; exact hn xs nb, B, xs, wb.bo, i2.dt wb.ft, nb, fun x v H' B' ex sm h1 h2 hd => ?_, fun e cls d H' B' ex sm h1 h2 xr xf xn => ?_⟩
  · refine q x m1 v H' ?_ ⟨B', ((wb.grow sm h1 h2).fact hd).fts fun f hf => ?_⟩
    · rw [er]
      exact p0_ok ex
    · rcases List.mem_cons.mp hf with e | e
      · subst e; exact hd
      · exact (wb.grow sm h1 h2).ft f (s2 f e)
  · refine hW _ _ _ (b.1 e m1 cls d H' ?_ ⟨B', ((wb.grow sm h1 h2).addR xr (fun p hp => ⟨wb.none (xf p hp).1, (xf p hp).2, by rw [wb.same sm]; exact wb.free (xf p hp).1⟩) xn).fts fun f hf => (wb.grow sm h1 h2).ft f (s2 f hf)⟩)
    rw [er]
    exact p0_exc ex
/-- try: .. except c as n: .. -/
theorem sv_try {cl : List (Str × Addr)} {mt : D → Bool} {R : SM μ (Fl τ ρ)} {hnd : D → SM μ (Fl τ ρ)} {tb : WX → TS} {ts : Addr → Value → Option Addr → TS} {c : Value} (hc : Sub Cp C) (hX : G.XR = rootX cl ∨ G.XR = noX)
    (hm : ∀ n D is, (n, D) ∈ cl → PySem.W.exmOne G.K (.ref D) c = some (mt (exD n is)))
    (hb : ∀ (W : WX), SV ⟨G.K, G.O, fun cls d H => W cls d σ H, rootX cl, G.rf⟩ C (tb W) σ L C R Jn Jl)
    (hs : ∀ a cls d e, mt e = true → SV G Cp (ts a cls d) (σ.set i (some (.ref a))) L (fun m => rootX cl e cls d :: C m) (hnd e) (fun s σ' L2 C2 => Jn s (σ'.set i none) L2 C2) (fun s σ' L2 C2 => Jl s (σ'.set i none) L2 C2)) :
    SV G Cp (tTryA G.K c i ts (fun cls d _ H => G.Xk cls d H) tb) σ L C (tryS mt R hnd) Jn Jl := by
  intro m F L' H D s w q1 q2 q3 q4 b
  refine hb (wAs G.K c i ts (fun cls d _ H => G.Xk cls d H) D) m F L' H D s w (fun s m' σ' L2 C2 H' e => q1 s m' σ' L2 C2 H' (tryS_ok e)) (fun s m' σ' L2 C2 H' e => q2 s m' σ' L2 C2 H' (tryS_ok e)) (fun s m' σ' L2 C2 H' e => q3 s m' σ' L2 C2 H' (tryS_ok e)) (fun x m' v H' L1 C1 e r w' => q4 x m' v H' L1 C1 (tryS_ok e) r (w'.subC ((List.Sublist.refl _).append ((hc m').append_right F)))) ⟨fun e m' cls d H' ex w' => ?_, fun z => b.2 (tryS_bad z)⟩
  have hP : ∃ n is C0, (n, C0) ∈ cl ∧ e = exD n is ∧ cls = .ref C0 := by
    obtain ⟨B, wb⟩ := w'
    obtain ⟨n, is, C0, h1, h2, h3, _⟩ := rootX_iff.mp (wb.rt _ (.head _))
    exact ⟨n, is, C0, h1, h2, h3⟩
  obtain ⟨n, is, C0, hin, ee, ec⟩ := hP
  show wAs G.K c i ts (fun cls d _ H => G.Xk cls d H) D cls d σ H'
  refine ⟨mt e, by rw [ec, ee]; exact hm n C0 is hin, fun hmt a ha => ?_, fun hmt => ?_⟩
  · have ex2 : tryS mt R hnd m = hnd e m' := by rw [tryS_exc ex, if_pos hmt]
    refine hs a cls d e hmt m' F L' H' _ s w' (fun s2 m2 σ2 L2 C2 H2 e2 j2 w2 => ?_) (fun s2 m2 σ2 L2 C2 H2 e2 j2 w2 => ?_) (fun s2 m2 σ2 L2 C2 H2 e2 j2 w2 => ?_) (fun x m2 v H2 L1 C1 e2 r2 w2 => ?_) ?_
    · exact q1 s2 m2 (σ2.set i none) L2 C2 H2 (ex2.trans e2) j2 w2
    · exact q2 s2 m2 (σ2.set i none) L2 C2 H2 (ex2.trans e2) j2 w2
    · exact q3 s2 m2 (σ2.set i none) L2 C2 H2 (ex2.trans e2) j2 w2
    · exact q4 x m2 v H2 L1 C1 (ex2.trans e2) r2 w2
    · rw [ex2] at b
      exact b
  · have ex2 : tryS mt R hnd m = .exc e m' := by rw [tryS_exc ex, hmt]; rfl
    refine b.1 e m' cls d H' ex2 ?_
    have w3 : Wd G.K G.O L' (rootX cl e cls d :: (Cp m' ++ F)) H' := w'.subC (List.Sublist.cons₂ _ ((hc m').append_right F))
    rcases hX with h | h
    · rw [h]; exact w3
    · rw [h]
      obtain ⟨B, w3⟩ := w3
      have hs : (fps (Cp m' ++ F) H').Sublist (fps (rootX cl e cls d :: (Cp m' ++ F)) H') := fps_sub (List.sublist_cons_self _ _)
      have w4 : Wb G.K G.O B L' (Cp m' ++ F) H' := ⟨w3.lo, w3.hi, hs.nodup w3.nd, fun p hp => w3.nb p (hs.mem hp), fun p hp => w3.fr p (hs.mem hp), fun c hc => w3.rt c (.tail _ hc), w3.ft, w3.kp, w3.oc, w3.bo⟩
      exact ⟨B, w4.addR (r := noX e cls d) trivial (fun p hp => by cases hp) List.nodup_nil⟩
/-! what is done with the exception -/
/-- the first root was changed, its places are the same -/
theorem Wb.chgR {K : PySem.W.Frag} {O : Og} {B B' : Addr → Prop} {L : List (V × D)} {Z : List Root} {H H' : Hp} {r : Root} (hst : r.fp H' = r.fp H) (wb : Wb K O B L (r :: Z) H) (hk : ∀ p o, p ∉ r.fp H → H p = some o → H' p = some o)
    (h1 : ∀ p, B p → B' p) (h2 : ∀ p, B' p → B p ∨ (H p = Option.none ∧ ∃ o, H' p = some o)) (hr : r.P B' H') : Wb K O B' L (r :: Z) H' := by
  have hm : ∀ p ∈ r.fp H, p ∈ fps (r :: Z) H := fun p hp => by rw [fps_cons]; exact List.mem_append.mpr (.inl hp)
  have hnd := wb.nd
  rw [fps_cons] at hnd
  have hdis := (List.nodup_append.mp hnd).2.2
  have k : Kp B H B' H' := fun p o b e => ⟨h1 p b, hk p o (fun z => wb.nb p (hm p z) b) e⟩
  have es : fps (r :: Z) H' = fps (r :: Z) H := by
    rw [fps_cons, fps_cons, hst, fps_same k (fun c hc => wb.rt c (.tail _ hc)) fun p hp => ?_]
    obtain ⟨c, hc, hp2⟩ := List.mem_flatMap.mp hp
    obtain ⟨o, ho⟩ := c.occ (wb.rt c (.tail _ hc)) p hp2
    rw [ho]
    exact hk p o (fun z => hdis p z p hp rfl) ho
  refine ⟨fun p b => h1 p (wb.lo p b), fun p b => ?_, by rw [es]; exact wb.nd, fun p hp b => ?_, fun p hp => wb.fr p (by rw [← es]; exact hp), fun c hc => ?_, fun f hf => Dt.mono k _ _ (wb.ft f hf), fun p o hp e => ?_, fun p hp => ?_, fun p b => ?_⟩
  · rcases h2 p b with b | n
    · exact wb.hi p b
    · exact .inr (wb.none n.1)
  · rw [es] at hp
    rcases h2 p b with b | n
    · exact wb.nb p hp b
    · exact wb.free n.1 hp
  · rcases List.mem_cons.mp hc with e | e
    · subst e; exact hr
    · refine c.mono k (fun p hp => ?_) (wb.rt c (.tail _ e))
      obtain ⟨o, ho⟩ := c.occ (wb.rt c (.tail _ e)) p hp
      rw [ho]
      exact hk p o (fun z => hdis p z p (mem_fps e hp) rfl) ho
  · by_cases z : p ∈ r.fp H
    · rcases wb.fr p (hm p z) with y | y
      · exact absurd y hp
      · rw [y] at e; cases e
    · exact hk p o z (wb.kp p o hp e)
  · by_cases z : p ∈ r.fp H
    · exact r.occ hr p (by rw [hst]; exact z)
    · obtain ⟨o, ho⟩ := wb.oc p hp
      exact ⟨o, hk p o z ho⟩
  · rcases h2 p b with b | n
    · obtain ⟨o, ho⟩ := wb.bo p b
      exact ⟨o, hk p o (fun z => wb.nb p (hm p z) b) ho⟩
    · exact n.2
/-- isinstance(e, T) -/
theorem ev_isX {Z : μ → List Root} {cl : List (Str × Addr)} {a : Addr} {cls : Value} {d : Option Addr} {e : D} {cv : Value} {cw : V} {q : Str → Bool} (hv : σ[i]? = some (some (.ref a))) (hcv : ∀ u, RelV cw u → u = cv)
    (hC : ∀ n D, (n, D) ∈ cl → ExcC G.K D ∧ PySem.W.kitOne G.K (.ref D) cv = some (q n)) : EV G (tCB (rIsX G.K cls d a) (tCons (tVar i) (tCons (tC cw) tNil))) σ L (fun m => rootX cl e cls d :: Z m) (pu (.bool (q (nmX e)))) := by
  intro m F L' H Q s w qq b
  refine ⟨.ref a, hv, ?_⟩
  obtain ⟨B, wb⟩ := w
  obtain ⟨n, is, D, h1, rfl, rfl, h4, h5⟩ := rootX_iff.mp (wb.rt _ (.head _))
  obtain ⟨c1, c2⟩ := hC n D h1
  refine ⟨D, cw, cv, q n, rfl, c1, rfl, hcv, c2, fun dx hdx => ?_, qq _ m _ H rfl ⟨B, wb.fact (.bl _)⟩⟩
  rcases h5 with ⟨z, _⟩ | ⟨dx', fs, z, e2, _⟩
  · rw [z] at hdx; cases hdx
  · rw [z] at hdx; cases hdx
    exact ⟨fs, e2⟩
/-- e.f -/
theorem ev_fldX {Z : μ → List Root} {cl : List (Str × Addr)} {a Cc : Addr} {cls : Value} {d : Option Addr} {e : D} {f : Str} (hv : σ[i]? = some (some (.ref a))) (hC : ∀ n D, (n, D) ∈ cl → f ∈ fldsX n → D = Cc) :
    EV G (tXf a cls d Cc f (tVar i)) σ L (fun m => rootX cl e cls d :: Z m) (of (fldX f e)) := by
  intro m F L' H Q s w qq b
  refine ⟨.ref a, hv, rfl, ?_⟩
  obtain ⟨B, wb⟩ := w
  obtain ⟨n, is, D, h1, rfl, rfl, h4, h5⟩ := rootX_iff.mp (wb.rt _ (.head _))
  have ef : fldX f (exD n is) = ((fldsX n).zip (is.map PyData.int)).lookup f := rfl
  cases el : ((fldsX n).zip (is.map PyData.int)).lookup f with
  | none => rw [ef, el] at b; exact absurd rfl b.2
  | some z =>
    have key : ∀ (fs : List Str) (is : List Int), fs.length = is.length → (fs.zip (is.map PyData.int)).lookup f = some z → ∃ (k : Nat) (i : Int), fs[k]? = some f ∧ is[k]? = some i ∧ z = .int i := by
      intro fs
      induction fs with
      | nil => intro is _ h; cases h
      | cons g fs ih =>
        intro is hl h
        cases is with
        | nil => cases hl
        | cons x is =>
          rw [List.map_cons, List.zip_cons_cons] at h
          unfold List.lookup at h
          by_cases c : f = g
          · subst c
            simp only [beq_self_eq_true] at h
            cases h
            exact ⟨0, x, rfl, rfl, rfl⟩
          · have : (f == g) = false := by simpa using c
            rw [this] at h
            obtain ⟨k, i, k1, k2, k3⟩ := ih is (by simpa using hl) h
            exact ⟨k + 1, i, k1, k2, k3⟩
    obtain ⟨k, i, k1, k2, rfl⟩ := key _ _ h4.symm el
    have hD : D = Cc := hC n D h1 (List.mem_of_getElem? k1)
    subst hD
    rcases h5 with ⟨_, z⟩ | ⟨dx, fs, z, e2, e3⟩
    · rw [z] at k2; cases k2
    · refine ⟨rfl, dx, fs, .int i, z, e2, e3 k f i k1 k2, qq (.int i) m _ H ?_ ⟨B, wb.fact (.int _)⟩⟩
      rw [ef, el]; rfl
/-- a def that is handed the exception that is handled -/
def SpE (K : PySem.W.Frag) (XR : D → Value → Option Addr → Root) (mf : D → SM Unit D) : Addr → Value → Option Addr → Sp := fun a cls d vs H Q _ => vs.length = 1 ∧ vs = [.ref a] ∧ ∃ (B : Addr → Prop) (e x : D), (∀ p, B p → ∃ o, H p = some o) ∧ (XR e cls d).P B H ∧ (∀ p ∈ (XR e cls d).fp H, ¬ B p) ∧ ((XR e cls d).fp H).Nodup ∧ mf e () = .ok x () ∧
  (∀ v H' B', (∀ p o, p ∉ (XR e cls d).fp H → H p = some o → H' p = some o) → (∀ p, B p → B' p) → (∀ p, B' p → B p ∨ (H p = none ∧ ∃ o, H' p = some o)) → (XR e cls d).P B' H' → Dt K B' H' v x → Q v H')
theorem ev_cE {Z : μ → List Root} {XR : D → Value → Option Addr → Root} {a : Addr} {cls : Value} {d : Option Addr} {e : D} {mf : D → SM Unit D} (hv : σ[i]? = some (some (.ref a))) (hst : ∀ H H', (XR e cls d).fp H = (XR e cls d).fp H' := by intros; rfl) : EV G (tCallS (SpE G.K XR mf a cls d) (fun _ => E0) (tCons (tVar i) tNil)) σ L (fun m => XR e cls d :: Z m) (px (mf e)) := by
  intro m F L' H Q s w qq b
  refine ⟨.ref a, hv, ?_⟩
  obtain ⟨x, ex⟩ := px_nb b.2
  obtain ⟨B, wb⟩ := w
  have hm : ∀ p ∈ (XR e cls d).fp H, p ∈ fps ((XR e cls d :: Z m) ++ F) H := fun p hp => by rw [List.cons_append, fps_cons]; exact List.mem_append.mpr (.inl hp)
  have hnd := wb.nd
  rw [List.cons_append, fps_cons] at hnd
  refine ⟨rfl, rfl, B, e, x, wb.bo, wb.rt _ (.head _), fun p hp => wb.nb p (hm p hp), (List.nodup_append.mp hnd).1, ex, fun v H' B' hk h1 h2 hr hd => ?_⟩
  have w2 := Wb.chgR (Z := Z m ++ F) (hst _ _) wb hk h1 h2 hr
  exact qq x m v H' (px_ok ex) ⟨B', w2.fact hd⟩
theorem body_E {K : PySem.W.Frag} {XR : D → Value → Option Addr → Root} {mf : D → SM Unit D} {ts : TS} {N : List Str} {H : Hp} {a : Addr} {cls : Value} {d : Option Addr} {vs : List V} {Q : VK} {E : XK} (hsp : SpE K XR mf a cls d vs H Q E)
    (h : ∀ (e : D) (O : Og), ∃ (R : SM Unit (Fl Unit Empty)), mf e = fin R ∧ SV ⟨K, O, E0, noX, rfF⟩ (fun _ => [XR e cls d]) ts (start N [.ref a]) [] (fun _ => [XR e cls d]) R (fun _ _ _ _ => False) (fun z _ _ _ => z.elim)) : ts { nx := fun _ H' => Q .non H', rt := Q } (start N vs) H := by
  obtain ⟨_, rfl, B, e, x0, hb, hr, hnB, hnd, ex, q⟩ := hsp
  obtain ⟨R, hR, hS⟩ := h e ⟨B, H, (XR e cls d).fp H⟩
  have ef : fps ([XR e cls d] ++ []) H = (XR e cls d).fp H := by rw [List.append_nil, fps_cons]; exact List.append_nil _
  have w0 : Wd K ⟨B, H, (XR e cls d).fp H⟩ [] ([XR e cls d] ++ []) H := by
    refine ⟨B, fun p b => b, fun p b => .inl b, by rw [ef]; exact hnd, fun p hp => hnB p (by rw [← ef]; exact hp), fun p hp => .inl (by rw [← ef]; exact hp), fun c hc => ?_, fun f hf => (by cases hf), fun p o _ e => e, (XR e cls d).occ hr, hb⟩
    have : c = XR e cls d := by simpa using hc
    subst this; exact hr
  rw [hR] at ex
  refine hS () [] [] H _ (fun f hf => hf) w0 ?_ ?_ ?_ ?_ ?_
  · intro s m' σ' L2 C2 H' e z w
    exact z.elim
  · intro s; exact s.elim
  · intro s; exact s.elim
  · rintro x m' v H' _ _ e1 ⟨rfl, rfl⟩ w
    have e2 : fin R () = .ok x m' := bd_ok e1
    rw [e2] at ex
    cases ex
    obtain ⟨B', wb⟩ := w
    refine q v H' B' (fun p o hp e => wb.kp p o hp e) wb.lo (fun p b => ?_) (wb.rt _ (.head _)) (wb.ft _ (.head _))
    rcases wb.hi p b with z | z
    · exact .inl z
    · exact .inr ⟨z, wb.bo p b⟩
  · refine ⟨fun e m' cls d H' z => ?_, fun z => ?_⟩
    · have e2 : fin R () = .exc e m' := bd_exc z
      rw [e2] at ex
      cases ex
    · have e2 : fin R () = .bad := bd_bad z
      rw [e2] at ex
      cases ex
end
namespace SM
variable {μ : Type}
/-- an own class, by name -/
def isq (t n : Str) : Bool := n == t
/-- a class above all own ones -/
def isa (_ : Str) : Bool := true
def strsD : List D → Option (List Str)
  | [] => some []
  | .str x :: r => (strsD r).map (x :: ·)
  | _ => none
def joinS (a : Str) (ys : List Str) : Str := Txt.join a ys
def strO : D → Option Str
  | .str a => some a
  | _ => none
def joinD (a : Str) : D → Option D
  | .list ds => match strsD ds with
    | some ys => if (ys.map (·.length)).sum + ys.length * a.length ≤ 16777216 then some (.str (joinS a ys)) else none
    | none => none
  | _ => none
def join (E1 E2 : SM μ D) : SM μ D := bd E1 fun x => bd (of (strO x)) fun a => bd E2 fun y => of (joinD a y)
end SM
section
open SM PySem.Spec
variable {X : Cx} {μ : Type} {G : Gx} {σ : L2.St} {L : List (V × D)} {C : μ → List Root} {te to : TE} {E E1 E2 : SM μ D} {i : Nat} {K : PySem.W.Frag} {H : Hp}
theorem strsD_map : ∀ {ds : List D} {ys : List Str}, strsD ds = some ys → ds = ys.map .str
  | [], _, h => by cases h; rfl
  | d :: ds, ys, h => by
    cases d <;> simp only [strsD] at h <;> (try cases h)
    rename_i x
    cases e : strsD ds with
    | none => rw [e] at h; cases h
    | some r => rw [e] at h; cases h; rw [strsD_map e]; rfl
theorem DtAll.strs_inv {B : Addr → Prop} : ∀ {ys : List Str} {vs : List V}, DtAll K B H vs (ys.map PyData.str) → vs = ys.map V.str
  | [], _, h => by cases h; rfl
  | n :: ns, _, h => by
    cases h with
    | cons a b => rw [a.str_inv, DtAll.strs_inv b]; rfl
/-- sep.join(..) -/
theorem ev_join (h1 : EV G to σ L C E1) (h2 : EV G te σ L C E2) : EV G (tM1 (fun x xs H Q => ∃ (a : Str) (p : Addr), ∃ ys : List Str, x = .str a ∧ xs = [.ref p] ∧ (SqL G.K H p (ys.map V.str) ∨ SqT G.K H p (ys.map V.str)) ∧
      (ys.map (·.length)).sum + ys.length * a.length ≤ 16777216 ∧ Q (.str (Txt.join a ys)) H) to te) σ L C (SM.join E1 E2) := by
  intro m F L' H Q s w q b
  refine h1 m F L' H _ s w (fun x m1 v H1 e1 w1 => ?_) b.fst
  have b1 := b.snd e1
  cases x with
  | str a =>
    have w1' := w1
    obtain ⟨B, wb⟩ := w1'
    have hva : v = .str a := (wb.ft _ (.head _)).str_inv
    subst hva
    have er1 : SM.join E1 E2 m = bd E2 (fun y => of (joinD a y)) m1 := bd_ok e1
    have b1' : Bk G C F L' (bd E2 (fun y => of (joinD a y)) m1) := b1
    refine ⟨⟨a, rfl⟩, h2 m1 F ((.str a, .str a) :: L') H1 _ (fun f hf => .tail _ (s f hf)) w1 (fun y m2 u H2 e2 w2 => ?_) (b1'.fst.mono fun f hf => .tail _ hf)⟩
    have b2 := b1'.snd e2
    have er2 : SM.join E1 E2 m = of (joinD a y) m2 := by rw [er1, bd_ok e2]
    cases y with
    | list ds =>
      cases es : strsD ds with
      | none =>
        have : joinD a (.list ds) = none := by simp only [joinD, es]
        rw [this] at b2
        exact absurd rfl b2.2
      | some ys =>
        by_cases c : (ys.map (·.length)).sum + ys.length * a.length ≤ 16777216
        · have ej : joinD a (.list ds) = some (.str (joinS a ys)) := by simp only [joinD, es]; rw [if_pos c]
          obtain ⟨B2, wb2⟩ := w2
          obtain ⟨p, xs, rfl, hl, ha⟩ := Dt.lst_inv (wb2.ft _ (.head _))
          rw [strsD_map es] at ha
          have := DtAll.strs_inv ha
          subst this
          refine ⟨a, p, ys, rfl, rfl, .inl hl.sq, c, q (.str (joinS a ys)) m2 (.str (Txt.join a ys)) H2 (by rw [er2, ej]; rfl) ⟨B2, wb2.fts fun f hf => ?_⟩⟩
          rcases List.mem_cons.mp hf with e | e
          · rw [e]; exact .str _
          · exact wb2.ft f (.tail _ (.tail _ e))
        · have : joinD a (.list ds) = none := by simp only [joinD, es]; rw [if_neg c]
          rw [this] at b2
          exact absurd rfl b2.2
    | _ => exact absurd rfl b2.2
  | _ => exact absurd rfl b1.2
/-- a walk over two lists -/
theorem iv_zipL {ta : TA} {Es : SM μ (List D)} (h : AV G ta σ L C Es) : IV G (iZip G.K ta) σ L C (itZ Es) := by
  intro m F L' H R s w q b
  refine h m F L' H _ s w (fun ds m1 vs H1 L2 e1 s2 i2 w1 => ?_) b.fst
  have b1 := b.snd e1
  cases er : zip2D ds with
  | none => rw [er] at b1; exact absurd rfl b1.2
  | some zs =>
    have hd : ∃ xs ys, ds = [.list xs, .list ys] ∧ zs = zip2L xs ys := by
      unfold zip2D at er
      split at er
      · cases er; exact ⟨_, _, rfl, rfl⟩
      · cases er
    obtain ⟨xs, ys, rfl, rfl⟩ := hd
    obtain ⟨v1, v2, rfl, hv1, hv2⟩ := i2.two
    have w1' := w1
    obtain ⟨B, wb⟩ := w1'
    obtain ⟨p1, us1, rfl, hl1, ha1⟩ := Dt.lst_inv (wb.ft _ hv1)
    obtain ⟨p2, us2, rfl, hl2, ha2⟩ := Dt.lst_inv (wb.ft _ hv2)
    refine ⟨p1, p2, us1, us2, rfl, hl1.sq, hl2.sq, q (zip2L xs ys) m1 _ H1 L2 ?_ s2 w1 ?_⟩
    · show bd Es _ m = _
      rw [bd_ok e1, er]; rfl
    · intro L3 C3 H3 s3 w3 i
      have w3' := w3
      obtain ⟨B3, wb3⟩ := w3'
      obtain ⟨p1', us1', e1', hl1', ha1'⟩ := Dt.lst_inv (wb3.ft _ (s3 _ hv1))
      obtain ⟨p2', us2', e2', hl2', ha2'⟩ := Dt.lst_inv (wb3.ft _ (s3 _ hv2))
      cases e1'
      cases e2'
      have el1 := ha1'.len
      have el2 := ha2'.len
      refine ⟨fun z hz => ?_, fun hi => ?_⟩
      · obtain ⟨x, y, hx, hy, rfl⟩ := zip2_get hz
        obtain ⟨a, ha, hda⟩ := ha1'.get hx
        obtain ⟨c, hc, hdc⟩ := ha2'.get hy
        refine ⟨⟨us1', us2', a, c, hl1'.sq, hl2'.sq, ha, hc⟩, fun u H' y => ?_⟩
        obtain ⟨T, a', c', rfl, hT, rfl, f1, f2⟩ := y
        have q1 := f1 _ hl1'.sq
        have q2 := f2 _ hl2'.sq
        rw [ha] at q1
        rw [hc] at q2
        cases q1
        cases q2
        exact Wb.tupD wb3 hT (.cons hda (.cons hdc .nil))
      · rw [zip2_len] at hi
        exact ⟨us1', us2', hl1'.sq, hl2'.sq, by omega⟩
/-! an own __init__: the text is made, the arguments are stored -/
def TxtP (t : TE) (σ : L2.St) (H : Hp) : Prop := ∀ Q : VK, (∀ y : Str, y.length ≤ 1921 → Q (.str y) H) → t σ H Q
inductive TxtAll (σ : L2.St) (H : Hp) : List TE → Prop
  | nil : TxtAll σ H []
  | cons {t : TE} {ts : List TE} (h : TxtP t σ H) (r : TxtAll σ H ts) : TxtAll σ H (t :: ts)
theorem txt_c {x : Str} (h : x.length ≤ 1921) : TxtP (tC (.str x)) σ H := fun Q q => q x h
theorem txt_f {n : Int} (hv : σ[i]? = some (some (.int n))) (hn : n.natAbs.log2 < 1900) : TxtP (tFmt (tVar i)) σ H := fun Q q => ⟨.int n, hv, .inr ⟨n, rfl, by omega, q _ (PyProof.Rows.int_text_len_1921 (by omega))⟩⟩
theorem tjs_ok {ts : List TE} (h : TxtAll σ H ts) : ∀ (acc : Str) (Q : Str → Hp → Prop), acc.length + 1921 * ts.length ≤ 1000000 → (∀ out, Q out H) → tJs ts acc σ H Q := by
  induction h with
  | nil => intro acc Q _ q; exact q acc
  | @cons t ts h r ih =>
    intro acc Q hl q
    rw [List.length_cons] at hl
    refine h _ fun y hy => ⟨y, rfl, ?_, ih (acc ++ y) Q ?_ q⟩
    · refine Nat.le_trans ?_ (show 1000000 ≤ sizeLine by decide)
      rw [show (acc ++ y).length = acc.length + y.length from Array.size_append ..]
      omega
    · rw [show (acc ++ y).length = acc.length + y.length from Array.size_append ..]
      omega
theorem xinit1 {N : List Str} {ts : List TE} {Cc a : Addr} {f : Str} {flds : List Str} {n0 : Int} {Q : VK} (T : OexC K Cc) (hf : PySem.W.findIn K (.ref Cc) f = some none) (ea : H a = some (exo a Cc none)) (ht : TxtAll (start N [.ref a, .int n0]) H ts) (hfl : flds = [f] ∧ ts.length ≤ 8)
    (q : ∀ dx H', H dx = none → dx ≠ a → H' a = some (exo a Cc (some dx)) → H' dx = some (exd dx ((flds.zip ([n0].map V.int)).reverse)) → (∀ p, p ≠ a → p ≠ dx → H' p = H p) → Q .non H') :
    (tSeq (tDrop (tVeI K (tCons (tVar 0) (tCons (fun σ H Q => tJs ts Str.empty σ H fun out H1 => Q (.str out) H1) tNil)))) (tSeq (tOst K f (tVar 0) (tVar 1)) tNext)) { nx := fun _ H' => Q .non H', rt := Q } (start N [.ref a, .int n0]) H := by
  obtain ⟨rfl, hl⟩ := hfl
  refine ⟨.ref a, rfl, tjs_ok ht Str.empty _ (by rw [show Str.empty.length = 0 from rfl]; omega) fun out => ⟨a, Cc, [.str out], rfl, by simp, T, ea, ?_⟩⟩
  refine ⟨.int n0, rfl, .ref a, rfl, a, Cc, rfl, T, hf, .inl ⟨ea, fun dx hdx hne => ?_⟩⟩
  refine q dx _ hdx hne upd_same ?_ fun p h1 h2 => ?_
  · rw [upd_ne hne]; exact upd_same
  · rw [upd_ne h1, upd_ne h2]
theorem xinit2 {N : List Str} {ts : List TE} {Cc a : Addr} {f g : Str} {flds : List Str} {n0 n1 : Int} {Q : VK} (T : OexC K Cc) (hf : PySem.W.findIn K (.ref Cc) f = some none) (hg : PySem.W.findIn K (.ref Cc) g = some none) (ea : H a = some (exo a Cc none)) (ht : TxtAll (start N [.ref a, .int n0, .int n1]) H ts) (hfl : flds = [f, g] ∧ ts.length ≤ 8)
    (q : ∀ dx H', H dx = none → dx ≠ a → H' a = some (exo a Cc (some dx)) → H' dx = some (exd dx ((flds.zip ([n0, n1].map V.int)).reverse)) → (∀ p, p ≠ a → p ≠ dx → H' p = H p) → Q .non H') :
    (tSeq (tDrop (tVeI K (tCons (tVar 0) (tCons (fun σ H Q => tJs ts Str.empty σ H fun out H1 => Q (.str out) H1) tNil)))) (tSeq (tOst K f (tVar 0) (tVar 1)) (tSeq (tOst K g (tVar 0) (tVar 2)) tNext))) { nx := fun _ H' => Q .non H', rt := Q } (start N [.ref a, .int n0, .int n1]) H := by
  obtain ⟨rfl, hl⟩ := hfl
  refine ⟨.ref a, rfl, tjs_ok ht Str.empty _ (by rw [show Str.empty.length = 0 from rfl]; omega) fun out => ⟨a, Cc, [.str out], rfl, by simp, T, ea, ?_⟩⟩
  refine ⟨.int n0, rfl, .ref a, rfl, a, Cc, rfl, T, hf, .inl ⟨ea, fun dx hdx hne => ?_⟩⟩
  refine ⟨.int n1, rfl, .ref a, rfl, a, Cc, rfl, T, hg, .inr ⟨dx, [(f, .int n0)], upd_same, by rw [upd_ne hne]; exact upd_same, by simp, ?_⟩⟩
  refine q dx _ hdx hne ?_ upd_same fun p h1 h2 => ?_
  · rw [upd_ne (Ne.symm hne)]; exact upd_same
  · rw [upd_ne h2, upd_ne h1, upd_ne h2]
end
theorem roomH_mk {j k : Nat} {A : Around} {h : Option Value} (r : Room k A) (hj : j ≤ k) : L2H.RoomH j (A.mark h) := L2H.RoomH.mono (⟨r.dp, r.un⟩ : L2H.RoomH k (A.mark h)) hj
/-- isinstance's answer for own classes -/
theorem kit_ref {K : PySem.W.Frag} {C T : Addr} {b : Bool} (hd : PySem.W.hasDictIn K T = true) (ht : PySem.W.typeIn K (.ref T) = some (.type "type")) (hs : PySem.W.subIn K (.ref C) (.ref C) = some true) (h : PySem.W.subIn K (.ref C) (.ref T) = some b) : PySem.W.kitOne K (.ref C) (.ref T) = some b := by
  unfold PySem.W.kitOne
  by_cases e : C = T
  · subst e
    rw [if_pos (beq_self_eq_true _), ← hs, h]
  · rw [if_neg (by simpa using e)]
    obtain ⟨cd, hc, _⟩ := PySem.W.any_some hd
    have e2 : ((PySem.W.clsIn K T).isSome && PySem.W.typeIn K (.ref T) == some (.type "type")) = true := by rw [hc, ht] <;> rfl
    show (if ((PySem.W.clsIn K T).isSome && PySem.W.typeIn K (.ref T) == some (.type "type")) = true then PySem.W.subIn K (.ref C) (.ref T) else none) = some b
    rw [if_pos e2]
    exact h
theorem kit_VE {K : PySem.W.Frag} {C : Addr} (h : PySem.W.subIn K (.ref C) (.type "ValueError") = some true) : PySem.W.kitOne K (.ref C) (.type "ValueError") = some true := by
  unfold PySem.W.kitOne
  rw [if_neg (show ¬ ((Value.ref C == Value.type "ValueError") = true) from Bool.false_ne_true)]
  show (if PySem.W.kitMeta "ValueError" = true then PySem.W.subIn K (.ref C) (.type "ValueError") else none) = some true
  rw [if_pos (by decide +kernel)]
  exact h
/-! ### objects: what raises -/
/-- what makes an object, or refuses to -/
def SpIX (K : PySem.W.Frag) (XR : D → Value → Option Addr → Root) (C : Addr) (ns : List Str) (nl : Nat) (kf : List Addr → List (Option Addr)) (n : Nat) (mf : List D → SM D D) : Sp := fun vs H Q E => vs.length = n + 1 ∧ ∃ (B : Addr → Prop) (a dx : Addr) (us : List V) (ds : List D), vs = .ref a :: us ∧ H a = some (.ins C dx []) ∧ (∀ p, B p → ∃ o, H p = some o) ∧ ¬ B a ∧ DtAll K B H us ds ∧ mf ds (.tuple []) ≠ .bad ∧
  (∀ m' H' (B' : Addr → Prop) (ls : List Addr), mf ds (.tuple []) = .ok .none m' → ls.length = nl → (∀ p o, p ≠ a → H p = some o → H' p = some o) → (∀ p, B p → B' p) → (∀ p, B' p → B p ∨ (H p = none ∧ ∃ o, H' p = some o)) → (∀ p ∈ a :: ownA (kf ls), p = a ∨ H p = none) → (a :: ownA (kf ls)).Nodup → (∀ p ∈ a :: ownA (kf ls), ¬ B' p) → (rootO K C ns (kf ls) a m').P B' H' → Q .non H') ∧
  (∀ e m' cls d H' B', mf ds (.tuple []) = .exc e m' → (∀ p o, p ≠ a → H p = some o → H' p = some o) → (∀ p, B p → B' p) → (∀ p, B' p → B p ∨ (H p = none ∧ ∃ o, H' p = some o)) → (XR e cls d).P B' H' → (∀ p ∈ (XR e cls d).fp H', (p = a ∨ H p = none) ∧ ¬ B' p) → ((XR e cls d).fp H').Nodup → E cls d H')
/-- a method that may raise -/
def SpMX (K : PySem.W.Frag) (XR : D → Value → Option Addr → Root) (C : Addr) (ns : List Str) (nl : Nat) (kf : List Addr → List (Option Addr)) (n : Nat) (mf : List D → SM D D) : Sp := fun vs H Q E => vs.length = n + 1 ∧ ∃ (B : Addr → Prop) (a : Addr) (us : List V) (ds : List D) (m : D) (ls : List Addr), vs = .ref a :: us ∧ (∀ p, B p → ∃ o, H p = some o) ∧ ls.length = nl ∧ (∀ p ∈ a :: ownA (kf ls), ¬ B p) ∧ (a :: ownA (kf ls)).Nodup ∧ DtAll K B H us ds ∧ (rootO K C ns (kf ls) a m).P B H ∧ mf ds m ≠ .bad ∧
  (∀ x m' v H' (B' : Addr → Prop), mf ds m = .ok x m' → (∀ p o, p ∉ a :: ownA (kf ls) → H p = some o → H' p = some o) → (∀ p, B p → B' p) → (∀ p, B' p → B p ∨ (H p = none ∧ ∃ o, H' p = some o)) → (∀ p ∈ a :: ownA (kf ls), ¬ B' p) → Dt K B' H' v x → (rootO K C ns (kf ls) a m').P B' H' → Q v H') ∧
  (∀ e m' cls d H' (B' : Addr → Prop), mf ds m = .exc e m' → (∀ p o, p ∉ a :: ownA (kf ls) → H p = some o → H' p = some o) → (∀ p, B p → B' p) → (∀ p, B' p → B p ∨ (H p = none ∧ ∃ o, H' p = some o)) → (∀ p ∈ a :: ownA (kf ls), ¬ B' p) → (XR e cls d).P B' H' → (∀ p ∈ (XR e cls d).fp H', H p = none ∧ ¬ B' p) → ((XR e cls d).fp H').Nodup → (rootO K C ns (kf ls) a m').P B' H' → E cls d H')
namespace SM
def mkX2 {μ : Type} (x : SM D D) : SM μ D := fun m => match x (.tuple []) with
  | .ok .none d => .ok d m
  | .exc e _ => .exc e m
  | _ => .bad
theorem mkX2_ok {μ : Type} {x : SM D D} {d : D} {m : μ} (h : x (.tuple []) = .ok .none d) : mkX2 x m = .ok d m := by unfold mkX2; rw [h]
theorem mkX2_exc {μ : Type} {x : SM D D} {e d : D} {m : μ} (h : x (.tuple []) = .exc e d) : mkX2 x m = .exc e m := by unfold mkX2; rw [h]
theorem mkX2_bad {μ : Type} {x : SM D D} {m : μ} (h : x (.tuple []) = .bad) : mkX2 x m = .bad := by unfold mkX2; rw [h]
/-- a thing done to an object that stands beside the state; what is raised goes on -/
def focX {μ τ : Type} (R : SM D (Fl τ Empty)) (d : D) : SM μ (τ × D) := fun m => match R d with
  | .ok (.nx s) d' => .ok (s, d') m
  | .exc e _ => .exc e m
  | _ => .bad
def focX2 {μ τ τ' ρ : Type} (R : SM D (Fl τ' Empty)) (d : D) (k : τ' → D → SM μ (Fl τ ρ)) : SM μ (Fl τ ρ) := bd (focX R d) fun q => k q.1 q.2
end SM
section
open SM
variable {X : Cx} {μ τ τ' ρ : Type} {G : Gx} {σ : St} {L : List (V × D)} {te ta tb tc : TE} {tt tu : TT} {t u : TS} {i j : Nat} {v : V} {x d : D} {a Ca l : Addr} {ns : List Str} {nm : Str} {nl : Nat} {kf : List Addr → List (Option Addr)} {ls : List Addr}
/-- x = C(..), C may refuse -/
theorem sv_makeX {ta : TA} {C Cp : μ → List Root} {Es : SM μ (List D)} {mf : List D → SM D D} {n : Nat} {k : D → SM μ (Fl τ ρ)} {Jn : Shp μ τ} {Jl : Shp μ ρ} {σ' : V → St} {C' : Addr → List Addr → D → μ → List Root} (hc : Sub Cp C) (hn : ∀ ds m, mf ds m ≠ .bad → ds.length = n) (h : AV G ta σ L C Es) (hσ : ∀ v, σ.set i (some v) = σ' v) (hC : ∀ p ls d m, (rootO G.K Ca ns (kf ls) p d :: C m).Perm (C' p ls d m))
    (hk : ∀ p ls d, ls.length = nl → p ∉ G.O.fp → SV G Cp u (σ' (.ref p)) L (C' p ls d) (k d) Jn Jl) : SV G Cp (tSeq (tAsg (tMake Ca (SpIX G.K G.XR Ca ns nl kf n mf) [] G.Xk ta) (gName i)) u) σ L C (bd (bd Es fun xs => mkX2 (mf xs)) k) Jn Jl := by
  refine sv_bd hc fun m F L' H e s w q b => ?_
  refine h m F L' H _ s w (fun xs m1 vs H1 L2 e1 s2 i2 w1 p dx hp hdx hne => ?_) b.fst
  have b1 := b.snd e1
  have hb := b1.2
  have nb : mf xs (.tuple []) ≠ .bad := fun z => hb (mkX2_bad z)
  rw [List.append_nil]
  obtain ⟨B, wb⟩ := w1
  have sm0 : Same H1 (upd (upd H1 dx (.own p)) p (.ins Ca dx [])) := fun b u q => by
    rw [upd_ne (ne_of_none q hp), upd_ne (ne_of_none q hdx)]; exact q
  have nbp : ¬ B p := fun z => by
    obtain ⟨o, ho⟩ := wb.bo p z
    rw [hp] at ho; cases ho
  have free : ∀ {q : Addr}, (upd (upd H1 dx (.own p)) p (.ins Ca dx [])) q = none → H1 q = none := fun {q} hq => by
    cases z : H1 q with
    | none => rfl
    | some o => rw [sm0 q o z] at hq; cases hq
  refine ⟨by rw [List.length_cons, i2.len, hn xs _ nb], B, p, dx, vs, xs, rfl, upd_same, fun q b => ?_, nbp, Dt.monoAll (fun q o b e => ⟨b, sm0 q o e⟩) _ _ (i2.dt wb.ft), nb, fun d H' B' ls ed hls hk2 h1 h2 hfr hfn hfb hr => ⟨rfl, ?_⟩, fun e2 m2 cls dd H' B' ex hk2 h1 h2 xr xf xn => ?_⟩
  · obtain ⟨o, ho⟩ := wb.bo q b
    exact ⟨o, sm0 q o ho⟩
  · show u e (σ.set i (some (.ref p))) H'
    rw [hσ]
    have sm : Same H1 H' := fun b u q => hk2 b u (ne_of_none q hp) (sm0 b u q)
    have h2' : ∀ q, B' q → B q ∨ (H1 q = none ∧ ∃ o, H' q = some o) := fun q b => (h2 q b).imp id fun z => ⟨free z.1, z.2⟩
    have wg := wb.grow sm h1 h2'
    have hfn1 : ∀ q ∈ p :: ownA (kf ls), H1 q = none := fun q hq => by
      rcases hfr q hq with z | z
      · rw [z]; exact hp
      · exact free z
    have w2 : Wb G.K G.O B' L2 (rootO G.K Ca ns (kf ls) p d :: (C m1 ++ F)) H' := by
      refine ⟨wg.lo, wg.hi, ?_, fun q hq => ?_, fun q hq => ?_, fun c hc => ?_, wg.ft, wg.kp, wg.oc, wg.bo⟩
      · rw [fps_cons]
        refine List.nodup_append.mpr ⟨hfn, wg.nd, fun a ha b hb z => ?_⟩
        subst z
        exact wb.free (hfn1 a ha) (by rw [← wb.same sm]; exact hb)
      · rw [fps_cons] at hq
        rcases List.mem_append.mp hq with z | z
        · exact hfb q z
        · exact wg.nb q z
      · rw [fps_cons] at hq
        rcases List.mem_append.mp hq with z | z
        · exact .inr (wb.none (hfn1 q z))
        · exact wg.fr q z
      · rcases List.mem_cons.mp hc with z | z
        · subst z; exact hr
        · exact wg.rt c z
    have w3 : Wd G.K G.O L2 (C' p ls d m1 ++ F) H' := Wd.perm (C := rootO G.K Ca ns (kf ls) p d :: (C m1 ++ F)) ⟨B', w2⟩ ((hC p ls d m1).append_right F)
    refine q d m1 (σ' (.ref p)) [] (C' p ls d) H' ?_ (w3.sub fun f hf => s2 f hf) (hk p ls d hls (wb.nofp hp))
    rw [bd_ok e1]
    exact mkX2_ok ed
  · have sm : Same H1 H' := fun b u q => hk2 b u (ne_of_none q hp) (sm0 b u q)
    have h2' : ∀ q, B' q → B q ∨ (H1 q = none ∧ ∃ o, H' q = some o) := fun q b => (h2 q b).imp id fun z => ⟨free z.1, z.2⟩
    have wg := wb.grow sm h1 h2'
    have nq : ∀ q ∈ (G.XR e2 cls dd).fp H', H1 q = none := fun q hq => (xf q hq).1.elim (fun z => by rw [z]; exact hp) free
    refine b.1 e2 m1 cls dd H' ?_ ⟨B', (wg.addR xr (fun q hq => ⟨wb.none (nq q hq), (xf q hq).2, by rw [wb.same sm]; exact wb.free (nq q hq)⟩) xn).fts fun f hf => wg.ft f (s2 f hf)⟩
    rw [bd_ok e1]
    exact mkX2_exc ex
/-- the body of what makes an object, or refuses -/
theorem body_IX {K : PySem.W.Frag} {XR : D → Value → Option Addr → Root} {n : Nat} {mf : List D → SM D D} {ts : TS} {N : List Str} {H : Hp} {vs : List V} {Q : VK} {E : XK} (hsp : SpIX K XR Ca ns nl kf n mf vs H Q E)
    (h : ∀ (a : Addr) (us : List V) (ds : List D) (O : Og), vs = .ref a :: us → us.length = ds.length → O.fp = [a] → ∃ (R : SM D (Fl Unit Empty)), mf ds = fin R ∧ SV ⟨K, O, E, XR, fun _ _ _ _ => False⟩ (fun _ => []) ts (start N vs) (us.zip ds) (fun m => [rootO K Ca ns [] a m]) R (fun _ _ _ C2 => ∃ ls : List Addr, ls.length = nl ∧ C2 = fun m => [rootO K Ca ns (kf ls) a m]) (fun z _ _ _ => z.elim)) : ts { nx := fun _ H' => Q .non H', rt := Q } (start N vs) H := by
  obtain ⟨_, B, a, dx, us, ds, rfl, ha, hb, hnB, hd, nb, q, qx⟩ := hsp
  obtain ⟨R, hR, hS⟩ := h a us ds ⟨B, H, [a]⟩ rfl hd.len rfl
  have hr : (rootO K Ca ns [] a (.tuple [])).P B H := ⟨dx, [], [], rfl, by rw [List.zip_nil_right]; exact ha, .nil⟩
  have w0 : Wd K ⟨B, H, [a]⟩ (us.zip ds) ([rootO K Ca ns [] a (.tuple [])] ++ []) H := by
    have ef : fps ([rootO K Ca ns [] a (.tuple [])] ++ []) H = [a] := rfl
    refine ⟨B, fun p b => b, fun p b => .inl b, by rw [ef]; simp, fun p hp => ?_, fun p hp => .inl (by rw [← ef]; exact hp), fun c hc => ?_, zip_dt hd, fun p o _ e => e, fun p hp => ?_, hb⟩
    · rw [ef] at hp; rw [List.mem_singleton.mp hp]; exact hnB
    · have : c = rootO K Ca ns [] a (.tuple []) := by simpa using hc
      subst this; exact hr
    · rw [List.mem_singleton.mp hp]; exact ⟨_, ha⟩
  refine hS (.tuple []) [] (us.zip ds) H _ (fun f hf => hf) w0 ?_ ?_ ?_ ?_ ?_
  · intro s m2 σ' L2 C2 H' e hC2 w
    obtain ⟨ls, hls, rfl⟩ := hC2
    have e2 : mf ds (.tuple []) = .ok .none m2 := by rw [hR]; exact bd_ok e
    obtain ⟨B', wb⟩ := w
    obtain ⟨f1, f2⟩ := Wb.firstR (Z := []) wb
    refine q m2 H' B' ls e2 hls (fun p o hp e => wb.kp p o (by intro z; exact hp (List.mem_singleton.mp z)) e) wb.lo (fun p b => ?_) (fun p hp => ?_) f2 f1 (wb.rt _ (.head _))
    · rcases wb.hi p b with z | z
      · exact .inl z
      · exact .inr ⟨z, wb.bo p b⟩
    · rcases wb.fr p (by rw [List.append_nil, fps_cons]; exact List.mem_append.mpr (.inl hp)) with z | z
      · exact .inl (List.mem_singleton.mp z)
      · exact .inr z
  · intro s; exact s.elim
  · intro s; exact s.elim
  · intro x m2 v H' L1 C1 e z
    exact z.elim
  · refine ⟨fun e m' cls d H' z w => ?_, fun z => ?_⟩
    · have e2 : mf ds (.tuple []) = .exc e m' := by rw [hR]; exact bd_exc z
      obtain ⟨B', wb⟩ := w
      obtain ⟨f1, f2⟩ := Wb.firstR (Z := []) wb
      have hm : ∀ p ∈ (XR e cls d).fp H', p ∈ fps (XR e cls d :: ([] ++ [])) H' := fun p hp => by rw [fps_cons]; exact List.mem_append.mpr (.inl hp)
      refine qx e m' cls d H' B' e2 (fun p o hp e => wb.kp p o (by intro z; exact hp (List.mem_singleton.mp z)) e) wb.lo (fun p b => ?_) (wb.rt _ (.head _)) (fun p hp => ⟨?_, f1 p hp⟩) f2
      · rcases wb.hi p b with z | z
        · exact .inl z
        · exact .inr ⟨z, wb.bo p b⟩
      · rcases wb.fr p (hm p hp) with z | z
        · exact .inl (List.mem_singleton.mp z)
        · exact .inr z
    · have e2 : mf ds (.tuple []) = .bad := by rw [hR]; exact bd_bad z
      exact nb e2
/-- o.m(..), o the object that is the state; it may raise -/
theorem ev_cMX {ta : TA} {Z : List Root} {Es : SM D (List D)} {mf : List D → SM D D} {n : Nat} {m0 : Str} (hσ : σ[i]? = some (some (.ref a))) (hm : m0 ∉ ns) (hls : ls.length = nl) (hn : ∀ ds m, mf ds m ≠ .bad → ds.length = n) (h : AV G ta σ L (fun m => rootO G.K Ca ns (kf ls) a m :: Z) Es) :
    EV G (tMeth Ca m0 (SpMX G.K G.XR Ca ns nl kf n mf) [] G.Xk (tVar i) ta) σ L (fun m => rootO G.K Ca ns (kf ls) a m :: Z) (cDX mf Es) := by
  intro m F L' H Q s w q b
  obtain ⟨B0, wb0⟩ := id w
  obtain ⟨dx0, ds0, vs0, rfl, h10, h20⟩ := wb0.rt _ (.head _)
  refine ⟨.ref a, hσ, a, dx0, _, rfl, h10, zip_nolook hm, h _ F L' H _ s w (fun xs m1 vs H1 L2 e1 s2 i2 w1 => ?_) b.fst⟩
  have b1 := b.snd e1
  have er : cDX mf Es (.tuple ds0) = mf xs m1 := bd_ok e1
  show SpMX G.K G.XR Ca ns nl kf n mf (.ref a :: (vs ++ [])) H1 Q G.Xk
  rw [List.append_nil]
  obtain ⟨B, wb⟩ := w1
  obtain ⟨f1, f2⟩ := Wb.firstR (Z := Z ++ F) wb
  refine ⟨by rw [List.length_cons, i2.len, hn xs m1 b1.2], B, a, vs, xs, m1, ls, rfl, wb.bo, hls, f1, f2, i2.dt wb.ft, wb.rt _ (.head _), b1.2, fun x m' v H' B' ex hk h1 h2 hb hd hr => ?_, fun e m' cls d H' B' ex hk h1 h2 hb xr xf xn hr => ?_⟩
  · have w2 := Wb.chgG (Z := Z ++ F) wb (r' := rootO G.K Ca ns (kf ls) a m') (fun p hp => .inl hp) ((rootO G.K Ca ns (kf ls) a m').occ hr) f2 hb hk h1 h2 hr
    refine q x m' v H' (er.trans ex) ⟨B', (w2.fact hd).fts fun f hf => ?_⟩
    rcases List.mem_cons.mp hf with e | e
    · subst e; exact hd
    · exact w2.ft f (s2 f e)
  · have w2 := Wb.chgG (Z := Z ++ F) wb (r' := rootO G.K Ca ns (kf ls) a m') (fun p hp => .inl hp) ((rootO G.K Ca ns (kf ls) a m').occ hr) f2 hb hk h1 h2 hr
    refine b.1 e m' cls d H' (er.trans ex) ⟨B', (w2.addR xr (fun p hp => ⟨wb.none (xf p hp).1, (xf p hp).2, ?_⟩) xn).fts fun f hf => w2.ft f (s2 f hf)⟩
    intro z
    rw [fps_cons] at z
    rcases List.mem_append.mp z with y | y
    · obtain ⟨o, ho⟩ := (rootO G.K Ca ns (kf ls) a m1).occ (wb.rt _ (.head _)) p y
      rw [(xf p hp).1] at ho; cases ho
    · exact Wb.free_rest (Z := Z ++ F) wb hk h1 (xf p hp).1 y
/-- f(o, ..), o the object that is the state -/
theorem ev_cO {ta : TA} {Z : List Root} {Es : SM D (List D)} {mf : List D → SM D D} {n : Nat} (hσ : σ[i]? = some (some (.ref a))) (hls : ls.length = nl) (hn : ∀ ds m, mf ds m ≠ .bad → ds.length = n) (h : AV G ta σ L (fun m => rootO G.K Ca ns (kf ls) a m :: Z) Es) :
    EV G (tCall (SpM G.K Ca ns nl kf n mf) [] E0 (tCons (tVar i) ta)) σ L (fun m => rootO G.K Ca ns (kf ls) a m :: Z) (cD mf Es) := by
  intro m F L' H Q s w q b
  refine ⟨.ref a, hσ, h m F L' H _ s w (fun xs m1 vs H1 L2 e1 s2 i2 w1 => ?_) b.fst⟩
  have b1 := b.snd e1
  have er : cD mf Es m = qx (mf xs) m1 := bd_ok e1
  obtain ⟨x, m', ex⟩ := qx_nb b1.2
  show SpM G.K Ca ns nl kf n mf ((.ref a :: vs) ++ []) H1 Q E0
  rw [List.append_nil]
  obtain ⟨B, wb⟩ := w1
  obtain ⟨f1, f2⟩ := Wb.firstR (Z := Z ++ F) wb
  refine ⟨by rw [List.length_cons, i2.len, hn xs m1 (by rw [ex]; intro z; cases z)], B, a, vs, xs, m1, x, m', ls, rfl, wb.bo, hls, f1, f2, i2.dt wb.ft, wb.rt _ (.head _), ex, fun v H' B' hk h1 h2 hb hd hr => ?_⟩
  have w2 := Wb.chgG (Z := Z ++ F) wb (r' := rootO G.K Ca ns (kf ls) a m') (fun p hp => .inl hp) ((rootO G.K Ca ns (kf ls) a m').occ hr) f2 hb hk h1 h2 hr
  refine q x m' v H' (er.trans (qx_ok ex)) ⟨B', (w2.fact hd).fts fun f hf => ?_⟩
  rcases List.mem_cons.mp hf with e | e
  · subst e; exact hd
  · exact w2.ft f (s2 f e)
/-- the body of a method that may raise -/
theorem body_MX {K : PySem.W.Frag} {XR : D → Value → Option Addr → Root} {n : Nat} {mf : List D → SM D D} {ts : TS} {N : List Str} {H : Hp} {vs : List V} {Q : VK} {E : XK} (hsp : SpMX K XR Ca ns nl kf n mf vs H Q E)
    (h : ∀ (a : Addr) (us : List V) (ds : List D) (ls : List Addr) (O : Og), vs = .ref a :: us → us.length = ds.length → ls.length = nl → ∃ (R : SM D (Fl Unit Empty)), mf ds = fin R ∧ SV ⟨K, O, E, XR, rfF⟩ (fun m => [rootO K Ca ns (kf ls) a m]) ts (start N vs) (us.zip ds) (fun m => [rootO K Ca ns (kf ls) a m]) R (fun _ _ _ C2 => C2 = fun m => [rootO K Ca ns (kf ls) a m]) (fun z _ _ _ => z.elim)) : ts { nx := fun _ H' => Q .non H', rt := Q } (start N vs) H := by
  obtain ⟨_, B, a, us, ds, m, ls, rfl, hb, hls, hnB, hnd, hd, hr, nb, q, qx⟩ := hsp
  obtain ⟨R, hR, hS⟩ := h a us ds ls ⟨B, H, a :: ownA (kf ls)⟩ rfl hd.len hls
  have w0 : Wd K ⟨B, H, a :: ownA (kf ls)⟩ (us.zip ds) ([rootO K Ca ns (kf ls) a m] ++ []) H := by
    have ef : fps ([rootO K Ca ns (kf ls) a m] ++ []) H = a :: ownA (kf ls) := by
      rw [List.append_nil, fps_cons]
      show (a :: ownA (kf ls)) ++ [] = _
      rw [List.append_nil]
    refine ⟨B, fun p b => b, fun p b => .inl b, by rw [ef]; exact hnd, fun p hp => hnB p (by rw [← ef]; exact hp), fun p hp => .inl (by rw [← ef]; exact hp), fun c hc => ?_, zip_dt hd, fun p o _ e => e, (rootO K Ca ns (kf ls) a m).occ hr, hb⟩
    have : c = rootO K Ca ns (kf ls) a m := by simpa using hc
    subst this; exact hr
  have fin2 : ∀ {m2 : D} {x2 : D} {v : V} {H' : Hp}, fin R m = .ok x2 m2 → Wd K ⟨B, H, a :: ownA (kf ls)⟩ [(v, x2)] ([rootO K Ca ns (kf ls) a m2] ++ []) H' → Q v H' := fun {m2 x2 v H'} e w => by
    obtain ⟨B', wb⟩ := w
    refine q x2 m2 v H' B' (by rw [hR]; exact e) (fun p o hp e => wb.kp p o hp e) wb.lo (fun p b => ?_) (fun p hp => wb.nb p ?_) (wb.ft _ (.head _)) (wb.rt _ (.head _))
    · rcases wb.hi p b with z | z
      · exact .inl z
      · exact .inr ⟨z, wb.bo p b⟩
    · rw [List.append_nil, fps_cons]
      exact List.mem_append.mpr (.inl hp)
  refine hS m [] (us.zip ds) H _ (fun f hf => hf) w0 ?_ ?_ ?_ ?_ ?_
  · intro s m2 σ' L2 C2 H' e hC2 w
    rw [show C2 = fun m => [rootO K Ca ns (kf ls) a m] from hC2] at w
    exact fin2 (x2 := .none) (bd_ok e) ((w.fact (v := .non) (d := .none) fun _ _ => .non).sub fun f hf => by
      rw [List.mem_singleton.mp hf]; exact .head _)
  · intro s; exact s.elim
  · intro s; exact s.elim
  · rintro x2 m2 v H' _ _ e ⟨rfl, rfl⟩ w
    exact fin2 (bd_ok e) (w.sub fun f hf => by rw [List.mem_singleton.mp hf]; exact .head _)
  · refine ⟨fun e m' cls d H' z w => ?_, fun z => ?_⟩
    · have e2 : mf ds m = .exc e m' := by rw [hR]; exact bd_exc z
      obtain ⟨B', wb⟩ := w
      obtain ⟨f1, f2⟩ := Wb.firstR (r := XR e cls d) wb
      have hnd2 := wb.nd
      rw [fps_cons] at hnd2
      have hdis := (List.nodup_append.mp hnd2).2.2
      have ha : ∀ p ∈ a :: ownA (kf ls), p ∈ fps ([rootO K Ca ns (kf ls) a m'] ++ []) H' := fun p hp => by
        rw [List.append_nil, fps_cons]
        exact List.mem_append.mpr (.inl hp)
      have hm : ∀ p ∈ (XR e cls d).fp H', p ∈ fps (XR e cls d :: ([rootO K Ca ns (kf ls) a m'] ++ [])) H' := fun p hp => by rw [fps_cons]; exact List.mem_append.mpr (.inl hp)
      refine qx e m' cls d H' B' e2 (fun p o hp e => wb.kp p o hp e) wb.lo (fun p b => ?_) (fun p hp => wb.nb p (by rw [fps_cons]; exact List.mem_append.mpr (.inr (ha p hp)))) (wb.rt _ (.head _)) (fun p hp => ⟨(wb.fr p (hm p hp)).resolve_left fun z => hdis p hp p (ha p z) rfl, f1 p hp⟩) f2 (wb.rt _ (.tail _ (.head _)))
      rcases wb.hi p b with z | z
      · exact .inl z
      · exact .inr ⟨z, wb.bo p b⟩
    · have e2 : mf ds m = .bad := by rw [hR]; exact bd_bad z
      exact nb e2
end
/-! ### comprehensions with two walks -/
namespace SM
variable {μ : Type}
def lcO (I1 : D → SM μ (List D)) (T : D → D → SM μ Bool) (E : D → D → SM μ D) : List D → List D → SM μ (List D)
  | [], acc => pu acc
  | x :: xs, acc => bd (I1 x) fun ys => bd (lcS (T x) (E x) ys acc) fun acc' => lcO I1 T E xs acc'
def lc2 (I : SM μ (List D)) (I1 : D → SM μ (List D)) (T : D → D → SM μ Bool) (E : D → D → SM μ D) : SM μ D := bd I fun xs => bd (lcO I1 T E xs []) fun ys => pu (.list ys)
end SM
section
open SM
variable {X : Cx} {μ τ τ' ρ : Type} {G : Gx} {σ : St} {L : List (V × D)} {C Cp : μ → List Root} {te ta tb tc : TE} {tt tu : TT} {t u : TS} {i j : Nat}
theorem bd_cong {α β : Type} {x y : SM μ α} {m m' : μ} (h : x m = y m') (k : α → SM μ β) : bd x k m = bd y k m' := by unfold bd; rw [h]
theorem ev_lcW {wi wi1 : TI} {I : SM μ (List D)} {I1 : D → SM μ (List D)} {T : D → D → SM μ Bool} {E : D → D → SM μ D} {vs vs1 : List Nat} {σ2 : V → St} {σ3 : V → V → St} (hi : IV G wi σ L C I) (hσ : ∀ v, (wipe σ vs).set i (some v) = σ2 v) (hw : ∀ v, wipe (σ2 v) vs = wipe σ vs)
    (hi1 : ∀ v x, IV G wi1 (σ2 v) ((v, x) :: L) C (I1 x)) (hσ1 : ∀ v u, (wipe (σ2 v) vs1).set j (some u) = σ3 v u) (hw1 : ∀ v u, wipe (σ3 v u) vs1 = wipe (σ2 v) vs1)
    (hT : ∀ v u x y, TV G tt (σ3 v u) ((u, y) :: (v, x) :: L) C (T x y)) (hE : ∀ v u x y, EV G te (σ3 v u) ((u, y) :: (v, x) :: L) C (E x y)) :
    EV G (tLc2 wi (gName i) tYes wi1 (gName j) tt te vs vs1) σ L C (lc2 I I1 T E) := by
  intro m F L' H Q s w q bk
  refine hi m F L' H _ s w (fun xs m1 It H1 L1 e1 s1 w1 hit => ?_) bk.fst
  have b1 := bk.snd e1
  have er : lc2 I I1 T E m = bd (lcO I1 T E xs []) (fun ys => pu (.list ys)) m1 := bd_ok e1
  intro A hA
  refine ⟨fun i n H' => n = xs.length - i ∧ i ≤ xs.length ∧ ∃ m' acc, lcO I1 T E xs [] m1 = lcO I1 T E (xs.drop i) acc m' ∧ Wd G.K G.O L1 (C m' ++ (rootL G.K A (.list acc) :: F)) H', ⟨xs.length, by simp, Nat.zero_le _, m1, [], rfl, w1.acc hA⟩, ?_⟩
  rintro i n H' ⟨rfl, hin, m', acc, ez, wz⟩
  have hI := hit _ _ _ (fun f hf => hf) wz i
  have hAO : A ∉ G.O.fp := by
    obtain ⟨B, wb⟩ := w1
    exact wb.nofp hA
  have toF : ∀ {α : Type} {acc : List D} {r : Rs μ α}, Bk G C F L' r → Bk G C (rootL G.K A (.list acc) :: F) L' r := fun {α acc r} b => ⟨fun e m' cls d H' q w => b.1 e m' cls d H' q (w.subC (((List.Sublist.refl _).append (List.sublist_cons_self _ _)).cons₂ _)), b.2⟩
  by_cases hlt : i < xs.length
  · have hx : xs[i]? = some xs[i] := List.getElem?_eq_getElem hlt
    obtain ⟨go, hy⟩ := hI.1 _ hx
    rw [forS_step hx] at ez
    refine .inr ⟨go, fun H'' => ∃ m' acc, lcO I1 T E xs [] m1 = lcO I1 T E (xs.drop (i + 1)) acc m' ∧ Wd G.K G.O L1 (C m' ++ (rootL G.K A (.list acc) :: F)) H'', fun H'' hN => ⟨xs.length - (i + 1), by omega, rfl, hlt, hN⟩, fun v H2 y => ?_⟩
    have w2 := hy v H2 y
    have b2 : Bk G C F L' ((bd (I1 xs[i]) fun ys => bd (lcS (T xs[i]) (E xs[i]) ys acc) fun acc' => lcO I1 T E (xs.drop (i + 1)) acc') m') := by
      have := b1.fst
      rw [ez] at this
      exact this
    show wipe ((wipe σ vs).set _ (some v)) vs = wipe σ vs ∧ _
    rw [hσ]
    refine ⟨hw v, ?_⟩
    unfold tYes
    simp only [↓reduceIte]
    refine hi1 v xs[i] m' (rootL G.K A (.list acc) :: F) ((v, xs[i]) :: L1) H2 _ (fun f hf => ?_) w2 (fun ys m2 J1 H3 L2 e2 s2 w3 hit2 => ?_) ((toF b2.fst).mono fun f hf => .tail _ (s1 f hf))
    · rcases List.mem_cons.mp hf with e | e
      · rw [e]; exact .head _
      · exact .tail _ (s1 f (s f e))
    have b3 := b2.snd e2
    have ez2 : lcO I1 T E xs [] m1 = bd (lcS (T xs[i]) (E xs[i]) ys acc) (fun acc' => lcO I1 T E (xs.drop (i + 1)) acc') m2 := ez.trans (bd_ok e2)
    have sb : ∀ {L3 : List (V × D)} {C3 : List Root} {H3 : Hp}, (∀ f ∈ L2, f ∈ L3) → Wd G.K G.O L3 C3 H3 → Wd G.K G.O L1 C3 H3 := fun {L3 C3 H3} h w => w.sub fun f hf => h f (s2 f (.tail _ hf))
    refine ⟨fun j n H' => n = ys.length - j ∧ j ≤ ys.length ∧ ∃ m' acc', lcO I1 T E xs [] m1 = bd (lcS (T xs[i]) (E xs[i]) (ys.drop j) acc') (fun acc' => lcO I1 T E (xs.drop (i + 1)) acc') m' ∧ Wd G.K G.O L2 (C m' ++ (rootL G.K A (.list acc') :: F)) H', ⟨ys.length, by simp, Nat.zero_le _, m2, acc, ez2, w3⟩, ?_⟩
    rintro j n H5 ⟨rfl, hjn, m5, acc5, ez5, w5⟩
    have hJ := hit2 _ _ _ (fun f hf => hf) w5 j
    by_cases hl2 : j < ys.length
    · have hx2 : ys[j]? = some ys[j] := List.getElem?_eq_getElem hl2
      obtain ⟨go2, hy2⟩ := hJ.1 _ hx2
      rw [forS_step hx2] at ez5
      refine .inr ⟨go2, fun H'' => ∃ m' acc', lcO I1 T E xs [] m1 = bd (lcS (T xs[i]) (E xs[i]) (ys.drop (j + 1)) acc') (fun acc' => lcO I1 T E (xs.drop (i + 1)) acc') m' ∧ Wd G.K G.O L2 (C m' ++ (rootL G.K A (.list acc') :: F)) H'', fun H'' hN => ⟨ys.length - (j + 1), by omega, rfl, hl2, hN⟩, fun z H6 y2 => ?_⟩
      have w6 := hy2 z H6 y2
      show wipe ((wipe (σ2 v) vs1).set _ (some z)) vs1 = wipe (σ2 v) vs1 ∧ _
      rw [hσ1]
      refine ⟨hw1 v z, ?_⟩
      have b5 : Bk G C F L' (bd (lcS (T xs[i]) (E xs[i]) (ys[j] :: ys.drop (j + 1)) acc5) (fun acc' => lcO I1 T E (xs.drop (i + 1)) acc') m5) := by
        have := b1.fst
        rw [ez5] at this
        exact this
      have b6 : Bk G C F L' (T xs[i] ys[j] m5) := (show Bk G C F L' (bd (T xs[i] ys[j]) _ m5) from b5.fst).fst
      have sub6 : ∀ f ∈ (z, ys[j]) :: (v, xs[i]) :: L, f ∈ (z, ys[j]) :: L2 := fun f hf => by
        rcases List.mem_cons.mp hf with e | hf
        · rw [e]; exact .head _
        · rcases List.mem_cons.mp hf with e | hf
          · rw [e]; exact .tail _ (s2 _ (.head _))
          · exact .tail _ (s2 _ (.tail _ (s1 f (s f hf))))
      have subL : ∀ f ∈ L', f ∈ (z, ys[j]) :: L2 := fun f hf => .tail _ (s2 f (.tail _ (s1 f hf)))
      refine hT v z xs[i] ys[j] m5 (rootL G.K A (.list acc5) :: F) _ H6 _ sub6 w6 (fun c m7 H7 e7 w7 => ?_) ((toF b6).mono subL)
      have e8 : lcS (T xs[i]) (E xs[i]) (ys[j] :: ys.drop (j + 1)) acc5 m5 = (if c then bd (E xs[i] ys[j]) fun y => if acc5.length < sizeLine then lcS (T xs[i]) (E xs[i]) (ys.drop (j + 1)) (acc5 ++ [y]) else bad else lcS (T xs[i]) (E xs[i]) (ys.drop (j + 1)) acc5) m7 := bd_ok e7
      have e9 : ∀ {β : Type} (k : List D → SM μ β), bd (lcS (T xs[i]) (E xs[i]) (ys[j] :: ys.drop (j + 1)) acc5) k m5 = bd (if c then bd (E xs[i] ys[j]) fun y => if acc5.length < sizeLine then lcS (T xs[i]) (E xs[i]) (ys.drop (j + 1)) (acc5 ++ [y]) else bad else lcS (T xs[i]) (E xs[i]) (ys.drop (j + 1)) acc5) k m7 := fun k => by
        exact bd_cong e8 k
      cases c with
      | false =>
        rw [if_neg (by decide)]
        exact ⟨m7, acc5, ez5.trans (e9 _), w7.sub fun f hf => .tail _ hf⟩
      | true =>
        rw [if_pos rfl]
        have b7 : Bk G C F L' (bd (E xs[i] ys[j]) (fun y => if acc5.length < sizeLine then lcS (T xs[i]) (E xs[i]) (ys.drop (j + 1)) (acc5 ++ [y]) else bad) m7) := by
          rw [e9] at b5
          exact b5.fst
        refine hE v z xs[i] ys[j] m7 (rootL G.K A (.list acc5) :: F) _ H7 _ sub6 w7 (fun y m8 u H8 e10 w8 => ?_) ((toF b7.fst).mono subL)
        have b8 := b7.snd e10
        by_cases hz : acc5.length < sizeLine
        · have w9 := w8.perm List.perm_middle
          obtain ⟨B, wb⟩ := w9
          obtain ⟨ds, us, e6, hA4, hda⟩ := wb.rt _ (.head _)
          cases e6
          refine ⟨us, hA4, by rw [hda.len]; exact hz, m8, acc5 ++ [y], ez5.trans ((e9 _).trans ?_), ?_⟩
          · show bd (bd (E xs[i] ys[j]) _) _ m7 = _
            rw [bd_assoc, bd_ok e10, if_pos hz]
          · have w7 : Wd G.K G.O ((u, y) :: (z, ys[j]) :: L2) (rootL G.K A (.list (acc5 ++ [y])) :: (C m8 ++ F)) (upd H8 A (.lst (us ++ [u]))) :=
              Wd.put ⟨B, wb⟩ fun B' f hr => by
                obtain ⟨ds', us', e6, hA5, hda5⟩ := hr
                cases e6
                rw [hA4] at hA5
                cases hA5
                exact hda5.app (.cons (f _ (.head _)) .nil)
            exact (w7.perm List.perm_middle.symm).sub fun f hf => .tail _ (.tail _ hf)
        · rw [if_neg hz] at b8
          exact absurd rfl b8.2
    · have e : j = ys.length := by omega
      subst e
      rw [List.drop_length] at ez5
      exact .inl ⟨hJ.2 (Nat.le_refl _), m5, acc5, ez5, sb (fun f hf => hf) w5⟩
  · have e : i = xs.length := by omega
    subst e
    rw [List.drop_length] at ez
    refine .inl ⟨hI.2 (Nat.le_refl _), ?_⟩
    have w2 := (wz.perm List.perm_middle).freeze hAO
    refine q (.list acc) m' (.ref A) H' ?_ (w2.sub fun f hf => ?_)
    · rw [er]
      show bd (lcO I1 T E xs []) _ m1 = _
      rw [bd_ok (show lcO I1 T E xs [] m1 = .ok acc m' from ez)]; rfl
    · rcases List.mem_cons.mp hf with e | e
      · rw [e]; exact .head _
      · exact .tail _ (s1 f e)
end
/-! ### in, index, where items are data of any depth -/
namespace SM
def inDD (neg : Bool) (x y : D) : Option D := match y with
  | .list ds => if SeqAt.shaped x && SeqAt.shaped (.list ds) then some (.bool (if neg then !ds.any fun z => PyData.eqv z x else ds.any fun z => PyData.eqv z x)) else none
  | _ => none
def indexD : D → D → Option D
  | .list ds, d => if SeqAt.shaped (.list ds) && SeqAt.shaped d then match ds.findIdx? fun z => PyData.eqv z d with
    | some j => some (.int (j : Nat))
    | none => none
    else none
  | _, _ => none
def idx2 {μ : Type} (E1 E2 : SM μ D) : SM μ D := bd E1 fun x => match x with
  | .list ds => bd E2 fun y => of (indexD (.list ds) y)
  | _ => bad
end SM
section
open SM
variable {X : Cx} {μ τ τ' ρ : Type} {G : Gx} {σ : St} {L : List (V × D)} {C Cp : μ → List Root} {te ta tb tc : TE} {tt tu : TT} {t u : TS} {i j : Nat} {E1 E2 : SM μ D}
theorem units65 {k : Nat} {A : Around} (h : Room k A) : A.units + 65 < cLine := by have := h.un; omega
theorem os_inD : OpS G (rInD G.K) (inDD false) := by
  intro L C H x y d e z Q w hx hy hf q
  obtain ⟨B, wb⟩ := w
  have h1 := wb.ft _ hx
  have h2 := wb.ft _ hy
  cases e with
  | list ds =>
    unfold inDD at hf
    simp only at hf
    split at hf
    · next c =>
      rw [Bool.and_eq_true] at c
      cases hf
      exact ⟨d, ds, Dt.dp _ _ (SeqAt.canLay_of_shaped c.1) h1, Dt.dp _ _ (SeqAt.canLay_of_shaped c.2) h2, c.1, c.2, q _ _ ⟨B, wb.fact (.bl _)⟩⟩
    · cases hf
  | _ => cases hf
theorem os_notInD : OpS G (rNotInD G.K) (inDD true) := by
  intro L C H x y d e z Q w hx hy hf q
  obtain ⟨B, wb⟩ := w
  have h1 := wb.ft _ hx
  have h2 := wb.ft _ hy
  cases e with
  | list ds =>
    unfold inDD at hf
    simp only at hf
    split at hf
    · next c =>
      rw [Bool.and_eq_true] at c
      cases hf
      exact ⟨d, ds, Dt.dp _ _ (SeqAt.canLay_of_shaped c.1) h1, Dt.dp _ _ (SeqAt.canLay_of_shaped c.2) h2, c.1, c.2, q _ _ ⟨B, wb.fact (.bl _)⟩⟩
    · cases hf
  | _ => cases hf
theorem ev_index (h1 : EV G ta σ L C E1) (h2 : EV G tb σ L C E2) : EV G (tBM G.K "list" (rIndexD G.K) ta (tCons tb tNil)) σ L C (idx2 E1 E2) := by
  intro m F L' H Q s w q b
  refine h1 m F L' H _ s w (fun x m1 v H1 e1 w1 => ?_) b.fst
  have b1 := b.snd e1
  cases x with
  | list ds =>
    have b1' : Bk G C F L' (bd E2 (fun y => of (indexD (.list ds) y)) m1) := b1
    obtain ⟨B1, wb1⟩ := id w1
    obtain ⟨p, vs, rfl, hl, ha⟩ := Dt.lst_inv (wb1.ft _ (.head _))
    refine ⟨.inl ⟨rfl, vs, hl.sq⟩, h2 m1 F ((.ref p, .list ds) :: L') H1 _ (fun f hf => .tail _ (s f hf)) w1 (fun y m2 u H2 e2 w2 => ?_) (b1'.fst.mono fun f hf => .tail _ hf)⟩
    have b2 := b1'.snd e2
    obtain ⟨B2, wb2⟩ := id w2
    cases ei : indexD (.list ds) y with
    | none => rw [ei] at b2; exact absurd rfl b2.2
    | some z =>
      have ei2 := ei
      unfold indexD at ei2
      simp only at ei2
      split at ei2
      · next c =>
        rw [Bool.and_eq_true] at c
        cases ej : ds.findIdx? (fun z => PyData.eqv z y) with
        | none => rw [ej] at ei2; cases ei2
        | some j =>
          rw [ej] at ei2
          cases ei2
          obtain ⟨hj, hj2, hj3⟩ := List.findIdx?_eq_some_iff_getElem.mp ej
          refine ⟨p, u, y, ds, j, ds[j], rfl, rfl, Dt.dp _ _ (SeqAt.canLay_of_shaped c.1) (wb2.ft _ (.tail _ (.head _))), Dt.dp _ _ (SeqAt.canLay_of_shaped c.2) (wb2.ft _ (.head _)), c.1, c.2, List.getElem?_eq_getElem hj, hj2, fun m z' hm hz => ?_, ?_⟩
          · have := hj3 m hm
            obtain ⟨hm2, rfl⟩ := List.getElem?_eq_some_iff.mp hz
            simpa using this
          · refine q (.int (j : Nat)) m2 _ H2 ?_ ((w2.fact fun _ _ => .int (j : Nat)).sub fun f hf => ?_)
            · show bd E1 _ m = _
              rw [bd_ok e1]
              show bd E2 _ m1 = _
              rw [bd_ok e2, ei]; rfl
            · rcases List.mem_cons.mp hf with e | e
              · rw [e]; exact .head _
              · exact .tail _ (.tail _ (.tail _ e))
      · cases ei2
  | _ => exact absurd rfl b1.2
end
/-! ### trees of one's own, as parts of a state (S) -/
inductive Nk where
  | obj (C : Addr) (ns : List Str)
  | lst
  | rc (ks : List Str)
inductive Ty where
  | fr
  | pt (u : V)
  | op (t : Ty)
  | ls (t : Ty)
  | tp (ts : List Ty)
  | nd (k : Nk) (ts : List Ty)
  | dk
  | dt
  | al (t u : Ty)
/-- what stands at a node -/
def Nk.at (k : Nk) (o : HO) (vs : List V) : Prop := match k with
  | .obj C ns => ns.length = vs.length ∧ ∃ dx, o = .ins C dx (ns.zip vs)
  | .lst => o = .lst vs
  | .rc ks => ks.length = vs.length ∧ o = .dK ((ks.map Sum.inr).zip vs)
def ndD (k : Nk) (ds : List D) : D := match k with
  | .lst => .list ds
  | _ => .tuple ds
def kD : Key → D
  | .inl i => .int i
  | .inr x => .str x
/-- a tuple that was made here -/
def FzU (B : Addr → Prop) (H : Hp) (p : Addr) (xs : List V) : Prop := B p ∧ H p = some (.tup xs)
theorem FzU.fz {K : PySem.W.Frag} {B : Addr → Prop} {H : Hp} {p : Addr} {xs : List V} (h : FzU B H p xs) : FzT K B H p xs := .inl ⟨h.1, .inl h.2⟩
theorem FzU.sq {K : PySem.W.Frag} {B : Addr → Prop} {H : Hp} {p : Addr} {xs : List V} (h : FzU B H p xs) : SqT K H p xs := (h.fz (K := K)).sq
theorem FzU.mono {B B' : Addr → Prop} {H H' : Hp} {p : Addr} {xs : List V} (k : Kp B H B' H') (h : FzU B H p xs) : FzU B' H' p xs := k _ _ h.1 h.2
/-- entries of a dict, their values frozen -/
inductive KvZ (K : PySem.W.Frag) (B : Addr → Prop) (H : Hp) {κ : Type} : List (κ × V) → List (κ × D) → Prop
  | nil : KvZ K B H [] []
  | cons {k : κ} {v : V} {d : D} {vs : List (κ × V)} {ds : List (κ × D)} : Dt K B H v d → KvZ K B H vs ds → KvZ K B H ((k, v) :: vs) ((k, d) :: ds)
theorem KvZ.mono {K : PySem.W.Frag} {B B' : Addr → Prop} {H H' : Hp} {κ : Type} {vs : List (κ × V)} {ds : List (κ × D)} (k : Kp B H B' H') (h : KvZ K B H vs ds) : KvZ K B' H' vs ds := by
  induction h with
  | nil => exact .nil
  | cons a _ ih => exact .cons (Dt.mono k _ _ a) ih
def dcK (es : List (Key × D)) : D := .dict (es.map fun e => (kD e.1, e.2))
def dcT (es : List (List Key × D)) : D := .dict (es.map fun e => (.tuple (e.1.map kD), e.2))
mutual
inductive Own (K : PySem.W.Frag) (B : Addr → Prop) (H : Hp) : Ty → V → D → List Addr → Prop
  | fr {v : V} {d : D} : Dt K B H v d → Own K B H .fr v d []
  | pt {v : V} {d : D} : Own K B H (.pt v) v d []
  | non {t : Ty} : Own K B H (.op t) .non .none []
  | som {t : Ty} {v : V} {d : D} {f : List Addr} : Own K B H t v d f → Own K B H (.op t) v d f
  | ls {t : Ty} {p : Addr} {vs : List V} {ds : List D} {f : List Addr} : H p = some (.lst vs) → OwnZ K B H (List.replicate ds.length t) vs ds f → Own K B H (.ls t) (.ref p) (.list ds) (p :: f)
  | tp {ts : List Ty} {p : Addr} {vs : List V} {ds : List D} {f : List Addr} : FzU B H p vs → OwnZ K B H ts vs ds f → Own K B H (.tp ts) (.ref p) (.tuple ds) f
  | nd {k : Nk} {ts : List Ty} {p : Addr} {o : HO} {vs : List V} {ds : List D} {f : List Addr} : H p = some o → k.at o vs → OwnZ K B H ts vs ds f → Own K B H (.nd k ts) (.ref p) (ndD k ds) (p :: f)
  | dk {p : Addr} {kvs : List (Key × V)} {es : List (Key × D)} : H p = some (.dK kvs) → KvZ K B H kvs es → Own K B H .dk (.ref p) (dcK es) [p]
  | dt {p : Addr} {kvs : List (List Key × V)} {es : List (List Key × D)} : H p = some (.dT kvs) → KvZ K B H kvs es → Own K B H .dt (.ref p) (dcT es) [p]
  | al0 {t u : Ty} {v : V} {d : D} {f : List Addr} : Own K B H t v d f → Own K B H (.al t u) v (.tuple [.int 0, d]) f
  | al1 {t u : Ty} {v : V} {d : D} {f : List Addr} : Own K B H u v d f → Own K B H (.al t u) v (.tuple [.int 1, d]) f
inductive OwnZ (K : PySem.W.Frag) (B : Addr → Prop) (H : Hp) : List Ty → List V → List D → List Addr → Prop
  | nil : OwnZ K B H [] [] [] []
  | cons {t : Ty} {v : V} {d : D} {f : List Addr} {ts : List Ty} {vs : List V} {ds : List D} {g : List Addr} : Own K B H t v d f → OwnZ K B H ts vs ds g → OwnZ K B H (t :: ts) (v :: vs) (d :: ds) (f ++ g)
end
mutual
/-- types of what is plain data: lists and tuples -/
def Ty.dat : Ty → Bool
  | .fr => true
  | .op t => t.dat
  | .ls t => t.dat
  | .tp ts => datAll ts
  | .nd .lst ts => datAll ts
  | _ => false
def datAll : List Ty → Bool
  | [] => true
  | t :: ts => t.dat && datAll ts
end
/-- objects that are changed -/
def Chg : HO → Bool
  | .lst _ => true
  | .ins _ _ _ => true
  | .dK _ => true
  | .dT _ => true
  | _ => false
theorem Nk.chg {k : Nk} {o : HO} {vs : List V} (h : k.at o vs) : Chg o = true := by
  cases k with
  | obj C ns => obtain ⟨_, dx, rfl⟩ := h; rfl
  | lst => cases h; rfl
  | rc ks => obtain ⟨_, rfl⟩ := h; rfl
theorem zip_inj {α β : Type} {ns : List α} {vs vs' : List β} (h1 : ns.length = vs.length) (h2 : ns.length = vs'.length) (e : ns.zip vs = ns.zip vs') : vs = vs' := by
  rw [← List.map_snd_zip (l₁ := ns) (l₂ := vs) (Nat.le_of_eq h1.symm), e, List.map_snd_zip (l₁ := ns) (l₂ := vs') (Nat.le_of_eq h2.symm)]
theorem Nk.inj {k : Nk} {o : HO} {vs vs' : List V} (h : k.at o vs) (h' : k.at o vs') : vs = vs' := by
  cases k with
  | obj C ns =>
    obtain ⟨l, dx, rfl⟩ := h
    obtain ⟨l', dx', e⟩ := h'
    injection e with _ _ e
    exact zip_inj l l' e
  | lst => cases h; cases h'; rfl
  | rc ks =>
    obtain ⟨l, rfl⟩ := h
    obtain ⟨l', e⟩ := h'
    injection e with e
    exact zip_inj (by rw [List.length_map]; exact l) (by rw [List.length_map]; exact l') e
section
variable {K : PySem.W.Frag} {B B' : Addr → Prop} {H H' : Hp} {t tk : Ty} {ts : List Ty} {v u : V} {d dk : D} {vs : List V} {ds : List D} {f g : List Addr} {p : Addr} {n : Nat}
theorem Own.mono (k : Kp B H B' H') (h : Own K B H t v d f) : (∀ q ∈ f, H' q = H q) → Own K B' H' t v d f :=
  Own.rec (motive_1 := fun t v d f _ => (∀ q ∈ f, H' q = H q) → Own K B' H' t v d f) (motive_2 := fun ts vs ds f _ => (∀ q ∈ f, H' q = H q) → OwnZ K B' H' ts vs ds f)
    (fun h _ => .fr (Dt.mono k _ _ h)) (fun _ => .pt) (fun _ => .non) (fun _ ih e => .som (ih e)) (fun h _ ih e => .ls (by rw [e _ (.head _)]; exact h) (ih fun q hq => e q (.tail _ hq)))
    (fun h _ ih e => .tp (h.mono k) (ih e)) (fun h ha _ ih e => .nd (by rw [e _ (.head _)]; exact h) ha (ih fun q hq => e q (.tail _ hq)))
    (fun h hz e => .dk (by rw [e _ (.head _)]; exact h) (hz.mono k)) (fun h hz e => .dt (by rw [e _ (.head _)]; exact h) (hz.mono k)) (fun _ ih e => .al0 (ih e)) (fun _ ih e => .al1 (ih e))
    (fun _ => .nil) (fun _ _ i1 i2 e => .cons (i1 fun q hq => e q (List.mem_append.mpr (.inl hq))) (i2 fun q hq => e q (List.mem_append.mpr (.inr hq)))) h
theorem OwnZ.mono (k : Kp B H B' H') : ∀ {ts : List Ty} {vs : List V} {ds : List D} {f : List Addr}, OwnZ K B H ts vs ds f → (∀ q ∈ f, H' q = H q) → OwnZ K B' H' ts vs ds f
  | [], _, _, _, h, _ => by cases h; exact .nil
  | _ :: _, _, _, _, h, e => by
    cases h with
    | cons a b => exact .cons (a.mono k fun q hq => e q (List.mem_append.mpr (.inl hq))) (OwnZ.mono k b fun q hq => e q (List.mem_append.mpr (.inr hq)))
/-- at each place stands what may be changed -/
theorem Own.occ (h : Own K B H t v d f) : ∀ q ∈ f, ∃ o, H q = some o ∧ Chg o = true :=
  Own.rec (motive_1 := fun t v d f _ => ∀ q ∈ f, ∃ o, H q = some o ∧ Chg o = true) (motive_2 := fun ts vs ds f _ => ∀ q ∈ f, ∃ o, H q = some o ∧ Chg o = true)
    (fun _ q hq => by cases hq) (fun q hq => by cases hq) (fun q hq => by cases hq) (fun _ ih => ih) (fun h _ ih q hq => by
      rcases List.mem_cons.mp hq with e | e
      · subst e; exact ⟨_, h, rfl⟩
      · exact ih q e)
    (fun _ _ ih => ih) (fun h ha _ ih q hq => by
      rcases List.mem_cons.mp hq with e | e
      · subst e; exact ⟨_, h, Nk.chg ha⟩
      · exact ih q e)
    (fun h _ q hq => by rw [List.mem_singleton.mp hq]; exact ⟨_, h, rfl⟩) (fun h _ q hq => by rw [List.mem_singleton.mp hq]; exact ⟨_, h, rfl⟩) (fun _ ih => ih) (fun _ ih => ih)
    (fun q hq => by cases hq) (fun _ _ i1 i2 q hq => (List.mem_append.mp hq).elim (i1 q) (i2 q)) h
/-- taken as data that nobody changes -/
theorem datAll_rep {t : Ty} (h : t.dat = true) : ∀ n, datAll (List.replicate n t) = true
  | 0 => rfl
  | n + 1 => by rw [List.replicate_succ]; show (t.dat && datAll _) = true; rw [datAll_rep h n, h]; rfl
theorem Own.dt' (hB : ∀ q, B q → B' q) (h : Own K B H t v d f) : t.dat = true → (∀ q ∈ f, B' q) → Dt K B' H v d :=
  Own.rec (motive_1 := fun t v d f _ => t.dat = true → (∀ q ∈ f, B' q) → Dt K B' H v d) (motive_2 := fun ts vs ds f _ => datAll ts = true → (∀ q ∈ f, B' q) → DtAll K B' H vs ds)
    (fun h _ _ => Dt.mono (fun q o b e => ⟨hB q b, e⟩) _ _ h) (fun ht => by cases ht) (fun _ _ => .non) (fun _ ih t e => ih t e)
    (fun h _ ih ht e => .lst ⟨e _ (.head _), h⟩ (ih (datAll_rep (by exact ht) _) fun q hq => e q (.tail _ hq)))
    (fun h _ ih ht e => .tup (h.mono (fun q o b e => ⟨hB q b, e⟩)).fz (ih ht e))
    (fun {k ts p o vs ds f} h ha _ ih ht e => by
      cases k with
      | lst => cases ha; exact .lst ⟨e _ (.head _), h⟩ (ih ht fun q hq => e q (.tail _ hq))
      | obj C ns => cases ht
      | rc ks => cases ht)
    (fun _ _ ht => by cases ht) (fun _ _ ht => by cases ht) (fun _ _ ht => by cases ht) (fun _ _ ht => by cases ht)
    (fun _ _ => .nil) (fun {t v d f ts vs ds g} _ _ i1 i2 ht e => by
      have h2 : t.dat = true ∧ datAll ts = true := by
        have : (t.dat && datAll ts) = true := ht
        rwa [Bool.and_eq_true] at this
      exact .cons (i1 h2.1 fun q hq => e q (List.mem_append.mpr (.inl hq))) (i2 h2.2 fun q hq => e q (List.mem_append.mpr (.inr hq)))) h
theorem OwnZ.len : ∀ {ts : List Ty} {vs : List V} {ds : List D} {f : List Addr}, OwnZ K B H ts vs ds f → vs.length = ds.length ∧ ts.length = ds.length
  | [], _, _, _, h => by cases h; exact ⟨rfl, rfl⟩
  | _ :: _, _, _, _, h => by
    cases h with
    | cons a b => have := OwnZ.len b; simp [this.1, this.2]
/-- a child, and what stays around it; the child's type may be another one -/
theorem OwnZ.kid : ∀ {ts : List Ty} {vs : List V} {ds : List D} {f : List Addr} {n : Nat} {tk : Ty} {dk : D}, OwnZ K B H ts vs ds f → ts[n]? = some tk → ds[n]? = some dk →
    ∃ u f1 fk f2, vs[n]? = some u ∧ Own K B H tk u dk fk ∧ f = f1 ++ (fk ++ f2) ∧ ∀ B' H' t' u' d' fk', Kp B H B' H' → (∀ q ∈ f1 ++ f2, H' q = H q) → Own K B' H' t' u' d' fk' → OwnZ K B' H' (ts.set n t') (vs.set n u') (ds.set n d') (f1 ++ (fk' ++ f2))
  | [], _, _, _, _, _, _, h, ht, _ => by cases ht
  | _ :: _, _, _, _, 0, _, _, h, ht, hd => by
    cases h with
    | @cons t v d f ts vs ds g a b =>
      cases ht; cases hd
      exact ⟨v, [], f, g, rfl, a, rfl, fun B' H' t' u' d' fk' k e a' => (show OwnZ K B' H' _ _ _ (fk' ++ g) from .cons a' (b.mono k fun q hq => e q hq))⟩
  | _ :: _, _, _, _, n + 1, _, _, h, ht, hd => by
    cases h with
    | @cons t v d f ts vs ds g a b =>
      obtain ⟨u, f1, fk, f2, h1, h2, h3, h4⟩ := OwnZ.kid (n := n) b ht hd
      refine ⟨u, f ++ f1, fk, f2, h1, h2, by rw [h3, List.append_assoc], fun B' H' t' u' d' fk' k e a' => ?_⟩
      have := OwnZ.cons (a.mono k fun q hq => e q (List.mem_append.mpr (.inl (List.mem_append.mpr (.inl hq))))) (h4 B' H' t' u' d' fk' k (fun q hq => e q (by
        rcases List.mem_append.mp hq with z | z
        · exact List.mem_append.mpr (.inl (List.mem_append.mpr (.inr z)))
        · exact List.mem_append.mpr (.inr z))) a')
      rw [List.append_assoc]
      exact this
theorem Own.nonf (h : Own K B H t v d f) : v = .non → d = .none → f = [] :=
  Own.rec (motive_1 := fun t v d f _ => v = .non → d = .none → f = []) (motive_2 := fun _ _ _ _ _ => True)
    (fun _ _ _ => rfl) (fun _ _ => rfl) (fun _ _ => rfl) (fun _ ih => ih) (fun _ _ _ e => by cases e) (fun _ _ _ e => by cases e) (fun _ _ _ _ e => by cases e) (fun _ _ e => by cases e) (fun _ _ e => by cases e) (fun _ _ _ e => by cases e) (fun _ _ _ e => by cases e) trivial (fun _ _ _ _ => trivial) h
/-- the places of a tree are told by the heap -/
theorem Own.uniq (h : Own K B H t v d f) : ∀ B' f', Own K B' H t v d f' → f = f' :=
  Own.rec (motive_1 := fun t v d f _ => ∀ B' f', Own K B' H t v d f' → f = f') (motive_2 := fun ts vs ds f _ => ∀ B' f', OwnZ K B' H ts vs ds f' → f = f')
    (fun _ B' f' h => by cases h; rfl)
    (fun B' f' h => by cases h; rfl)
    (fun B' f' h => by
      cases h with
      | non => rfl
      | som h => exact (h.nonf rfl rfl).symm)
    (fun h0 ih B' f' h => by
      cases h with
      | non => exact h0.nonf rfl rfl
      | som h => exact ih B' f' h)
    (fun {t p vs ds f} hp _ ih B' f' h => by
      cases h with
      | @ls _ _ vs' _ g hp' hz =>
        rw [hp] at hp'; cases hp'
        rw [ih B' g hz])
    (fun {ts p vs ds f} hp _ ih B' f' h => by
      cases h with
      | @tp _ _ vs' _ _ hp' hz =>
        have e := hp.2.symm.trans hp'.2
        cases e
        exact ih B' f' hz)
    (fun {k ts p o vs ds f} hp ha hz0 ih B' f' h => by
      generalize e : ndD k ds = d' at h
      cases h with
      | @nd _ _ _ o' vs' ds' g hp' ha' hz =>
        rw [hp] at hp'; cases hp'
        have e3 := Nk.inj ha ha'
        subst e3
        have e4 : ds = ds' := by
          cases k <;> · injection e
        subst e4
        rw [ih B' g hz])
    (fun {p kvs es} hp hz B' f' h => by
      generalize e : dcK es = d' at h
      cases h; rfl)
    (fun {p kvs es} hp hz B' f' h => by
      generalize e : dcT es = d' at h
      cases h; rfl)
    (fun _ ih B' f' h => by
      cases h with
      | al0 h => exact ih B' f' h)
    (fun _ ih B' f' h => by
      cases h with
      | al1 h => exact ih B' f' h)
    (fun B' f' h => by cases h; rfl)
    (fun _ _ i1 i2 B' f' h => by
      cases h with
      | cons a b => rw [i1 B' _ a, i2 B' _ b]) h
open Classical in
/-- the places of a tree -/
noncomputable def foot (K : PySem.W.Frag) (t : Ty) (v : V) (d : D) (H : Hp) : List Addr := if h : ∃ f B, Own K B H t v d f then choose h else []
theorem foot_eq (h : Own K B H t v d f) : foot K t v d H = f := by
  have e : ∃ f B, Own K B H t v d f := ⟨f, B, h⟩
  unfold foot
  rw [dif_pos e]
  obtain ⟨B', h'⟩ := Classical.choose_spec e
  exact h'.uniq B f h
/-- a tree of type t at v, of places of which N is true -/
noncomputable def rootS (K : PySem.W.Frag) (N : Addr → Prop) (t : Ty) (v : V) (d : D) : Root where
  fp := foot K t v d
  P := fun B H => ∃ f, Own K B H t v d f ∧ ∀ q ∈ f, N q
  mono := fun k e h => by
    obtain ⟨f, ho, hn⟩ := h
    rw [foot_eq ho] at e
    exact ⟨f, ho.mono k e, hn⟩
  same := fun k e h => by
    obtain ⟨f, ho, hn⟩ := h
    rw [foot_eq ho] at e
    rw [foot_eq ho, foot_eq (ho.mono k e)]
  occ := fun h q hq => by
    obtain ⟨f, ho, hn⟩ := h
    rw [foot_eq ho] at hq
    obtain ⟨o, h1, _⟩ := ho.occ q hq
    exact ⟨o, h1⟩
/-- the tree of type t at v, of which the subtree at u, of type tk, is away; pl puts it back -/
def rootH (K : PySem.W.Frag) (N : Addr → Prop) (tk : Ty) (u : V) (t : Ty) (v : V) (pl : D → D) (g : List Addr) : Root where
  fp := fun _ => g
  same := fun _ _ _ => rfl
  P := fun B H => (∀ q ∈ g, (∃ o, H q = some o) ∧ N q) ∧ ∀ B' H' d' fk, Kp B H B' H' → (∀ q ∈ g, H' q = H q) → Own K B' H' tk u d' fk → ∃ f2, f2.Perm (fk ++ g) ∧ Own K B' H' t v (pl d') f2
  mono := fun k e h => by
    refine ⟨fun q hq => by rw [e q hq]; exact h.1 q hq, fun B2 H2 d' fk k2 e2 ho => ?_⟩
    exact h.2 B2 H2 d' fk (k.trans k2) (fun q hq => (e2 q hq).trans (e q hq)) ho
  occ := fun h q hq => (h.1 q hq).1
end
def kidT : Ty → Nat → Option Ty
  | .op t, n => kidT t n
  | .ls t, _ => some t
  | .tp ts, n => ts[n]?
  | .nd _ ts, n => ts[n]?
  | _, _ => none
def kidD : D → Nat → Option D
  | .list ds, n => ds[n]?
  | .tuple ds, n => ds[n]?
  | _, _ => none
def setkD (d : D) (n : Nat) (y : D) : D := match d with
  | .list ds => .list (ds.set n y)
  | .tuple ds => .tuple (ds.set n y)
  | _ => d
def getP : D → List Nat → Option D
  | d, [] => some d
  | d, n :: p => match kidD d n with
    | some x => getP x p
    | none => none
def setP : D → List Nat → D → D
  | _, [], y => y
  | d, n :: p, y => match kidD d n with
    | some x => setkD d n (setP x p y)
    | none => d
theorem getP_snoc : ∀ {d : D} {p : List Nat} {n : Nat} {r x : D}, getP d p = some r → kidD r n = some x → getP d (p ++ [n]) = some x
  | d, [], n, r, x, h, e => by cases h; show (match kidD d n with | some x => getP x [] | none => none) = _; rw [e]; rfl
  | d, k :: p, n, r, x, h, e => by
    simp only [getP] at h
    cases ek : kidD d k with
    | none => rw [ek] at h; cases h
    | some y =>
      rw [ek] at h
      show (match kidD d k with | some x => getP x (p ++ [n]) | none => none) = _
      rw [ek]
      exact getP_snoc h e
theorem setP_snoc : ∀ {d : D} {p : List Nat} {n : Nat} {r x y : D}, getP d p = some r → kidD r n = some x → setP d (p ++ [n]) y = setP d p (setkD r n y)
  | d, [], n, r, x, y, h, e => by cases h; show (match kidD d n with | some x => setkD d n (setP x [] y) | none => d) = _; rw [e]; rfl
  | d, k :: p, n, r, x, y, h, e => by
    simp only [getP] at h
    cases ek : kidD d k with
    | none => rw [ek] at h; cases h
    | some z =>
      rw [ek] at h
      show (match kidD d k with | some x => setkD d k (setP x (p ++ [n]) y) | none => d) = (match kidD d k with | some x => setkD d k (setP x p (setkD r n y)) | none => d)
      rw [ek]
      show setkD d k _ = setkD d k _
      rw [setP_snoc h e]
theorem set_self {α : Type} {l : List α} {n : Nat} {x : α} (h : l[n]? = some x) : l.set n x = l := by
  obtain ⟨hn, rfl⟩ := List.getElem?_eq_some_iff.mp h
  exact List.set_getElem_self hn
theorem setkD_self {d x : D} {n : Nat} (h : kidD d n = some x) : setkD d n x = d := by
  cases d with
  | list ds => exact congrArg PyData.list (set_self h)
  | tuple ds => exact congrArg PyData.tuple (set_self h)
  | _ => rfl
theorem setP_self : ∀ {d : D} {p : List Nat} {r : D}, getP d p = some r → setP d p r = d
  | d, [], r, h => by cases h; rfl
  | d, n :: p, r, h => by
    simp only [getP] at h
    cases ek : kidD d n with
    | none => rw [ek] at h; cases h
    | some z =>
      rw [ek] at h
      show (match kidD d n with | some x => setkD d n (setP x p r) | none => d) = d
      rw [ek]
      show setkD d n (setP z p r) = d
      rw [setP_self h, setkD_self ek]
/-- what is seen of a node: its child at n is u -/
inductive NodeAt (K : PySem.W.Frag) (H : Hp) : Ty → V → D → Nat → V → Prop
  | op {t : Ty} {v : V} {d : D} {n : Nat} {u : V} : NodeAt K H t v d n u → NodeAt K H (.op t) v d n u
  | ls {t : Ty} {p : Addr} {vs : List V} {ds : List D} {n : Nat} {u : V} : H p = some (.lst vs) → vs.length = ds.length → vs[n]? = some u → NodeAt K H (.ls t) (.ref p) (.list ds) n u
  | tp {ts : List Ty} {p : Addr} {vs : List V} {ds : List D} {n : Nat} {u : V} : SqT K H p vs → vs.length = ds.length → vs[n]? = some u → NodeAt K H (.tp ts) (.ref p) (.tuple ds) n u
  | nd {k : Nk} {ts : List Ty} {p : Addr} {o : HO} {vs : List V} {ds : List D} {n : Nat} {u : V} : H p = some o → k.at o vs → vs.length = ds.length → vs[n]? = some u → NodeAt K H (.nd k ts) (.ref p) (ndD k ds) n u
theorem kid_nd {k : Nk} {ds : List D} {n : Nat} : kidD (ndD k ds) n = ds[n]? := by cases k <;> rfl
theorem setk_nd {k : Nk} {ds : List D} {n : Nat} {y : D} : setkD (ndD k ds) n y = ndD k (ds.set n y) := by cases k <;> rfl
section
variable {K : PySem.W.Frag} {O : Og} {L : List (V × D)} {C C' Z : List Root} {B B' : Addr → Prop} {H H' : Hp} {N : Addr → Prop} {t tk : Ty} {ts : List Ty} {v u : V} {d dk : D} {vs : List V} {ds : List D} {f g : List Addr} {p : Addr} {n : Nat}
/-- a subtree taken out -/
theorem Own.zoom (h : Own K B H t v d f) : kidT t n = some tk → kidD d n = some dk → ∃ u fk g, f.Perm (fk ++ g) ∧ Own K B H tk u dk fk ∧ NodeAt K H t v d n u ∧ ∀ B' H' d' fk', Kp B H B' H' → (∀ q ∈ g, H' q = H q) → Own K B' H' tk u d' fk' → ∃ f2, f2.Perm (fk' ++ g) ∧ Own K B' H' t v (setkD d n d') f2 := by
  refine Own.rec (motive_1 := fun t v d f _ => kidT t n = some tk → kidD d n = some dk → ∃ u fk g, f.Perm (fk ++ g) ∧ Own K B H tk u dk fk ∧ NodeAt K H t v d n u ∧ ∀ B' H' d' fk', Kp B H B' H' → (∀ q ∈ g, H' q = H q) → Own K B' H' tk u d' fk' → ∃ f2, f2.Perm (fk' ++ g) ∧ Own K B' H' t v (setkD d n d') f2) (motive_2 := fun _ _ _ _ _ => True) ?_ ?_ ?_ ?_ ?_ ?_ ?_ ?_ ?_ ?_ ?_ ?_ ?_ h
  · intro v d _ ht; cases ht
  · intro v d ht; cases ht
  · intro t ht hd; cases hd
  · intro t v d f _ ih ht hd
    obtain ⟨u, fk, g, h1, h2, h3, h4⟩ := ih ht hd
    refine ⟨u, fk, g, h1, h2, .op h3, fun B' H' d' fk' k e a => ?_⟩
    obtain ⟨f2, h5, h6⟩ := h4 B' H' d' fk' k e a
    exact ⟨f2, h5, .som h6⟩
  · intro t p vs ds f hp hz _ ht hd
    cases ht
    have hd' : ds[n]? = some dk := hd
    obtain ⟨hn, _⟩ := List.getElem?_eq_some_iff.mp hd'
    have hr : (List.replicate ds.length tk)[n]? = some tk := by rw [List.getElem?_replicate, if_pos hn]
    obtain ⟨u, f1, fk, f2, h1, h2, h3, h4⟩ := hz.kid hr hd'
    refine ⟨u, fk, p :: (f1 ++ f2), ?_, h2, .ls hp hz.len.1 h1, fun B' H' d' fk' k e a => ?_⟩
    · rw [h3]
      refine ((List.perm_middle (a := p) (l₁ := fk) (l₂ := f1 ++ f2)).trans (List.Perm.cons p ?_)).symm
      exact List.perm_append_comm_assoc _ _ _
    · have h5 := h4 B' H' tk u d' fk' k (fun q hq => e q (.tail _ hq)) a
      rw [set_self h1, set_self hr] at h5
      refine ⟨p :: (f1 ++ (fk' ++ f2)), ?_, .ls (by rw [e p (.head _)]; exact hp) ?_⟩
      · refine ((List.perm_middle (a := p) (l₁ := fk') (l₂ := f1 ++ f2)).trans (List.Perm.cons p ?_)).symm
        exact List.perm_append_comm_assoc _ _ _
      · rw [List.length_set]; exact h5
  · intro ts p vs ds f hp hz _ ht hd
    obtain ⟨u, f1, fk, f2, h1, h2, h3, h4⟩ := hz.kid ht hd
    refine ⟨u, fk, f1 ++ f2, ?_, h2, .tp hp.sq hz.len.1 h1, fun B' H' d' fk' k e a => ?_⟩
    · rw [h3]; exact List.perm_append_comm_assoc _ _ _
    · have h5 := h4 B' H' tk u d' fk' k e a
      rw [set_self h1, set_self ht] at h5
      exact ⟨f1 ++ (fk' ++ f2), List.perm_append_comm_assoc _ _ _, .tp (hp.mono k) h5⟩
  · intro nk ts p o vs ds f hp ha hz _ ht hd
    rw [kid_nd] at hd
    obtain ⟨u, f1, fk, f2, h1, h2, h3, h4⟩ := hz.kid ht hd
    refine ⟨u, fk, p :: (f1 ++ f2), ?_, h2, .nd hp ha hz.len.1 h1, fun B' H' d' fk' k e a => ?_⟩
    · rw [h3]
      refine ((List.perm_middle (a := p) (l₁ := fk) (l₂ := f1 ++ f2)).trans (List.Perm.cons p ?_)).symm
      exact List.perm_append_comm_assoc _ _ _
    · have h5 := h4 B' H' tk u d' fk' k (fun q hq => e q (.tail _ hq)) a
      rw [set_self h1, set_self ht] at h5
      refine ⟨p :: (f1 ++ (fk' ++ f2)), ?_, by rw [setk_nd]; exact .nd (by rw [e p (.head _)]; exact hp) ha h5⟩
      refine ((List.perm_middle (a := p) (l₁ := fk') (l₂ := f1 ++ f2)).trans (List.Perm.cons p ?_)).symm
      exact List.perm_append_comm_assoc _ _ _
  · intro p kvs es _ _ ht; cases ht
  · intro p kvs es _ _ ht; cases ht
  · intro t u v d f _ _ ht; cases ht
  · intro t u v d f _ _ ht; cases ht
  · trivial
  · intros; trivial
/-- roots told otherwise, over the same places -/
theorem Wd.imp {Q : Prop} (w : Wd K O L (C ++ Z) H) (h : ∀ B, (∀ f ∈ L, Dt K B H f.1 f.2) → (∀ c ∈ C, c.P B H) → ∃ C', (fps C H).Perm (fps C' H) ∧ (∀ c ∈ C', c.P B H) ∧ (Wd K O L (C' ++ Z) H → Q)) : Q := by
  obtain ⟨B, wb⟩ := w
  obtain ⟨C', h1, h2, h3⟩ := h B wb.ft fun c hc => wb.rt c (List.mem_append.mpr (.inl hc))
  exact h3 ⟨B, wb.swap h1 (fun _ _ => rfl) (fun q hq => by
    obtain ⟨c, hc, hq2⟩ := List.mem_flatMap.mp hq
    exact c.occ (wb.rt c (List.mem_append.mpr (.inl hc))) q hq2) fun _ => h2⟩
theorem fps_one (c : Root) (H : Hp) : fps [c] H = c.fp H := List.append_nil _
theorem fps_two (c e : Root) (H : Hp) : fps [c, e] H = c.fp H ++ e.fp H := by rw [fps_cons, fps_one]
theorem rootS_fp (h : Own K B H t v d f) : (rootS K N t v d).fp H = f := foot_eq h
theorem mem1 {c e : Root} (h : c ∈ [e]) : c = e := List.mem_singleton.mp h
theorem mem2 {c e e' : Root} (h : c ∈ [e, e']) : c = e ∨ c = e' := by simpa using h
/-- zoom: the subtree and the hole -/
theorem Wd.zoomS (w : Wd K O L (rootS K N t v d :: Z) H) (ht : kidT t n = some tk) (hd : kidD d n = some dk) : ∃ u g, NodeAt K H t v d n u ∧ Wd K O L (rootS K N tk u dk :: rootH K N tk u t v (setkD d n) g :: Z) H := by
  refine Wd.imp (C := [rootS K N t v d]) w fun B _ hr => ?_
  obtain ⟨f2, ho, hn⟩ := hr _ (.head _)
  obtain ⟨u, fk, g, h1, h2, h3, h4⟩ := ho.zoom ht hd
  refine ⟨[rootS K N tk u dk, rootH K N tk u t v (setkD d n) g], ?_, fun c hc => ?_, fun w' => ⟨u, g, h3, w'⟩⟩
  · rw [fps_one, fps_two, rootS_fp ho, rootS_fp h2]
    exact h1
  · rcases mem2 hc with e | e
    · rw [e]; exact ⟨fk, h2, fun q hq => hn q (h1.mem_iff.mpr (List.mem_append.mpr (.inl hq)))⟩
    · rw [e]
      refine ⟨fun q hq => ⟨?_, hn q (h1.mem_iff.mpr (List.mem_append.mpr (.inr hq)))⟩, h4⟩
      obtain ⟨o, ho1, _⟩ := ho.occ q (h1.mem_iff.mpr (List.mem_append.mpr (.inr hq)))
      exact ⟨o, ho1⟩
theorem Wd.unzoomS {pl : D → D} (w : Wd K O L (rootS K N tk u dk :: rootH K N tk u t v pl g :: Z) H) : Wd K O L (rootS K N t v (pl dk) :: Z) H := by
  refine Wd.imp (C := [rootS K N tk u dk, rootH K N tk u t v pl g]) w fun B _ hr => ?_
  obtain ⟨fk, ho, hn⟩ := hr _ (.head _)
  obtain ⟨hg, hh⟩ := hr _ (.tail _ (.head _))
  obtain ⟨f3, hp3, ho3⟩ := hh B H dk fk .refl (fun _ _ => rfl) ho
  refine ⟨[rootS K N t v (pl dk)], ?_, fun c hc => ?_, fun w' => w'⟩
  · rw [fps_two, fps_one, rootS_fp ho, rootS_fp ho3]
    exact hp3.symm
  · rw [mem1 hc]
    refine ⟨f3, ho3, fun q hq => ?_⟩
    rcases List.mem_append.mp (hp3.mem_iff.mp hq) with z | z
    · exact hn q z
    · exact (hg q z).2
theorem Wd.hole2S {tm : Ty} {um : V} {p1 p2 : D → D} {g1 g2 : List Addr} {r : Root} (w : Wd K O L (r :: rootH K N tk u tm um p2 g2 :: rootH K N tm um t v p1 g1 :: Z) H) : Wd K O L (r :: rootH K N tk u t v (fun y => p1 (p2 y)) (g2 ++ g1) :: Z) H := by
  refine Wd.imp (C := [r, rootH K N tk u tm um p2 g2, rootH K N tm um t v p1 g1]) w fun B _ hr => ?_
  obtain ⟨o2, q2⟩ := hr _ (.tail _ (.head _))
  obtain ⟨o1, q1⟩ := hr _ (.tail _ (.tail _ (.head _)))
  refine ⟨[r, rootH K N tk u t v (fun y => p1 (p2 y)) (g2 ++ g1)], ?_, fun c hc => ?_, fun w' => w'⟩
  · simp only [fps_cons]
    show (r.fp H ++ (g2 ++ (g1 ++ []))).Perm (r.fp H ++ (g2 ++ g1 ++ []))
    rw [List.append_nil, List.append_nil]
  · rcases mem2 hc with e | e
    · rw [e]; exact hr _ (.head _)
    · rw [e]
      refine ⟨fun q hq => (List.mem_append.mp hq).elim (o2 q) (o1 q), fun B' H' d' fk k e ho => ?_⟩
      obtain ⟨f2, h1, h2⟩ := q2 B' H' d' fk k (fun q hq => e q (List.mem_append.mpr (.inl hq))) ho
      obtain ⟨f3, h3, h4⟩ := q1 B' H' (p2 d') f2 k (fun q hq => e q (List.mem_append.mpr (.inr hq))) h2
      exact ⟨f3, h3.trans (by rw [← List.append_assoc]; exact h1.append_right g1), h4⟩
theorem Wd.hole0S (w : Wd K O L (rootS K N t v d :: Z) H) : Wd K O L (rootS K N t v d :: rootH K N t v t v (fun y => y) [] :: Z) H := by
  refine Wd.imp (C := [rootS K N t v d]) w fun B _ hr => ⟨[rootS K N t v d, rootH K N t v t v (fun y => y) []], ?_, fun c hc => ?_, fun w' => w'⟩
  · rw [fps_one, fps_two, show (rootH K N t v t v (fun y => y) []).fp H = [] from rfl, List.append_nil]
  · rcases mem2 hc with e | e
    · rw [e]; exact hr _ (.head _)
    · rw [e]
      exact ⟨fun q hq => (by cases hq), fun B' H' d' fk _ _ ho => ⟨fk, by rw [List.append_nil], ho⟩⟩
/-- a frozen thing, as a tree and back -/
theorem Wd.ofFS (w : Wd K O L Z H) (h : (v, d) ∈ L) : Wd K O L (rootS K N .fr v d :: Z) H := by
  refine Wd.imp (C := []) w fun B hf _ => ⟨[rootS K N .fr v d], ?_, fun c hc => ?_, fun w' => w'⟩
  · rw [fps_one, rootS_fp (.fr (hf _ h))]; exact .refl _
  · rw [mem1 hc]; exact ⟨[], .fr (hf _ h), fun q hq => by cases hq⟩
theorem Wd.toFS (w : Wd K O L (rootS K N .fr v d :: Z) H) : Wd K O ((v, d) :: L) Z H := by
  obtain ⟨B, wb⟩ := w
  obtain ⟨f, ho, _⟩ := wb.rt _ (.head _)
  have hd : Dt K B H v d := by cases ho with | fr h => exact h
  obtain ⟨B2, w2⟩ := Wd.subC (C' := Z) ⟨B, wb.fact hd⟩ (List.sublist_cons_self _ _)
  exact ⟨B2, w2⟩
/-- other places are let, too -/
theorem Wd.weakS {N' : Addr → Prop} (w : Wd K O L (rootS K N t v d :: Z) H) (h : ∀ q, N q → N' q) : Wd K O L (rootS K N' t v d :: Z) H := by
  refine Wd.imp (C := [rootS K N t v d]) w fun B _ hr => ⟨[rootS K N' t v d], .refl _, fun c hc => ?_, fun w' => w'⟩
  obtain ⟨f, ho, hn⟩ := hr _ (.head _)
  rw [mem1 hc]
  exact ⟨f, ho, fun q hq => h q (hn q hq)⟩
end
/-! ### places and new trees (S) -/
/-- what the def was not handed -/
def nw (G : Gx) : Addr → Prop := fun q => q ∉ G.O.fp
def tr_ : Addr → Prop := fun _ => True
/-- what is indexed by numbers -/
def seqT : Ty → Bool
  | .ls _ => true
  | .tp _ => true
  | .nd .lst _ => true
  | _ => false
section
variable {μ : Type} (G : Gx)
/-- a place within the tree at v: its value u; E tells its path -/
def PLs (te : TE) (σ : St) (L : List (V × D)) (C Z : μ → List Root) (N : Addr → Prop) (t : Ty) (v : V) (get : μ → D) (tk : Ty) (E : SM μ (List Nat)) : Prop :=
  ∀ m F L' H Q p m', E m = .ok p m' → (∀ x ∈ L, x ∈ L') → Wd G.K G.O L' (C m ++ F) H →
    (∀ u g r H', getP (get m') p = some r → Wd G.K G.O L' (rootS G.K N tk u r :: rootH G.K N tk u t v (setP (get m') p) g :: (Z m' ++ F)) H' → Q u H') → te σ H Q
/-- a tree that is made, or handed on -/
def FTs (N : Addr → Prop) (te : TE) (σ : St) (L : List (V × D)) (C C' : μ → List Root) (t : Ty) (E : SM μ D) : Prop :=
  ∀ m F L' H Q, (∀ x ∈ L, x ∈ L') → Wd G.K G.O L' (C m ++ F) H →
    (∀ x m' v H', E m = .ok x m' → Wd G.K G.O L' (rootS G.K N t v x :: (C' m' ++ F)) H' → Q v H') → Bk G C' F L' (E m) → te σ H Q
end
namespace SM
variable {μ : Type}
/-- the data at a place -/
def rdP (get : μ → D) (p : List Nat) : SM μ D := fun m => match getP (get m) p with
  | some r => .ok r m
  | none => .bad
/-- the data at a place gets other data -/
def mdP (get : μ → D) (put : D → μ → μ) (p : List Nat) (f : D → Option D) : SM μ Unit := fun m => match getP (get m) p with
  | some r => match f r with
    | some y => .ok () (put (setP (get m) p y) m)
    | none => .bad
  | none => .bad
def fsetN (i : Nat) (r y : D) : Option D := match kidD r i with
  | some _ => some (setkD r i y)
  | none => none
/-- the index of an item -/
def ixD (d : D) (i : Int) : Option Nat := match d with
  | .list ds => ixN ds.length i
  | .tuple ds => ixN ds.length i
  | _ => none
def ixP (get : μ → D) (p : List Nat) (x : D) : SM μ (List Nat) := fun m => match getP (get m) p, x with
  | some r, .int i => match ixD r i with
    | some n => .ok (p ++ [n]) m
    | none => .bad
  | _, _ => .bad
def appR (y : D) (r : D) : Option D := appD r y
/-- a thing that is not to raise -/
def nr1 {α : Type} (x : SM μ α) : SM μ α := fun m => match x m with
  | .ok a m' => .ok a m'
  | _ => .bad
theorem nr1_pu {α : Type} (a : α) : nr1 (pu a : SM μ α) = pu a := rfl
theorem nr1_ok {α : Type} {x : SM μ α} {m m' : μ} {a : α} (h : x m = .ok a m') : nr1 x m = .ok a m' := by unfold nr1; rw [h]
end SM
section
open SM
variable {X : Cx} {μ τ τ' ρ : Type} {G : Gx} {σ : St} {L : List (V × D)} {C C' C1 C2 Cp Z Z1 : μ → List Root} {te ta tb tc ti : TE} {tt tu : TT} {s0 t1 u1 : TS} {E E1 E2 E3 : SM μ D} {Jn : Shp μ τ} {Jl : Shp μ ρ} {i j n : Nat} {v u vy : V} {x d y : D} {t tk tm : Ty} {W : SM μ (List Nat)} {N N' : Addr → Prop} {get : μ → D} {put : D → μ → μ} {Ca : Addr} {ns : List Str} {ts : List Ty} {nm : Str}
theorem Bk.nr {α : Type} {C0 C3 : μ → List Root} {F F3 : List Root} {L L3 : List (V × D)} {x : SM μ α} {m : μ} (h : Bk G C0 F L (nr1 x m)) : Bk G C3 F3 L3 (x m) := by
  refine ⟨fun e m' cls d H' q => ?_, fun z => ?_⟩
  · refine absurd ?_ h.2
    unfold nr1; rw [q]
  · refine absurd ?_ h.2
    unfold nr1; rw [z]
theorem rdP_nb {p : List Nat} {m : μ} (h : rdP get p m ≠ .bad) : ∃ r, getP (get m) p = some r := by
  unfold rdP at h
  cases e : getP (get m) p with
  | some r => exact ⟨r, rfl⟩
  | none => rw [e] at h; exact absurd rfl h
theorem rdP_ok {p : List Nat} {m : μ} {r : D} (h : getP (get m) p = some r) : rdP get p m = .ok r m := by unfold rdP; rw [h]
theorem mdP_nb {p : List Nat} {f : D → Option D} {m : μ} {r : D} (e : getP (get m) p = some r) (h : mdP get put p f m ≠ .bad) : ∃ y, f r = some y := by
  unfold mdP at h
  rw [e] at h
  cases e2 : f r with
  | some y => exact ⟨y, rfl⟩
  | none => simp only [e2] at h; exact absurd rfl h
theorem mdP_ok {p : List Nat} {f : D → Option D} {m : μ} {r y : D} (e : getP (get m) p = some r) (h : f r = some y) : mdP get put p f m = .ok () (put (setP (get m) p y) m) := by unfold mdP; rw [e]; simp only [h]
theorem ok_snoc {W : SM μ (List Nat)} {i : Nat} {m m' : μ} {q : List Nat} (h : bd W (fun p => pu (p ++ [i])) m = .ok q m') : ∃ p, W m = .ok p m' ∧ q = p ++ [i] := by
  unfold bd at h
  cases e : W m with
  | ok a m1 => rw [e] at h; cases h; exact ⟨a, rfl, rfl⟩
  | exc e' m1 => rw [e] at h; cases h
  | bad => rw [e] at h; cases h
theorem setP_nil (d : D) : setP d [] = fun y => y := by funext y; cases d <;> rfl
theorem pls_var (hv : σ[i]? = some (some v)) (hC : ∀ m, (C m).Perm (rootS G.K N t v (get m) :: Z m)) : PLs G (tVar i) σ L C Z N t v get t (pu []) := by
  intro m F L' H Q p m' e s w q
  cases e
  refine ⟨v, hv, q v [] (get m) H rfl ?_⟩
  rw [setP_nil]
  exact Wd.hole0S (w.perm ((hC m).append_right F))
/-- one step further down -/
theorem Wd.downS {K : PySem.W.Frag} {O : Og} {Z : List Root} {H : Hp} {p : List Nat} {r x d0 : D} {um : V} {g : List Addr} (w : Wd K O L (rootS K N tm um r :: rootH K N tm um t v (setP d0 p) g :: Z) H) (hg : getP d0 p = some r) (ht : kidT tm n = some tk) (hd : kidD r n = some x) :
    ∃ u g', NodeAt K H tm um r n u ∧ getP d0 (p ++ [n]) = some x ∧ Wd K O L (rootS K N tk u x :: rootH K N tk u t v (setP d0 (p ++ [n])) g' :: Z) H := by
  obtain ⟨u, g2, h1, w2⟩ := Wd.zoomS w ht hd
  refine ⟨u, g2 ++ g, h1, getP_snoc hg hd, ?_⟩
  have e : setP d0 (p ++ [n]) = fun y => setP d0 p (setkD r n y) := by funext y; exact setP_snoc hg hd
  rw [e]
  exact Wd.hole2S w2
theorem Wd.nodeK {K : PySem.W.Frag} {O : Og} {Z : List Root} {H : Hp} {k : Nk} {r : D} {u : V} (w : Wd K O L (rootS K N (.nd k ts) u r :: Z) H) (hk : ts[i]? = some tk) : ∃ x, kidD r i = some x := by
  obtain ⟨B, wb⟩ := w
  obtain ⟨f, ho, _⟩ := wb.rt _ (.head _)
  cases ho with
  | @nd _ _ p o vs ds f hp ha hz =>
    have hi : i < ts.length := (List.getElem?_eq_some_iff.mp hk).1
    rw [hz.len.2] at hi
    exact ⟨ds[i], by rw [kid_nd]; exact List.getElem?_eq_getElem hi⟩
/-- P.f -/
theorem pls_fld (h : PLs G ta σ L C Z N t v get (.nd (.obj Ca ns) ts) W) (c : Cls G.K Ca) (n0 : NoAttr G.K Ca nm) (hn : ns.Nodup) (hi : ns[i]? = some nm) (hk : ts[i]? = some tk) : PLs G (tFld G.K ta nm) σ L C Z N t v get tk (bd W fun p => pu (p ++ [i])) := by
  intro m F L' H Q p0 m1 e s w q
  obtain ⟨p, e1, rfl⟩ := ok_snoc e
  refine h m F L' H _ p m1 e1 s w (fun u g r H1 eg w1 => ?_)
  obtain ⟨x, hx⟩ := Wd.nodeK w1 hk
  obtain ⟨u2, g2, hN, hg2, w2⟩ := Wd.downS w1 eg (n := i) hk hx
  cases hN with
  | @nd _ _ p' o vs ds _ _ hp ha hl hu =>
    obtain ⟨hl2, dx, rfl⟩ := ha
    exact ⟨p', Ca, dx, _, u2, rfl, hp, c, n0, zip_look hn hi hu, q u2 g2 x H1 hg2 w2⟩
/-- fields of a record -/
theorem rc_look : ∀ {ks : List Str} {vs : List V} {i : Nat} {nm : Str} {v : V}, ks.Nodup → ks[i]? = some nm → vs[i]? = some v → valV ((ks.map Sum.inr).zip vs : List (Key × V)) (Sum.inr nm) = some v
  | [], _, _, _, _, _, h, _ => by cases h
  | n :: ns, [], _, _, _, _, _, h => by cases h
  | n :: ns, v :: vs, 0, _, _, _, h1, h2 => by
    cases h1; cases h2
    show valV ((Sum.inr n, v) :: ((ns.map Sum.inr).zip vs) : List (Key × V)) (Sum.inr n) = some v
    simp [valV, List.find?]
  | n :: ns, w :: vs, i + 1, nm, v, hn, h1, h2 => by
    have n2 := List.nodup_cons.mp hn
    have ne : ¬ ((Sum.inr n : Key) = Sum.inr nm) := fun z => n2.1 (by
      injection z with z
      rw [z]; exact List.mem_of_getElem? (show ns[i]? = some nm from h1))
    show valV ((Sum.inr n, w) :: ((ns.map Sum.inr).zip vs) : List (Key × V)) (Sum.inr nm) = some v
    have := rc_look (i := i) n2.2 h1 h2
    simp only [valV, List.find?, decide_eq_false ne] at this ⊢
    exact this
/-- P["k"] of a record -/
theorem pls_key {ks : List Str} (h : PLs G ta σ L C Z N t v get (.nd (.rc ks) ts) W) (hn : ks.Nodup) (hi : ks[i]? = some nm) (hk : ts[i]? = some tk) : PLs G (tDGet ta (tC (.str nm))) σ L C Z N t v get tk (bd W fun p => pu (p ++ [i])) := by
  intro m F L' H Q p0 m1 e s w q
  obtain ⟨p, e1, rfl⟩ := ok_snoc e
  refine h m F L' H _ p m1 e1 s w (fun u g r H1 eg w1 => ?_)
  obtain ⟨x, hx⟩ := Wd.nodeK w1 hk
  obtain ⟨u2, g2, hN, hg2, w2⟩ := Wd.downS w1 eg (n := i) hk hx
  cases hN with
  | @nd _ _ p' o vs ds _ _ hp ha hl hu =>
    obtain ⟨hl2, rfl⟩ := ha
    refine ⟨p', u2, rfl, ?_, q u2 g2 x H1 hg2 w2⟩
    have := DGet.k (k := Sum.inr nm) hp
    rw [rc_look hn hi hu] at this
    exact this
/-- P[e], e without the state -/
theorem ix_of {K : PySem.W.Frag} {H : Hp} {r x : D} {k : Int} {um u : V} {Q : VK} (he : ixD r k = some n) (ht : kidT tm n = some tk) (hl : seqT tm = true) (hN : NodeAt K H tm um r n u) (q : Q u H) : rIx K um (.int k) H Q := by
  cases hN with
  | op _ => cases hl
  | @ls _ p vs ds _ _ hp hl2 hu =>
    refine .inl ⟨p, vs, k, u, rfl, rfl, SqL.of hp, ?_, q⟩
    unfold atI
    rw [hl2, show ixN ds.length k = some n from he]
    exact hu
  | @tp _ p vs ds _ _ hp hl2 hu =>
    refine .inr (.inl ⟨p, vs, k, u, rfl, rfl, hp, ?_, q⟩)
    unfold atI
    rw [hl2, show ixN ds.length k = some n from he]
    exact hu
  | @nd nk _ p o vs ds _ _ hp ha hl2 hu =>
    cases nk with
    | obj C ns => cases hl
    | rc ks => cases hl
    | lst =>
      cases ha
      refine .inl ⟨p, vs, k, u, rfl, rfl, SqL.of hp, ?_, q⟩
      unfold atI
      rw [hl2, show ixN ds.length k = some n from he]
      exact hu
theorem ixD_kid {r : D} {k : Int} (h : ixD r k = some n) : ∃ x, kidD r n = some x := by
  have hlt : ∀ {l : Nat}, ixN l k = some n → n < l := fun {l} h => by
    unfold ixN at h
    split at h
    · split at h
      · cases h; omega
      · cases h
    · split at h
      · cases h; omega
      · cases h
  unfold ixD at h
  split at h
  · rename_i ds
    exact ⟨ds[n]'(hlt h), List.getElem?_eq_getElem (hlt h)⟩
  · rename_i ds
    exact ⟨ds[n]'(hlt h), List.getElem?_eq_getElem (hlt h)⟩
  · cases h
theorem ixP_nb {p : List Nat} {x r : D} {m : μ} (e : getP (get m) p = some r) (h : ixP get p x m ≠ .bad) : ∃ k n, x = .int k ∧ ixD r k = some n ∧ ixP get p x m = .ok (p ++ [n]) m := by
  unfold ixP at h ⊢
  rw [e] at h ⊢
  cases x with
  | int k =>
    cases e2 : ixD r k with
    | none => simp only [e2] at h; exact absurd rfl h
    | some n => exact ⟨k, n, rfl, e2, by simp only [e2]⟩
  | _ => exact absurd rfl h
theorem ok_inv {α β : Type} {x : SM μ α} {f : α → SM μ β} {m m' : μ} {y : β} (h : bd x f m = .ok y m') : ∃ a m1, x m = .ok a m1 ∧ f a m1 = .ok y m' := by
  unfold bd at h
  cases e : x m with
  | ok a m1 => rw [e] at h; exact ⟨a, m1, rfl, h⟩
  | exc e' m1 => rw [e] at h; cases h
  | bad => rw [e] at h; cases h
theorem nr1_nb {α : Type} {x : SM μ α} {m : μ} (h : nr1 x m ≠ .bad) : ∃ a m', x m = .ok a m' := by
  unfold nr1 at h
  cases e : x m with
  | ok a m' => exact ⟨a, m', rfl⟩
  | exc e' m' => rw [e] at h; exact absurd rfl h
  | bad => rw [e] at h; exact absurd rfl h
theorem pls_ixG (h : PLs G ta σ L C Z N t v get tm W) (hk : ∀ m x m' k n r, E2 m = .ok x m' → x = .int k → ixD r k = some n → kidT tm n = some tk) (hl : seqT tm = true) (hi : ∀ C' : μ → List Root, EV G tb σ L C' E2) (hm : ∀ m x m', E2 m = .ok x m' → get m' = get m) : PLs G (tOp (rIx G.K) ta tb) σ L C Z N t v get tk (bd W fun p => bd E2 fun x => ixP get p x) := by
  intro m F L' H Q p0 m3 e s w q
  obtain ⟨p, m1, e1, e⟩ := ok_inv e
  obtain ⟨x, m2, e2, e⟩ := ok_inv e
  refine h m F L' H _ p m1 e1 s w (fun u g r H1 eg w1 => ?_)
  have eg2 : getP (get m2) p = some r := by rw [hm m1 x m2 e2]; exact eg
  obtain ⟨k, n, rfl, hx, ex⟩ := ixP_nb eg2 (by rw [e]; intro z; cases z)
  rw [ex] at e; cases e
  refine hi (fun m => rootS G.K N tm u r :: rootH G.K N tm u t v (setP (get m) p) g :: Z m) m1 F L' H1 _ s w1 (fun x m2' iv H2 e2' w2 => ?_) (by rw [e2]; exact bk_ok)
  rw [e2] at e2'; cases e2'
  have hiv : iv = .int k := by
    obtain ⟨B, wb⟩ := w2
    exact (wb.ft _ (.head _)).int_inv
  subst hiv
  obtain ⟨y, hy⟩ := ixD_kid hx
  have hkt := hk m1 _ m3 k n r e2 rfl hx
  obtain ⟨u2, g2, hN, hg2, w3⟩ := Wd.downS (Z := Z m3 ++ F) w2 eg2 hkt hy
  exact ix_of (x := y) hx hkt hl hN (q u2 g2 y H2 hg2 (w3.sub fun f hf => .tail _ hf))
theorem pls_ix (h : PLs G ta σ L C Z N t v get (.ls tk) W) (hi : ∀ C' : μ → List Root, EV G tb σ L C' E2) (hm : ∀ m x m', E2 m = .ok x m' → get m' = get m) : PLs G (tOp (rIx G.K) ta tb) σ L C Z N t v get tk (bd W fun p => bd E2 fun x => ixP get p x) := pls_ixG h (fun _ _ _ _ _ _ _ _ _ => rfl) rfl hi hm
theorem ixN_at {n c k : Nat} (h : ixN n (c : Int) = some k) : k = c := by
  unfold ixN at h
  rw [if_pos (by omega)] at h
  split at h
  · cases h; omega
  · cases h
/-- P[c], c written -/
theorem pls_ixc {c : Nat} (h : PLs G ta σ L C Z N t v get tm W) (hk : kidT tm c = some tk) (hl : seqT tm = true) : PLs G (tOp (rIx G.K) ta (tC (.int (c : Int)))) σ L C Z N t v get tk (bd W fun p => ixP get p (.int (c : Int))) := by
  have h2 := pls_ixG (tb := tC (.int (c : Int))) (E2 := pu (.int (c : Int))) h (fun m x m' k n r e ex e2 => by
    cases e
    cases ex
    have : n = c := by
      unfold ixD at e2
      split at e2
      · exact ixN_at e2
      · exact ixN_at e2
      · cases e2
    rw [this]; exact hk) hl (fun _ => ev_int) (fun m x m' e => by cases e; rfl)
  exact h2
/-- x[e], x a name -/
theorem pls_ixv (hv : σ[i]? = some (some v)) (hC : ∀ m, (C m).Perm (rootS G.K N (.ls tk) v (get m) :: Z m)) (hi : EV G tb σ L C E2) : PLs G (tOp (rIx G.K) (tVar i) tb) σ L C Z N (.ls tk) v get tk (bd E2 fun x => ixP get [] x) := by
  intro m F L' H Q p0 m3 e s w q
  obtain ⟨x, m2, e2, e⟩ := ok_inv e
  refine ⟨v, hv, hi m F L' H _ s w (fun x' m2' iv H2 e2' w2 => ?_) (by rw [e2]; exact bk_ok)⟩
  rw [e2] at e2'; cases e2'
  obtain ⟨k, n, rfl, hx, ex⟩ := ixP_nb (r := get m2) rfl (by rw [e]; intro z; cases z)
  rw [ex] at e; cases e
  have hiv : iv = .int k := by
    obtain ⟨B, wb⟩ := w2
    exact (wb.ft _ (.head _)).int_inv
  subst hiv
  obtain ⟨y, hy⟩ := ixD_kid hx
  have w3 := Wd.hole0S (w2.perm ((hC m3).append_right F))
  have w4 : Wd G.K G.O ((V.int k, PyData.int k) :: L') (rootS G.K N (.ls tk) v (get m3) :: rootH G.K N (.ls tk) v (.ls tk) v (setP (get m3) []) [] :: (Z m3 ++ F)) H2 := by rw [setP_nil]; exact w3
  obtain ⟨u2, g2, hN, hg2, w5⟩ := Wd.downS (p := []) w4 rfl (n := n) (tk := tk) rfl hy
  exact ix_of (x := y) (tm := .ls tk) (tk := tk) hx rfl rfl hN (q u2 g2 y H2 hg2 (w5.sub fun f hf => .tail _ hf))
/-- the whole again -/
theorem Wd.backS {K : PySem.W.Frag} {O : Og} {Z : List Root} {H : Hp} {p : List Nat} {r d0 : D} {g : List Addr} (w : Wd K O L (rootS K N tk u r :: rootH K N tk u t v (setP d0 p) g :: Z) H) (hg : getP d0 p = some r) : Wd K O L (rootS K N t v d0 :: Z) H := by
  have := Wd.unzoomS w
  rwa [setP_self hg] at this
theorem ev_plfr (hC : ∀ m, (C m).Perm (rootS G.K N t v (get m) :: Z m)) (h : PLs G ta σ L C Z N t v get .fr W) : EV G ta σ L C (bd (nr1 W) fun p => rdP get p) := by
  intro m F L' H Q s w q b
  obtain ⟨p, m1, e1⟩ := nr1_nb b.fst.2
  refine h m F L' H _ p m1 e1 s w (fun u g r H1 eg w1 => ?_)
  replace e1 := nr1_ok e1
  have w2 := Wd.ofFS (N := N) (Wd.toFS w1) (.head _)
  have w3 := Wd.backS w2 eg
  refine q r m1 u H1 ?_ (w3.perm ((hC m1).append_right F).symm)
  rw [bd_ok e1]
  exact rdP_ok eg
theorem ev_pllen {t0 : Ty} (hC : ∀ m, (C m).Perm (rootS G.K N t v (get m) :: Z m)) (h : PLs G ta σ L C Z N t v get (.ls t0) W) : EV G (tCB (fun xs H Q => ∃ x n, xs = [x] ∧ LenV G.K x H n ∧ Q (.int n) H) (tCons ta tNil)) σ L C (bd (nr1 W) fun p => bd (rdP get p) fun r => of (lenD [r])) := by
  intro m F L' H Q s w q b
  obtain ⟨p, m1, e1⟩ := nr1_nb b.fst.2
  refine h m F L' H _ p m1 e1 s w (fun u g r H1 eg w1 => ?_)
  replace e1 := nr1_ok e1
  obtain ⟨B, wb⟩ := id w1
  obtain ⟨f2, ho, _⟩ := wb.rt _ (.head _)
  cases ho with
  | @ls _ p2 vs ds f hp2 hz =>
    refine ⟨.ref p2, vs.length, rfl, .inl ⟨_, SqL.of hp2, rfl⟩, ?_⟩
    rw [hz.len.1]
    have w2 := Wd.backS w1 eg
    refine q (.int ds.length) m1 _ H1 ?_ ((w2.perm (((hC m1).append_right F).symm)).fact fun _ _ => .int _)
    rw [bd_ok e1, bd_ok (rdP_ok eg)]; rfl
/-- whether a list is there, by its truth -/
theorem tv_pltru {t0 : Ty} (hC : ∀ m, (C m).Perm (rootS G.K N t v (get m) :: Z m)) (h : PLs G ta σ L C Z N t v get (.ls t0) W) : TV G (fun σ H Q => ta σ H fun x H' => ∃ k, TruV G.K x H' k ∧ Q k H') σ L C (bd (nr1 W) fun p => bd (rdP get p) fun r => of (truD r)) := by
  intro m F L' H Q s w q b
  obtain ⟨p, m1, e1⟩ := nr1_nb b.fst.2
  refine h m F L' H _ p m1 e1 s w (fun u g r H1 eg w1 => ?_)
  replace e1 := nr1_ok e1
  obtain ⟨B, wb⟩ := id w1
  obtain ⟨f2, ho, _⟩ := wb.rt _ (.head _)
  cases ho with
  | @ls _ p2 vs ds f hp2 hz =>
    have he : vs.isEmpty = ds.isEmpty := by
      have := hz.len.1
      cases vs <;> cases ds <;> simp_all
    refine ⟨!vs.isEmpty, .inl ⟨_, SqL.of hp2, rfl⟩, ?_⟩
    rw [he]
    have w2 := Wd.backS w1 eg
    refine q (!ds.isEmpty) m1 H1 ?_ (w2.perm (((hC m1).append_right F).symm))
    rw [bd_ok e1, bd_ok (rdP_ok eg)]; rfl
/-! what is changed within a tree -/
theorem Wb.swapSub {K : PySem.W.Frag} {O : Og} {B : Addr → Prop} {C C' Z : List Root} {H H' : Hp} (w : Wb K O B L (C ++ Z) H) (hm : ∀ q ∈ fps C' H', q ∈ fps C H) (hnd2 : (fps C' H').Nodup) (hk : ∀ q, q ∉ fps C H → H' q = H q) (hoc : ∀ q ∈ fps C H, ∃ o, H' q = some o) (hr : Kp B H B H' → ∀ c ∈ C', c.P B H') : Wb K O B L (C' ++ Z) H' := by
  have hnd := w.nd
  rw [fps_app] at hnd
  obtain ⟨n1, n2, n3⟩ := List.nodup_append.mp hnd
  have hC : ∀ q ∈ fps C H, q ∈ fps (C ++ Z) H := fun q hq => by rw [fps_app]; exact List.mem_append.mpr (.inl hq)
  have hZ : ∀ q ∈ fps Z H, q ∈ fps (C ++ Z) H := fun q hq => by rw [fps_app]; exact List.mem_append.mpr (.inr hq)
  have k : Kp B H B H' := fun q o b e => ⟨b, by rw [hk q fun z => w.nb q (hC q z) b]; exact e⟩
  have es : fps Z H' = fps Z H := fps_same k (fun c hc => w.rt c (List.mem_append.mpr (.inr hc))) fun q hq => hk q fun z => n3 q z q hq rfl
  have hm2 : ∀ q ∈ fps (C' ++ Z) H', q ∈ fps (C ++ Z) H := fun q hq => by
    rw [fps_app, es] at hq
    rcases List.mem_append.mp hq with e | e
    · exact hC q (hm q e)
    · exact hZ q e
  refine ⟨w.lo, w.hi, ?_, fun q hq => w.nb q (hm2 q hq), fun q hq => w.fr q (hm2 q hq), fun c hc => ?_, fun f hf => Dt.mono k _ _ (w.ft f hf), fun q o hq e => ?_, fun q hq => ?_, fun q b => ?_⟩
  · rw [fps_app, es]
    exact List.nodup_append.mpr ⟨hnd2, n2, fun x hx y hy => n3 x (hm x hx) y hy⟩
  · rcases List.mem_append.mp hc with e | e
    · exact hr k c e
    · refine c.mono k (fun q hq => hk q fun z => n3 q z q (mem_fps e hq) rfl) (w.rt c (List.mem_append.mpr (.inr e)))
  · by_cases z : q ∈ fps C H
    · rcases w.fr q (hC q z) with y | y
      · exact absurd y hq
      · rw [y] at e; cases e
    · rw [hk q z]; exact w.kp q o hq e
  · by_cases z : q ∈ fps C H
    · exact hoc q z
    · rw [hk q z]; exact w.oc q hq
  · rw [hk q fun z => w.nb q (hC q z) b]; exact w.bo q b
/-- a child of a node gets another tree -/
theorem Wd.setNT {K : PySem.W.Frag} {O : Og} {Z : List Root} {H : Hp} {k : Nk} (w : Wd K O L (rootS K N (.nd k ts) v d :: rootS K N tk vy y :: Z) H) (hk : ts[i]? = some tk) : ∃ p o vs, v = .ref p ∧ H p = some o ∧ k.at o vs ∧ i < vs.length ∧ ∀ o', k.at o' (vs.set i vy) → fsetN i d y = some (setkD d i y) ∧ Wd K O L (rootS K N (.nd k ts) v (setkD d i y) :: Z) (upd H p o') := by
  obtain ⟨B, wb⟩ := w
  obtain ⟨f, ho, hn⟩ := wb.rt _ (.head _)
  obtain ⟨fy, hy, hny⟩ := wb.rt _ (.tail _ (.head _))
  cases ho with
  | @nd _ _ p o vs ds f hp ha hz =>
    have hi : i < ds.length := by
      have := (List.getElem?_eq_some_iff.mp hk).1
      rw [hz.len.2] at this; exact this
    have hdi := List.getElem?_eq_getElem hi
    obtain ⟨u, f1, fk, f2, h1, h2, h3, h4⟩ := hz.kid hk hdi
    refine ⟨p, o, vs, rfl, hp, ha, by rw [hz.len.1]; exact hi, fun o' ha' => ⟨by unfold fsetN; rw [kid_nd, hdi], ?_⟩⟩
    have e0 : fps [rootS K N (.nd k ts) (.ref p) (ndD k ds), rootS K N tk vy y] H = (p :: f) ++ fy := by
      rw [fps_two, rootS_fp (.nd hp ha hz), rootS_fp hy]
    have hnd := wb.nd
    rw [show (rootS K N (.nd k ts) (.ref p) (ndD k ds) :: rootS K N tk vy y :: Z) = [rootS K N (.nd k ts) (.ref p) (ndD k ds), rootS K N tk vy y] ++ Z from rfl, fps_app, e0] at hnd
    have hnd1 := (List.nodup_append.mp hnd).1
    have hpn : p ∉ f ∧ p ∉ fy := by
      have := (List.nodup_cons.mp hnd1).1
      exact ⟨fun z => this (List.mem_append.mpr (.inl z)), fun z => this (List.mem_append.mpr (.inr z))⟩
    have hpB : ¬ B p := wb.nb p (by
      rw [show (rootS K N (.nd k ts) (.ref p) (ndD k ds) :: rootS K N tk vy y :: Z) = [rootS K N (.nd k ts) (.ref p) (ndD k ds), rootS K N tk vy y] ++ Z from rfl, fps_app, e0]
      exact List.mem_append.mpr (.inl (.head _)))
    have kk : Kp B H B (upd H p o') := fun q o b e => ⟨b, by rw [upd_ne fun z => hpB (by rw [← z]; exact b)]; exact e⟩
    have hnew : Own K B (upd H p o') (.nd k ts) (.ref p) (setkD (ndD k ds) i y) (p :: (f1 ++ (fy ++ f2))) := by
      rw [setk_nd]
      refine .nd upd_same ha' ?_
      have h5 := h4 B (upd H p o') tk vy y fy kk (fun q hq => upd_ne fun z => hpn.1 (by
        rw [h3, ← z]
        rcases List.mem_append.mp hq with z | z
        · exact List.mem_append.mpr (.inl z)
        · exact List.mem_append.mpr (.inr (List.mem_append.mpr (.inr z))))) (hy.mono kk fun q hq => upd_ne fun z => hpn.2 (by rw [← z]; exact hq))
      rw [set_self hk] at h5
      exact h5
    have hsub : ∀ q ∈ p :: (f1 ++ (fy ++ f2)), q ∈ (p :: f) ++ fy := fun q hq => by
      rcases List.mem_cons.mp hq with z | z
      · rw [z]; exact .head _
      · rcases List.mem_append.mp z with z | z
        · exact .tail _ (List.mem_append.mpr (.inl (by rw [h3]; exact List.mem_append.mpr (.inl z))))
        · rcases List.mem_append.mp z with z | z
          · exact .tail _ (List.mem_append.mpr (.inr z))
          · exact .tail _ (List.mem_append.mpr (.inl (by rw [h3]; exact List.mem_append.mpr (.inr (List.mem_append.mpr (.inr z))))))
    refine ⟨B, Wb.swapSub (C := [rootS K N (.nd k ts) (.ref p) (ndD k ds), rootS K N tk vy y]) (C' := [rootS K N (.nd k ts) (.ref p) (setkD (ndD k ds) i y)]) wb ?_ ?_ ?_ ?_ ?_⟩
    · intro q hq
      rw [fps_one, rootS_fp hnew] at hq
      rw [e0]
      exact hsub q hq
    · rw [fps_one, rootS_fp hnew]
      have hn3 : (p :: (f1 ++ (fk ++ f2)) ++ fy).Nodup := by rw [← h3]; exact hnd1
      refine List.nodup_cons.mpr ⟨fun z => ?_, ?_⟩
      · have := hsub p (.tail _ z)
        rcases List.mem_append.mp z with z | z
        · exact hpn.1 (by rw [h3]; exact List.mem_append.mpr (.inl z))
        · rcases List.mem_append.mp z with z | z
          · exact hpn.2 z
          · exact hpn.1 (by rw [h3]; exact List.mem_append.mpr (.inr (List.mem_append.mpr (.inr z))))
      · have hn4 := (List.nodup_cons.mp hn3).2
        have hs : (f1 ++ (f2 ++ fy)).Sublist (f1 ++ (fk ++ f2) ++ fy) := by
          rw [List.append_assoc, List.append_assoc]
          exact List.Sublist.append (List.Sublist.refl _) (List.sublist_append_right _ _)
        exact (List.Perm.append_left f1 List.perm_append_comm).nodup_iff.mp (hs.nodup hn4)
    · intro q hq
      rw [e0] at hq
      exact upd_ne fun z => hq (by rw [z]; exact .head _)
    · intro q hq
      by_cases z : q = p
      · rw [z]; exact ⟨_, upd_same⟩
      · rw [upd_ne z]
        obtain ⟨c, hc, hq2⟩ := List.mem_flatMap.mp hq
        refine c.occ (wb.rt c ?_) q hq2
        rcases mem2 hc with e | e
        · rw [e]; exact .head _
        · rw [e]; exact .tail _ (.head _)
    · intro _ c hc
      rw [mem1 hc]
      refine ⟨_, hnew, fun q hq => ?_⟩
      rcases List.mem_append.mp (hsub q hq) with z | z
      · exact hn q z
      · exact hny q z
/-- a tree behind those of a list -/
theorem OwnZ.snoc {K : PySem.W.Frag} {B : Addr → Prop} {H : Hp} {fu : List Addr} : ∀ {ts : List Ty} {vs : List V} {ds : List D} {f : List Addr}, OwnZ K B H ts vs ds f → Own K B H t u y fu → OwnZ K B H (ts ++ [t]) (vs ++ [u]) (ds ++ [y]) (f ++ fu)
  | [], _, _, _, h, o => by
    cases h
    have := OwnZ.cons (K := K) o .nil
    rw [List.append_nil] at this
    exact this
  | _ :: _, _, _, _, h, o => by
    cases h with
    | cons a b =>
      rw [List.append_assoc]
      exact .cons a (OwnZ.snoc b o)
theorem Wd.appT {K : PySem.W.Frag} {O : Og} {Z : List Root} {H : Hp} (w : Wd K O L (rootS K N (.ls t) v d :: rootS K N t vy y :: Z) H) : ∃ p vs ds, v = .ref p ∧ d = .list ds ∧ H p = some (.lst vs) ∧ vs.length = ds.length ∧ Wd K O L (rootS K N (.ls t) v (.list (ds ++ [y])) :: Z) (upd H p (.lst (vs ++ [vy]))) := by
  obtain ⟨B, wb⟩ := w
  obtain ⟨f, ho, hn⟩ := wb.rt _ (.head _)
  obtain ⟨fy, hy, hny⟩ := wb.rt _ (.tail _ (.head _))
  cases ho with
  | @ls _ p vs ds f hp hz =>
    refine ⟨p, vs, ds, rfl, rfl, hp, hz.len.1, ?_⟩
    have e0 : fps [rootS K N (.ls t) (.ref p) (.list ds), rootS K N t vy y] H = (p :: f) ++ fy := by
      rw [fps_two, rootS_fp (.ls hp hz), rootS_fp hy]
    have hnd := wb.nd
    rw [show (rootS K N (.ls t) (.ref p) (.list ds) :: rootS K N t vy y :: Z) = [rootS K N (.ls t) (.ref p) (.list ds), rootS K N t vy y] ++ Z from rfl, fps_app, e0] at hnd
    have hnd1 := (List.nodup_append.mp hnd).1
    have hpn : p ∉ f ++ fy := (List.nodup_cons.mp hnd1).1
    have hpB : ¬ B p := wb.nb p (by
      rw [show (rootS K N (.ls t) (.ref p) (.list ds) :: rootS K N t vy y :: Z) = [rootS K N (.ls t) (.ref p) (.list ds), rootS K N t vy y] ++ Z from rfl, fps_app, e0]
      exact List.mem_append.mpr (.inl (.head _)))
    have kk : Kp B H B (upd H p (.lst (vs ++ [vy]))) := fun q o b e => ⟨b, by rw [upd_ne fun z => hpB (by rw [← z]; exact b)]; exact e⟩
    have hnew : Own K B (upd H p (.lst (vs ++ [vy]))) (.ls t) (.ref p) (.list (ds ++ [y])) (p :: (f ++ fy)) := by
      refine .ls upd_same ?_
      rw [List.length_append, List.length_singleton, List.replicate_succ']
      exact (hz.mono kk fun q hq => upd_ne fun z => hpn (by rw [← z]; exact List.mem_append.mpr (.inl hq))).snoc (hy.mono kk fun q hq => upd_ne fun z => hpn (by rw [← z]; exact List.mem_append.mpr (.inr hq)))
    refine ⟨B, Wb.swapSub (C := [rootS K N (.ls t) (.ref p) (.list ds), rootS K N t vy y]) (C' := [rootS K N (.ls t) (.ref p) (.list (ds ++ [y]))]) wb ?_ ?_ ?_ ?_ ?_⟩
    · intro q hq
      rw [fps_one, rootS_fp hnew] at hq
      rw [e0]
      exact hq
    · rw [fps_one, rootS_fp hnew]
      exact hnd1
    · intro q hq
      rw [e0] at hq
      exact upd_ne fun z => hq (by rw [z]; exact .head _)
    · intro q hq
      by_cases z : q = p
      · rw [z]; exact ⟨_, upd_same⟩
      · rw [upd_ne z]
        obtain ⟨c, hc, hq2⟩ := List.mem_flatMap.mp hq
        refine c.occ (wb.rt c ?_) q hq2
        rcases mem2 hc with e | e
        · rw [e]; exact .head _
        · rw [e]; exact .tail _ (.head _)
    · intro _ c hc
      rw [mem1 hc]
      refine ⟨_, hnew, fun q hq => ?_⟩
      rcases List.mem_append.mp (show q ∈ (p :: f) ++ fy from hq) with z | z
      · exact hn q z
      · exact hny q z
end
/-! ### statements over trees of the state (S) -/
namespace SM
variable {μ : Type}
def getG (get : μ → D) : SM μ D := fun m => .ok (get m) m
def putG (put : D → μ → μ) (x : D) : SM μ Unit := fun m => .ok () (put x m)
/-- data that holds no list -/
def lfr : D → Bool
  | .none => true
  | .bool _ => true
  | .int _ => true
  | .str _ => true
  | .tuple ds => lfrA ds
  | _ => false
where lfrA : List D → Bool
  | [] => true
  | d :: ds => lfr d && lfrA ds
end SM
section
variable {K : PySem.W.Frag} {O : Og} {L : List (V × D)} {C C' Z : List Root} {B B' : Addr → Prop} {H H' : Hp} {N : Addr → Prop} {t tk : Ty} {ts : List Ty} {v u vy : V} {d dk y : D} {vs : List V} {ds : List D} {f g : List Addr} {p : Addr} {i n : Nat}
theorem own_lsfr : Own K B H (.ls .fr) v d f ↔ ∃ p ds vs, v = .ref p ∧ d = .list ds ∧ f = [p] ∧ H p = some (.lst vs) ∧ DtAll K B H vs ds := by
  have zf : ∀ {vs : List V} {ds : List D} {f : List Addr}, OwnZ K B H (List.replicate ds.length .fr) vs ds f → f = [] ∧ DtAll K B H vs ds := by
    intro vs ds
    induction ds generalizing vs with
    | nil => intro f h; cases h; exact ⟨rfl, .nil⟩
    | cons x xs ih =>
      intro f h
      rw [List.length_cons, List.replicate_succ] at h
      cases h with
      | cons a b =>
        obtain ⟨e1, e2⟩ := ih b
        cases a with
        | fr a => exact ⟨by rw [e1]; rfl, .cons a e2⟩
  have fz : ∀ {vs : List V} {ds : List D}, DtAll K B H vs ds → OwnZ K B H (List.replicate ds.length .fr) vs ds [] := by
    intro vs ds h
    induction ds generalizing vs with
    | nil => cases h; exact .nil
    | cons x xs ih =>
      cases h with
      | cons a b =>
        rw [List.length_cons, List.replicate_succ]
        exact .cons (f := []) (.fr a) (ih b)
  constructor
  · intro h
    cases h with
    | ls hp hz =>
      obtain ⟨e1, e2⟩ := zf hz
      exact ⟨_, _, _, rfl, rfl, by rw [e1], hp, e2⟩
  · rintro ⟨p, ds, vs, rfl, rfl, rfl, hp, ha⟩
    exact .ls hp (fz ha)
theorem Wd.ofLS (w : Wd K O L (rootL K p d :: Z) H) (hN : N p) : Wd K O L (rootS K N (.ls .fr) (.ref p) d :: Z) H := by
  refine Wd.imp (C := [rootL K p d]) w fun B _ hr => ?_
  obtain ⟨ds, vs, rfl, h1, h2⟩ := hr _ (.head _)
  have ho : Own K B H (.ls .fr) (.ref p) (.list ds) [p] := own_lsfr.mpr ⟨p, ds, vs, rfl, rfl, rfl, h1, h2⟩
  refine ⟨[rootS K N (.ls .fr) (.ref p) (.list ds)], ?_, fun c hc => ?_, fun w' => w'⟩
  · rw [fps_one, fps_one, rootS_fp ho]; exact .refl _
  · rw [mem1 hc]; exact ⟨[p], ho, fun q hq => by rw [List.mem_singleton.mp hq]; exact hN⟩
theorem Wd.toLS (w : Wd K O L (rootS K N (.ls .fr) v d :: Z) H) : ∃ p, v = .ref p ∧ N p ∧ Wd K O L (rootL K p d :: Z) H := by
  refine Wd.imp (C := [rootS K N (.ls .fr) v d]) w fun B _ hr => ?_
  obtain ⟨f, ho, hn⟩ := hr _ (.head _)
  obtain ⟨p, ds, vs, rfl, rfl, rfl, h1, h2⟩ := own_lsfr.mp ho
  refine ⟨[rootL K p (.list ds)], ?_, fun c hc => ?_, fun w' => ⟨p, rfl, hn p (.head _), w'⟩⟩
  · rw [fps_one, fps_one, rootS_fp ho]; exact .refl _
  · rw [mem1 hc]; exact ⟨ds, vs, rfl, h1, h2⟩
/-- a new tree of plain data is frozen -/
theorem Wd.freezeS (w : Wd K O L (rootS K (fun q => q ∉ O.fp) t v d :: C) H) (ht : t.dat = true) : Wd K O ((v, d) :: L) C H := by
  obtain ⟨B, w⟩ := w
  obtain ⟨f, ho, ha⟩ := w.rt _ (.head _)
  have hnd := w.nd
  rw [fps_cons, rootS_fp ho] at hnd
  obtain ⟨n1, n2, n3⟩ := List.nodup_append.mp hnd
  have inF : ∀ p ∈ f, p ∈ fps (rootS K (fun q => q ∉ O.fp) t v d :: C) H := fun p hp => by rw [fps_cons, rootS_fp ho]; exact List.mem_append.mpr (.inl hp)
  have inC : ∀ p ∈ fps C H, p ∈ fps (rootS K (fun q => q ∉ O.fp) t v d :: C) H := fun p hp => by rw [fps_cons]; exact List.mem_append.mpr (.inr hp)
  have k : Kp B H (fun q => B q ∨ q ∈ f) H := fun q o b e => ⟨.inl b, e⟩
  have w2 : Wb K O (fun q => B q ∨ q ∈ f) L C H := by
    refine ⟨fun p b => .inl (w.lo p b), fun p b => ?_, n2, fun p hq b => ?_, fun p hq => w.fr p (inC p hq), fun c hc => c.mono k (fun _ _ => rfl) (w.rt c (.tail _ hc)), fun f hf => Dt.mono k _ _ (w.ft f hf), w.kp, w.oc, fun p b => ?_⟩
    · rcases b with b | e
      · exact w.hi p b
      · exact .inr ((w.fr p (inF p e)).resolve_left (ha p e))
    · rcases b with b | e
      · exact w.nb p (inC p hq) b
      · exact n3 p e p hq rfl
    · rcases b with b | e
      · exact w.bo p b
      · obtain ⟨o, h1, _⟩ := ho.occ p e
        exact ⟨o, h1⟩
  exact ⟨_, w2.fact (ho.dt' (fun q b => .inl b) ht fun q hq => .inr hq)⟩
theorem rc_put : ∀ {ks : List Str} {vs : List V} {i : Nat} {nm : Str} {v : V}, ks.Nodup → ks[i]? = some nm → i < vs.length → putK ((ks.map Sum.inr).zip vs : List (Key × V)) (Sum.inr nm) v = (ks.map Sum.inr).zip (vs.set i v) := by
  intro ks vs i nm v hn hi hl
  have hany : ∀ {ks : List Str} {vs : List V} {i : Nat}, ks[i]? = some nm → i < vs.length → (((ks.map Sum.inr).zip vs : List (Key × V)).any fun kv => decide (kv.1 = Sum.inr nm)) = true := by
    intro ks vs i h1 h2
    refine List.any_eq_true.mpr ⟨(Sum.inr nm, vs[i]), ?_, by simp⟩
    have : (((ks.map Sum.inr).zip vs : List (Key × V)))[i]? = some (Sum.inr nm, vs[i]) := by
      rw [List.getElem?_zip_eq_some]
      exact ⟨by rw [List.getElem?_map, h1]; rfl, List.getElem?_eq_getElem h2⟩
    exact List.mem_of_getElem? this
  unfold putK
  rw [hany hi hl]
  simp only [if_true]
  clear hany
  induction ks generalizing vs i with
  | nil => cases hi
  | cons k ks ih =>
    cases vs with
    | nil => cases hl
    | cons w vs =>
      have n2 := List.nodup_cons.mp hn
      cases i with
      | zero =>
        have hi' : k = nm := by simpa using hi
        subst hi'
        rw [List.map_cons, List.zip_cons_cons, List.map_cons, List.set_cons_zero, List.zip_cons_cons]
        refine List.cons_eq_cons.mpr ⟨by simp, ?_⟩
        refine (List.map_congr_left fun x hx => ?_).trans (List.map_id _)
        have hx1 : x.1 ∈ (ks.map Sum.inr : List Key) := (List.of_mem_zip hx).1
        have ne : ¬ x.1 = Sum.inr k := fun z => by
          rw [z] at hx1
          obtain ⟨k', hk', e⟩ := List.mem_map.mp hx1
          injection e with e
          exact n2.1 (e ▸ hk')
        simp [ne]
      | succ i =>
        have ne : ¬ ((Sum.inr k : Key) = Sum.inr nm) := fun z => n2.1 (by
          injection z with z
          rw [z]; exact List.mem_of_getElem? (show ks[i]? = some nm from hi))
        rw [List.map_cons, List.zip_cons_cons, List.map_cons, List.set_cons_succ, List.zip_cons_cons]
        refine List.cons_eq_cons.mpr ⟨by simp [ne], ?_⟩
        exact ih n2.2 hi (by simpa using hl)
/-- an item of a list gets another tree -/
theorem Wd.lsetT (w : Wd K O L (rootS K N (.ls tk) v d :: rootS K N tk vy y :: Z) H) : ∃ p vs ds, v = .ref p ∧ d = .list ds ∧ H p = some (.lst vs) ∧ vs.length = ds.length ∧ ∀ i, i < ds.length → Wd K O L (rootS K N (.ls tk) v (.list (ds.set i y)) :: Z) (upd H p (.lst (vs.set i vy))) := by
  -- a list as a node
  have w2 : ∃ n, Wd K O L (rootS K N (.nd .lst (List.replicate n tk)) v d :: rootS K N tk vy y :: Z) H ∧ ∃ ds, d = .list ds ∧ ds.length = n := by
    refine Wd.imp (C := [rootS K N (.ls tk) v d]) w fun B _ hr => ?_
    obtain ⟨f, ho, hn⟩ := hr _ (.head _)
    cases ho with
    | @ls _ p vs ds f hp hz =>
      have ho2 : Own K B H (.nd .lst (List.replicate ds.length tk)) (.ref p) (.list ds) (p :: f) := Own.nd (k := .lst) hp rfl hz
      refine ⟨[rootS K N (.nd .lst (List.replicate ds.length tk)) (.ref p) (.list ds)], ?_, fun c hc => ?_, fun w' => ⟨ds.length, w', ds, rfl, rfl⟩⟩
      · rw [fps_one, fps_one, rootS_fp ho2, rootS_fp (.ls hp hz)]
      · rw [mem1 hc]; exact ⟨_, ho2, hn⟩
  obtain ⟨n, w2, ds, rfl, hl⟩ := w2
  have hv : ∃ p vs, v = .ref p ∧ H p = some (.lst vs) ∧ vs.length = ds.length := by
    obtain ⟨B, wb⟩ := w
    obtain ⟨f, ho, hn⟩ := wb.rt _ (.head _)
    cases ho with
    | @ls _ p vs ds f hp hz => exact ⟨p, vs, rfl, hp, hz.len.1⟩
  obtain ⟨p, vs, rfl, hp, hlv⟩ := hv
  refine ⟨p, vs, ds, rfl, rfl, hp, hlv, fun i hi => ?_⟩
  obtain ⟨p', o, vs', e1, h2, h3, h4, h5⟩ := Wd.setNT (i := i) (k := .lst) w2 (by rw [List.getElem?_replicate, if_pos (by omega)])
  cases e1
  rw [hp] at h2; cases h2
  cases h3
  obtain ⟨_, w3⟩ := h5 (.lst (vs.set i vy)) rfl
  refine Wd.imp (C := [rootS K N (.nd .lst (List.replicate n tk)) (.ref p) (setkD (.list ds) i y)]) w3 fun B _ hr => ?_
  obtain ⟨f, ho, hn⟩ := hr _ (.head _)
  have ho2 : Own K B (upd H p (.lst (vs.set i vy))) (.ls tk) (.ref p) (.list (ds.set i y)) f := by
    generalize e : setkD (.list ds) i y = d' at ho
    have e' : (.list (ds.set i y) : D) = d' := e
    cases ho with
    | @nd _ _ _ o vs' ds' f hp' ha' hz' =>
      injection e' with e'
      subst e'
      cases ha'
      refine .ls hp' ?_
      rw [List.length_set, hl]
      exact hz'
  refine ⟨[rootS K N (.ls tk) (.ref p) (.list (ds.set i y))], ?_, fun c hc => ?_, fun w' => w'⟩
  · rw [fps_one, fps_one, rootS_fp ho, rootS_fp ho2]
  · rw [mem1 hc]; exact ⟨_, ho2, hn⟩
end
/-- what is returned: a new tree -/
def rfS (K : PySem.W.Frag) (O : Og) (t : Ty) : V → D → List (V × D) → List Root → Prop := fun v x L1 C1 => L1 = [] ∧ C1 = [rootS K (fun q => q ∉ O.fp) t v x]
section
open SM
variable {X : Cx} {μ τ τ' ρ : Type} {G : Gx} {σ : St} {L : List (V × D)} {C C' C1 C2 Cp Z Z1 : μ → List Root} {te ta tb tc ti : TE} {tt tu : TT} {s0 t1 u1 : TS} {E E1 E2 E3 : SM μ D} {Jn : Shp μ τ} {Jl : Shp μ ρ} {i j n : Nat} {v u vy : V} {x d y : D} {t tk tm : Ty} {W : SM μ (List Nat)} {N N' : Addr → Prop} {get : μ → D} {put : D → μ → μ} {Ca : Addr} {ns : List Str} {ts : List Ty} {nm : Str}
/-! trees made -/
theorem fts_fr (h : EV G te σ L C E) : FTs G N te σ L C C .fr E := fun m F L' H Q s w q b => h m F L' H Q s w (fun x m1 v H1 e1 w1 => q x m1 v H1 e1 ((Wd.ofFS w1 (.head _)).sub fun f hf => .tail _ hf)) b
theorem fts_fv (h : FV G te σ L C E) : FTs G (nw G) te σ L C C (.ls .fr) E := fun m F L' H Q s w q b => h m F L' H Q s w (fun x m1 p H1 e1 hp w1 => q x m1 (.ref p) H1 e1 (Wd.ofLS (w1.perm List.perm_middle) hp)) b
theorem fts_weak (h : FTs G N te σ L C C1 t E) (hN : ∀ q, N q → N' q) : FTs G N' te σ L C C1 t E := fun m F L' H Q s w q b => h m F L' H Q s w (fun x m1 v H1 e1 w1 => q x m1 v H1 e1 (Wd.weakS w1 hN)) b
theorem fts_drop (h : FTs G N te σ L C C1 t E) (hs : Sub C2 C1) : FTs G N te σ L C C2 t E := fun m F L' H Q s w q b => h m F L' H Q s w (fun x m1 v H1 e1 w1 => q x m1 v H1 e1 (w1.subC (List.Sublist.cons₂ _ ((hs m1).append_right F)))) (b.subC hs)
theorem fts_mv (hv : σ[i]? = some (some v)) (hC : ∀ m, (C m).Perm (rootS G.K N t v (get m) :: Z m)) : FTs G N (tVar i) σ L C Z t (getG get) := fun m F L' H Q s w q _ => ⟨v, hv, q (get m) m v H rfl (w.perm ((hC m).append_right F))⟩
theorem Wd.opS {K : PySem.W.Frag} {O : Og} {Z : List Root} {H : Hp} (w : Wd K O L (rootS K N t v d :: Z) H) : Wd K O L (rootS K N (.op t) v d :: Z) H := by
  refine Wd.imp (C := [rootS K N t v d]) w fun B _ hr => ?_
  obtain ⟨f, ho, hn⟩ := hr _ (.head _)
  refine ⟨[rootS K N (.op t) v d], ?_, fun c hc => by rw [mem1 hc]; exact ⟨f, .som ho, hn⟩, fun w' => w'⟩
  rw [fps_one, fps_one, rootS_fp ho, rootS_fp (.som ho)]
theorem fts_op (h : FTs G N te σ L C C1 t E) : FTs G N te σ L C C1 (.op t) E := fun m F L' H Q s w q b => h m F L' H Q s w (fun x m1 v H1 e1 w1 => q x m1 v H1 e1 (Wd.opS w1)) b
theorem fts_if {T : SM μ Bool} (hs : Sub C1 C) (h : TV G tt σ L C T) (h1 : FTs G N ta σ L C C1 t E1) (h2 : FTs G N tb σ L C C1 t E2) : FTs G N (tIf tt ta tb) σ L C C1 t (eif T E1 E2) := by
  intro m F L' H Q s w q b
  refine h m F L' H _ s w (fun c m1 H1 e1 w1 => ?_) (b.fst.subC hs)
  have b1 := b.snd e1
  have er : eif T E1 E2 m = (if c then E1 else E2) m1 := bd_ok e1
  cases c with
  | true => exact h1 m1 F L' H1 Q s w1 (fun y m2 v H2 e2 w3 => q y m2 v H2 (er.trans e2) w3) b1
  | false => exact h2 m1 F L' H1 Q s w1 (fun y m2 v H2 e2 w3 => q y m2 v H2 (er.trans e2) w3) b1
theorem ev_fts (ht : t.dat = true) (h : FTs G (nw G) te σ L C C t E) : EV G te σ L C E := fun m F L' H Q s w q b => h m F L' H Q s w (fun x m1 v H1 e1 w1 => q x m1 v H1 e1 (Wd.freezeS w1 ht)) b
/-- list(P), P a list of frozen things -/
theorem fts_listpl (hC : ∀ m, (C m).Perm (rootS G.K N t v (get m) :: Z m)) (h : PLs G ta σ L C Z N t v get (.ls .fr) W) : FTs G (nw G) (tCB (fun xs H Q => ∃ p ys, xs = [.ref p] ∧ (SqL G.K H p ys ∨ SqT G.K H p ys) ∧ ∀ l, H l = none → Q (.ref l) (upd H l (.lst ys))) (tCons ta tNil)) σ L C C (.ls .fr) (bd (nr1 W) fun p => bd (rdP get p) fun r => of (listD [r])) := by
  intro m F L' H Q s w q b
  obtain ⟨p, m1, e1⟩ := nr1_nb b.fst.2
  refine h m F L' H _ p m1 e1 s w (fun u g r H1 eg w1 => ?_)
  replace e1 := nr1_ok e1
  obtain ⟨B, wb⟩ := Wd.backS w1 eg |>.perm (((hC m1).append_right F).symm)
  obtain ⟨B1, wb1⟩ := id w1
  obtain ⟨f2, ho, _⟩ := wb1.rt _ (.head _)
  obtain ⟨p2, ds, vs, rfl, rfl, rfl, hp2, hd⟩ := own_lsfr.mp ho
  refine ⟨p2, vs, rfl, .inl (SqL.of hp2), fun l hl => ?_⟩
  have wb2 := wb1
  have w2 : Wd G.K G.O L' (rootL G.K l (.list ds) :: (rootS G.K N (.ls .fr) (.ref p2) (.list ds) :: rootH G.K N (.ls .fr) (.ref p2) t v (setP (get m1) p) g :: (Z m1 ++ F))) (upd H1 l (.lst vs)) := Wb.rootD wb1 hl hd
  have w3 := Wd.ofLS (N := nw G) w2 (wb1.nofp hl)
  have w4 := (w3.perm (C' := rootS G.K N (.ls .fr) (.ref p2) (.list ds) :: rootH G.K N (.ls .fr) (.ref p2) t v (setP (get m1) p) g :: rootS G.K (nw G) (.ls .fr) (.ref l) (.list ds) :: (Z m1 ++ F)) ((List.Perm.swap _ _ _).trans (List.Perm.cons _ (List.Perm.swap _ _ _))))
  have w5 := Wd.backS w4 eg
  have w6 := w5.perm (C' := rootS G.K (nw G) (.ls .fr) (.ref l) (.list ds) :: (C m1 ++ F)) ((List.Perm.swap _ _ _).trans (List.Perm.cons _ ((hC m1).append_right F).symm))
  refine q (.list ds) m1 (.ref l) _ ?_ w6
  rw [bd_ok e1, bd_ok (rdP_ok eg)]; rfl
/-! statements -/
/-- what is done first, then what follows; what is kept at a refusal -/
theorem sv_bd1 {α : Type} {xx : SM μ α} {k : α → SM μ (Fl τ ρ)}
    (h1 : ∀ m F L' H (d : Ends), (∀ f ∈ L, f ∈ L') → Wd G.K G.O L' (C m ++ F) H →
      (∀ a m' σ' L2 C2 H', xx m = .ok a m' → Wd G.K G.O (L2 ++ L') (C2 m' ++ F) H' → SV G Cp u1 σ' (L2 ++ L) C2 (k a) Jn Jl → u1 d σ' H') → Bk G Cp F L' (xx m) → t1 { d with nx := u1 d } σ H) :
    SV G Cp (tSeq t1 u1) σ L C (bd xx k) Jn Jl := by
  intro m F L' H d s w q1 q2 q3 q4 b
  refine h1 m F L' H d s w (fun a m' σ' L2 C2 H' e1 w1 h2 => ?_) b.fst
  have er : bd xx k m = k a m' := bd_ok e1
  rw [er] at b
  have sb : ∀ {L3 : List (V × D)} {C3 : List Root} {H3 : Hp}, Wd G.K G.O (L3 ++ (L2 ++ L')) C3 H3 → Wd G.K G.O (L3 ++ L') C3 H3 := fun {L3 C3 H3} w3 => w3.sub fun f hf => by
    rcases List.mem_append.mp hf with e | e
    · exact List.mem_append.mpr (.inl e)
    · exact List.mem_append.mpr (.inr (List.mem_append.mpr (.inr e)))
  refine h2 m' F (L2 ++ L') H' d (fun f hf => ?_) w1 (fun z2 m2 σ2 L3 C3 H2 e2 j2 w2 => q1 z2 m2 σ2 L3 C3 H2 (er.trans e2) j2 (sb w2)) (fun z2 m2 σ2 L3 C3 H2 e2 j2 w2 => q2 z2 m2 σ2 L3 C3 H2 (er.trans e2) j2 (sb w2))
    (fun z2 m2 σ2 L3 C3 H2 e2 j2 w2 => q3 z2 m2 σ2 L3 C3 H2 (er.trans e2) j2 (sb w2)) (fun x m2 v H2 L4 C4 e2 r2 w2 => q4 x m2 v H2 L4 C4 (er.trans e2) r2 (sb w2)) (b.mono fun f hf => List.mem_append.mpr (.inr hf))
  rcases List.mem_append.mp hf with e | e
  · exact List.mem_append.mpr (.inl e)
  · exact List.mem_append.mpr (.inr (s f e))
theorem sv_asgS {C2 : V → μ → List Root} {σ' : V → St} {k : SM μ (Fl τ ρ)} (hz : Sub Cp C1) (h : FTs G N te σ L C C1 t E) (hσ : ∀ v, σ.set i (some v) = σ' v) (hC' : ∀ v x m, (rootS G.K N t v x :: C1 m).Perm (C2 v (put x m))) (hk : ∀ v, SV G Cp s0 (σ' v) L (C2 v) k Jn Jl) : SV G Cp (tSeq (tAsg te (gName i)) s0) σ L C (bd (bd E fun x => putG put x) fun _ => k) Jn Jl :=
  sv_bd1 fun m F L' H e s w q b => h m F L' H _ s w (fun x m1 v H1 e1 w1 => by
    show s0 e (σ.set i (some v)) H1
    rw [hσ v]
    refine q () (put x m1) (σ' v) [] (C2 v) H1 ?_ (w1.perm ((hC' v x m1).append_right F)) (hk v)
    rw [bd_ok e1]; rfl) (b.fst.subC hz)
/-- a tree that is read for good becomes a fact -/
theorem sv_frzS {k : D → SM μ (Fl τ ρ)} (hC : ∀ m, (C m).Perm (rootS G.K (nw G) t v (get m) :: C' m)) (ht : t.dat = true) (h : ∀ d, SV G Cp s0 σ ((v, d) :: L) C' (k d) Jn Jl) : SV G Cp s0 σ L C (bd (getG get) k) Jn Jl := by
  intro m F L' H e s w q1 q2 q3 q4 bk
  exact sv_more (L1 := [(v, get m)]) (h (get m)) s (Wd.freezeS (w.perm ((hC m).append_right F)) ht) q1 q2 q3 q4 bk
theorem sv_exprS {k : SM μ (Fl τ ρ)} (hz : Sub Cp C1) (h : FTs G N te σ L C C1 t E) (hk : SV G Cp s0 σ L C1 k Jn Jl) : SV G Cp (tSeq (tDrop te) s0) σ L C (bd E fun _ => k) Jn Jl :=
  sv_bd1 fun m F L' H d s w q b => h m F L' H _ s w (fun x m1 v H1 e1 w1 => q x m1 σ [] C1 H1 e1 (w1.subC (List.sublist_cons_self _ _)) hk) (b.subC hz)
theorem sv_retS (hz : Sub Cp C1) (h : FTs G (nw G) te σ L C C1 t E) (hf : G.rf = rfS G.K G.O t := by rfl) : SV G Cp (tSeq (tRet te) s0) σ L C (bd E fun x => pu (.rt x)) Jn Jl := by
  intro m F L' H d s w _ _ _ q b
  refine h m F L' H _ s w (fun x m1 v H1 e1 w1 => q x m1 v H1 [] [rootS G.K (nw G) t v x] ?_ (by rw [hf]; exact ⟨rfl, rfl⟩) ?_) (b.fst.subC hz)
  · rw [bd_ok e1]; rfl
  · exact w1.subC (List.Sublist.cons₂ _ ((hz m1).append_right F))
theorem sv_retNS (hc : Sub Cp C) (hf : G.rf = rfS G.K G.O .fr := by rfl) : SV G Cp (tSeq tRetN s0) σ L C (pu (.rt .none)) Jn Jl := by
  intro m F L' H d s w _ _ _ q b
  exact q .none m .non H [] [rootS G.K (nw G) .fr .non .none] rfl (by rw [hf]; exact ⟨rfl, rfl⟩) ((((Wd.fact w (v := .non) (d := .none) fun _ _ => .non).ofFS (.head _)).sub fun f hf => .tail _ hf).subC (List.Sublist.cons₂ _ ((hc m).append_right F)))
/-- P.f = e -/
theorem sv_fsetS {k : SM μ (Fl τ ρ)} (hz : Sub Cp C1) (h0 : FTs G N te σ L C C1 tk E1) (h1 : PLs G ta σ L C1 Z N t v get (.nd (.obj Ca ns) ts) W) (c : Cls G.K Ca) (n0 : NoAttr G.K Ca nm) (hn : ns.Nodup) (hi : ns[i]? = some nm) (hl : ns.length < 1000) (hk : ts[i]? = some tk) (hC' : ∀ m d, (rootS G.K N t v d :: Z m).Perm (C2 (put d m)))
    (hk2 : SV G Cp s0 σ L C2 k Jn Jl) : SV G Cp (tSeq (sFld G.K ta te nm) s0) σ L C (bd (bd E1 fun y => bd (nr1 W) fun p => mdP get put p fun r => fsetN i r y) fun _ => k) Jn Jl := by
  refine sv_bd1 fun m F L' H e s w q b => ?_
  refine h0 m F L' H _ s w (fun y m1 vy H1 e1 w1 => ?_) (b.fst.subC hz)
  have b1 := b.snd e1
  obtain ⟨p, m2, e2⟩ := nr1_nb b1.fst.2
  refine h1 m1 (rootS G.K N tk vy y :: F) L' H1 _ p m2 e2 s (w1.perm List.perm_middle.symm) (fun u g r H2 eg w2 => ?_)
  replace e2 := nr1_ok e2
  have w3 : Wd G.K G.O L' (rootS G.K N (.nd (.obj Ca ns) ts) u r :: rootS G.K N tk vy y :: (rootH G.K N (.nd (.obj Ca ns) ts) u t v (setP (get m2) p) g :: (Z m2 ++ F))) H2 := w2.perm (List.Perm.cons _ ((List.Perm.cons _ List.perm_middle).trans (List.Perm.swap _ _ _)))
  obtain ⟨p', o, vs, rfl, hp, ha, hlt, h5⟩ := Wd.setNT w3 hk
  obtain ⟨hl2, dx, rfl⟩ := id ha
  obtain ⟨ef, w4⟩ := h5 (.ins Ca dx (ns.zip (vs.set i vy))) ⟨by rw [List.length_set]; exact hl2, dx, rfl⟩
  refine ⟨p', Ca, dx, _, rfl, hp, c, n0, zip_lt vs hl, ?_⟩
  rw [zip_put hn hi hlt]
  have w5 := Wd.unzoomS w4
  refine q () _ σ [] C2 _ ?_ (w5.perm ((hC' m2 _).append_right F)) hk2
  rw [bd_ok e1, bd_ok e2]
  exact mdP_ok eg ef
end
section
open SM
variable {X : Cx} {μ τ τ' ρ : Type} {G : Gx} {σ : St} {L : List (V × D)} {C C' C1 C2 Cp Z Z1 : μ → List Root} {te ta tb tc ti : TE} {tt tu : TT} {s0 t1 u1 : TS} {E E1 E2 E3 : SM μ D} {Jn : Shp μ τ} {Jl : Shp μ ρ} {i j n : Nat} {v u vy : V} {x d y : D} {t tk tm : Ty} {W : SM μ (List Nat)} {N N' : Addr → Prop} {get : μ → D} {put : D → μ → μ} {Ca : Addr} {ns : List Str} {ts : List Ty} {nm : Str}
/-- P["k"] = e, P a record -/
theorem sv_ksetS {ks : List Str} {k : SM μ (Fl τ ρ)} (hz : Sub Cp C1) (h0 : FTs G N te σ L C C1 tk E1) (h1 : PLs G ta σ L C1 Z N t v get (.nd (.rc ks) ts) W) (hn : ks.Nodup) (hi : ks[i]? = some nm) (hl : ks.length < 1000) (hk : ts[i]? = some tk) (hC' : ∀ m d, (rootS G.K N t v d :: Z m).Perm (C2 (put d m)))
    (hk2 : SV G Cp s0 σ L C2 k Jn Jl) : SV G Cp (tSeq (sDPut ta (tC (.str nm)) te) s0) σ L C (bd (bd E1 fun y => bd (nr1 W) fun p => mdP get put p fun r => fsetN i r y) fun _ => k) Jn Jl := by
  refine sv_bd1 fun m F L' H e s w q b => ?_
  refine h0 m F L' H _ s w (fun y m1 vy H1 e1 w1 => ?_) (b.fst.subC hz)
  have b1 := b.snd e1
  obtain ⟨p, m2, e2⟩ := nr1_nb b1.fst.2
  refine h1 m1 (rootS G.K N tk vy y :: F) L' H1 _ p m2 e2 s (w1.perm List.perm_middle.symm) (fun u g r H2 eg w2 => ?_)
  replace e2 := nr1_ok e2
  have w3 : Wd G.K G.O L' (rootS G.K N (.nd (.rc ks) ts) u r :: rootS G.K N tk vy y :: (rootH G.K N (.nd (.rc ks) ts) u t v (setP (get m2) p) g :: (Z m2 ++ F))) H2 := w2.perm (List.Perm.cons _ ((List.Perm.cons _ List.perm_middle).trans (List.Perm.swap _ _ _)))
  obtain ⟨p', o, vs, rfl, hp, ha, hlt, h5⟩ := Wd.setNT w3 hk
  obtain ⟨hl2, rfl⟩ := id ha
  obtain ⟨ef, w4⟩ := h5 (.dK ((ks.map Sum.inr).zip (vs.set i vy))) ⟨by rw [List.length_set]; exact hl2, rfl⟩
  refine ⟨p', _, rfl, DPut.k (k := Sum.inr nm) hp (by rw [List.length_zip, List.length_map]; exact Nat.lt_of_le_of_lt (Nat.min_le_left _ _) (Nat.lt_trans hl (by decide))), ?_⟩
  rw [rc_put hn hi hlt]
  have w5 := Wd.unzoomS w4
  refine q () _ σ [] C2 _ ?_ (w5.perm ((hC' m2 _).append_right F)) hk2
  rw [bd_ok e1, bd_ok e2]
  exact mdP_ok eg ef
namespace SM
def setI (x y r : D) : Option D := setD r x y
end SM
/-- P[x] = e, P a list -/
theorem sv_isetS {k : SM μ (Fl τ ρ)} (hz : Sub Cp C1) (h0 : FTs G N te σ L C C1 tk E1) (h1 : PLs G ta σ L C1 Z N t v get (.ls tk) W) (h2 : ∀ C' : μ → List Root, EV G ti σ L C' E2) (hm : ∀ m x m', E2 m = .ok x m' → get m' = get m) (hC' : ∀ m d, (rootS G.K N t v d :: Z m).Perm (C2 (put d m)))
    (hk2 : SV G Cp s0 σ L C2 k Jn Jl) : SV G Cp (tSeq (tAsg te (gSub ta ti rSetL)) s0) σ L C (bd (bd E1 fun y => bd (nr1 W) fun p => bd (nr1 E2) fun x => mdP get put p fun r => setD r x y) fun _ => k) Jn Jl := by
  refine sv_bd1 fun m F L' H e s w q b => ?_
  refine h0 m F L' H _ s w (fun y m1 vy H1 e1 w1 => ?_) (b.fst.subC hz)
  have b1 := b.snd e1
  obtain ⟨p, m2, e2⟩ := nr1_nb b1.fst.2
  refine h1 m1 (rootS G.K N tk vy y :: F) L' H1 _ p m2 e2 s (w1.perm List.perm_middle.symm) (fun u g r H2 eg w2 => ?_)
  replace e2 := nr1_ok e2
  have b2 := b1.snd e2
  obtain ⟨x, m3, e3⟩ := nr1_nb b2.fst.2
  refine h2 (fun m => rootS G.K N (.ls tk) u r :: rootH G.K N (.ls tk) u t v (setP (get m2) p) g :: Z m) m2 (rootS G.K N tk vy y :: F) L' H2 _ s w2 (fun x' m3' vx H3 e3' w3 => ?_) (by rw [e3]; exact bk_ok)
  rw [e3] at e3'; cases e3'
  replace e3 := nr1_ok e3
  have b3 := b2.snd e3
  have eg3 : getP (get m3) p = some r := by
    rw [hm m2 x m3 ?_]; exact eg
    unfold nr1 at e3
    cases e4 : E2 m2 with
    | ok a m' => rw [e4] at e3; exact e3
    | exc a m' => rw [e4] at e3; cases e3
    | bad => rw [e4] at e3; cases e3
  have eg2 : get m3 = get m2 := hm m2 x m3 (by
    unfold nr1 at e3
    cases e4 : E2 m2 with
    | ok a m' => rw [e4] at e3; exact e3
    | exc a m' => rw [e4] at e3; cases e3
    | bad => rw [e4] at e3; cases e3)
  obtain ⟨r', er⟩ := mdP_nb eg3 b3.2
  have w4 : Wd G.K G.O ((vx, x) :: L') (rootS G.K N (.ls tk) u r :: rootS G.K N tk vy y :: (rootH G.K N (.ls tk) u t v (setP (get m2) p) g :: (Z m3 ++ F))) H3 := w3.perm (List.Perm.cons _ ((List.Perm.cons _ List.perm_middle).trans (List.Perm.swap _ _ _)))
  obtain ⟨p', vs, ds, rfl, rfl, hp, hl, h5⟩ := Wd.lsetT w4
  cases x with
  | int c =>
    have hx : vx = .int c := by
      obtain ⟨B, wb⟩ := w3
      exact (wb.ft _ (.head _)).int_inv
    subst hx
    have hset : setD (.list ds) (.int c) y = (match ixN ds.length c with | some j => some (.list (ds.set j y)) | none => none) := rfl
    cases ea : ixN ds.length c with
    | none => rw [hset, ea] at er; cases er
    | some a =>
      rw [hset, ea] at er
      cases er
      have hlt : a < ds.length := by
        have := ixD_kid (r := .list ds) (k := c) (n := a) ea
        obtain ⟨z, hz⟩ := this
        exact (List.getElem?_eq_some_iff.mp (show ds[a]? = some z from hz)).1
      refine ⟨p', vs, c, a, rfl, rfl, hp, by rw [hl]; exact ea, ?_⟩
      have w5 := Wd.unzoomS (h5 a hlt)
      refine q () _ σ [] C2 _ ?_ ((w5.perm ((hC' m3 _).append_right F)).sub fun f hf => .tail _ hf) hk2
      rw [bd_ok e1, bd_ok e2, bd_ok e3, ← eg2]
      exact mdP_ok eg3 (by rw [hset, ea])
  | _ => cases ds <;> cases er
/-- P.append(e) -/
theorem sv_appS {k : SM μ (Fl τ ρ)} (h1 : PLs G ta σ L C Z N t v get (.ls tk) W) (h2 : FTs G N te σ L Z Z1 tk E2) (hm : ∀ m x m', E2 m = .ok x m' → get m' = get m) (hC' : ∀ m d, (rootS G.K N t v d :: Z1 m).Perm (C2 (put d m)))
    (hk2 : SV G Cp s0 σ L C2 k Jn Jl) : SV G Cp (tSeq (tDrop (tBM G.K "list" rAppend ta (tCons te tNil))) s0) σ L C (bd (bd (nr1 W) fun p => bd (nr1 E2) fun y => mdP get put p fun r => appD r y) fun _ => k) Jn Jl := by
  refine sv_bd1 fun m F L' H e s w q b => ?_
  obtain ⟨p, m1, e1⟩ := nr1_nb b.fst.2
  refine h1 m F L' H _ p m1 e1 s w (fun u g r H1 eg w1 => ?_)
  replace e1 := nr1_ok e1
  have b1 := b.snd e1
  obtain ⟨y, m2, e2⟩ := nr1_nb b1.fst.2
  have hl0 : ∃ p2 vs2, u = .ref p2 ∧ H1 p2 = some (.lst vs2) := by
    obtain ⟨B, wb⟩ := w1
    obtain ⟨f, ho, _⟩ := wb.rt _ (.head _)
    cases ho with
    | @ls _ p2 vs ds f hp hz => exact ⟨p2, vs, rfl, hp⟩
  obtain ⟨p2, vs2, rfl, hp2⟩ := hl0
  refine ⟨.inl ⟨rfl, vs2, SqL.of hp2⟩, ?_⟩
  refine h2 m1 (rootS G.K N (.ls tk) (.ref p2) r :: rootH G.K N (.ls tk) (.ref p2) t v (setP (get m1) p) g :: F) L' H1 _ s (w1.perm ((List.Perm.cons _ List.perm_middle.symm).trans List.perm_middle.symm)) (fun y' m2' vy H2 e2' w2 => ?_) (by rw [e2]; exact bk_ok)
  rw [e2] at e2'; cases e2'
  have eg2 : get m2 = get m1 := hm m1 y m2 e2
  replace e2 := nr1_ok e2
  have b2 := b1.snd e2
  have eg3 : getP (get m2) p = some r := by rw [eg2]; exact eg
  obtain ⟨r', er⟩ := mdP_nb eg3 b2.2
  have w3 : Wd G.K G.O L' (rootS G.K N (.ls tk) (.ref p2) r :: rootS G.K N tk vy y :: (rootH G.K N (.ls tk) (.ref p2) t v (setP (get m1) p) g :: (Z1 m2 ++ F))) H2 := by
    refine w2.perm ?_
    refine (List.Perm.cons _ List.perm_middle).trans ((List.Perm.swap _ _ _).trans (List.Perm.cons _ (List.Perm.cons _ List.perm_middle)))
  obtain ⟨p', vs, ds, e5, rfl, hp, hl, w4⟩ := Wd.appT w3
  cases e5
  simp only [appD] at er
  split at er
  · next c =>
    cases er
    refine ⟨p2, vs, vy, rfl, rfl, hp, by rw [hl]; exact c, ?_⟩
    have w5 := Wd.unzoomS w4
    refine q () _ σ [] C2 _ ?_ (w5.perm ((hC' m2 _).append_right F)) hk2
    rw [bd_ok e1, bd_ok e2, ← eg2]
    exact mdP_ok eg3 (by simp only [appD]; rw [if_pos c])
  · cases er
/-- the same, what is put reads the tree, too; x.append(e), x.f.append(e) of a name x -/
theorem getP_one {d r : D} {i : Nat} : getP d [i] = some r ↔ kidD d i = some r := by
  show (match kidD d i with | some x => getP x [] | none => none) = some r ↔ _
  cases kidD d i <;> exact Iff.rfl
/-- x.f op= e -/
theorem sv_faugS {k : SM μ (Fl τ ρ)} {rd : V → V → Hp → VK → Prop} {f : D → D → Option D} (hc : Sub Cp C) (hv : σ[j]? = some (some v)) (hC : ∀ m, (C m).Perm (rootS G.K N (.nd (.obj Ca ns) ts) v (get m) :: Z m)) (hC' : ∀ m d, (rootS G.K N (.nd (.obj Ca ns) ts) v d :: Z m).Perm (C2 (put d m))) (hf : OpS G rd f) (c : Cls G.K Ca) (n0 : NoAttr G.K Ca nm) (hn : ns.Nodup) (hi : ns[i]? = some nm) (hl : ns.length < 1000) (hk : ts[i]? = some .fr) (h : EV G te σ L C E) (hk2 : SV G Cp s0 σ L C2 k Jn Jl) :
    SV G Cp (tSeq (sFldAug G.K (tVar j) te rd nm) s0) σ L C (bd (bd (rdP get [i]) fun o => bd E fun y => bd (of (f o y)) fun z => mdP get put [] fun r => fsetN i r z) fun _ => k) Jn Jl := by
  refine sv_bd1 fun m F L' H e s w q b => ?_
  obtain ⟨o, eo⟩ := rdP_nb b.fst.2
  have b0 := b.snd (rdP_ok eo)
  obtain ⟨v0, dx, p0, vs, rfl, hp0, hv0, w0⟩ : ∃ v0 dx p0 vs, v = .ref p0 ∧ H p0 = some (.ins Ca dx (ns.zip vs)) ∧ vs[i]? = some v0 ∧ Wd G.K G.O ((v0, o) :: L') (C m ++ F) H := by
    obtain ⟨B, wb⟩ := w.perm ((hC m).append_right F)
    obtain ⟨f0, ho, _⟩ := wb.rt _ (.head _)
    generalize hg : get m = d0 at ho eo
    cases ho with
    | @nd _ _ p oo vs ds f1 hp ha hz =>
      obtain ⟨hl2, dx, rfl⟩ := ha
      have hd : ds[i]? = some o := by
        have := getP_one.mp eo
        rwa [kid_nd] at this
      obtain ⟨u, f1, fk, f2, h1, h2, _, _⟩ := hz.kid hk hd
      have hdt : Dt G.K B H u o := by cases h2 with | fr h => exact h
      have w2 : Wd G.K G.O ((u, o) :: L') (rootS G.K N (.nd (.obj Ca ns) ts) (.ref p) (get m) :: Z m ++ F) H := ⟨B, wb.fact hdt⟩
      exact ⟨u, dx, p, vs, rfl, hp, h1, w2.perm ((hC m).append_right F).symm⟩
  refine ⟨.ref p0, hv, p0, Ca, dx, _, v0, rfl, hp0, c, n0, zip_look hn hi hv0, ?_⟩
  refine h m F ((v0, o) :: L') H _ (fun f hf => .tail _ (s f hf)) w0 (fun y m1 vy H1 e1 w1 => ?_) ((b0.fst.subC hc).mono fun f hf => .tail _ hf)
  have b1 := b0.snd e1
  cases ef : f o y with
  | none => rw [ef] at b1; exact absurd rfl b1.2
  | some z =>
    rw [ef] at b1
    refine hf _ _ H1 v0 vy o y z _ w1 (.tail _ (.head _)) (.head _) ef fun vz H2 w2 => ?_
    have b2 := b1.snd (show of (some z) m1 = .ok z m1 from rfl)
    have w3 := w2.perm ((hC m1).append_right F)
    have w4 := (Wd.ofFS (N := N) w3 (.head _)).perm (List.Perm.swap _ _ _)
    obtain ⟨p', oo, vs2, e5, hp, ha, hlt, h5⟩ := Wd.setNT w4 hk
    cases e5
    obtain ⟨hl2, dx2, rfl⟩ := id ha
    obtain ⟨ef2, w5⟩ := h5 (.ins Ca dx2 (ns.zip (vs2.set i vz))) ⟨by rw [List.length_set]; exact hl2, dx2, rfl⟩
    refine ⟨dx2, _, hp, zip_lt vs2 hl, ?_⟩
    rw [zip_put hn hi hlt]
    refine q () _ σ [] C2 _ ?_ ((w5.perm ((hC' m1 _).append_right F)).sub fun f hf => .tail _ (.tail _ (.tail _ hf))) hk2
    rw [bd_ok (rdP_ok eo), bd_ok e1, ef]
    exact mdP_ok (get := get) (put := put) (p := []) (f := fun r => fsetN i r z) rfl ef2
end
/-! ### calls of defs that are handed trees (S) -/
/-- what a call does to the heap: fp may be changed, C' is what is left of it, and what is new -/
structure Fr (H H' : Hp) (B B' : Addr → Prop) (fp : List Addr) (C' : List Root) : Prop where
  kp : ∀ p o, p ∉ fp → H p = some o → H' p = some o
  oc : ∀ p o, H p = some o → ∃ o', H' p = some o'
  lo : ∀ p, B p → B' p
  hi : ∀ p, B' p → B p ∨ (H p = none ∧ ∃ o, H' p = some o)
  nd : (fps C' H').Nodup
  fr : ∀ p ∈ fps C' H', p ∈ fp ∨ H p = none
  nb : ∀ p ∈ fps C' H', ¬ B' p
  rt : ∀ c ∈ C', c.P B' H'
section
variable {K : PySem.W.Frag} {O : Og} {L : List (V × D)} {C C' Z : List Root} {B B' : Addr → Prop} {H H' : Hp} {fp f : List Addr}
theorem Wb.call (w : Wb K O B L (C ++ Z) H) (hp : ∀ p, p ∈ fps C H ↔ p ∈ fp) (r : Fr H H' B B' fp C') : Wb K O B' L (C' ++ Z) H' := by
  have hnd := w.nd
  rw [fps_app] at hnd
  obtain ⟨n1, n2, n3⟩ := List.nodup_append.mp hnd
  have inC : ∀ p, p ∈ fp → p ∈ fps (C ++ Z) H := fun p h => by rw [fps_app]; exact List.mem_append.mpr (.inl ((hp p).mpr h))
  have inZ : ∀ p, p ∈ fps Z H → p ∈ fps (C ++ Z) H := fun p h => by rw [fps_app]; exact List.mem_append.mpr (.inr h)
  have zo : ∀ p, p ∈ fps Z H → ∃ o, H p = some o := fun p h => by
    obtain ⟨c, hc, hq⟩ := List.mem_flatMap.mp h
    exact c.occ (w.rt c (List.mem_append.mpr (.inr hc))) p hq
  have znf : ∀ p, p ∈ fps Z H → p ∉ fp := fun p h z => n3 p ((hp p).mpr z) p h rfl
  have k : Kp B H B' H' := fun p o b e => ⟨r.lo p b, r.kp p o (fun z => w.nb p (inC p z) b) e⟩
  have es : fps Z H' = fps Z H := fps_same k (fun c hc => w.rt c (List.mem_append.mpr (.inr hc))) fun q hq => by
    obtain ⟨o, ho⟩ := zo q hq
    rw [ho, r.kp q o (znf q hq) ho]
  refine ⟨fun p b => r.lo p (w.lo p b), fun p b => ?_, ?_, fun p h => ?_, fun p h => ?_, fun c hc => ?_, fun g hg => Dt.mono k _ _ (w.ft g hg), fun p o hpo e => ?_, fun p h => ?_, fun p b => ?_⟩
  · rcases r.hi p b with z | z
    · exact w.hi p z
    · exact .inr (w.none z.1)
  · rw [fps_app, es]
    refine List.nodup_append.mpr ⟨r.nd, n2, fun p h1 q h2 e => ?_⟩
    subst e
    rcases r.fr p h1 with z | z
    · exact znf p h2 z
    · obtain ⟨o, ho⟩ := zo p h2
      rw [ho] at z; cases z
  · rw [fps_app, es] at h
    rcases List.mem_append.mp h with h | h
    · exact r.nb p h
    · intro b
      rcases r.hi p b with z | z
      · exact w.nb p (inZ p h) z
      · obtain ⟨o, ho⟩ := zo p h
        rw [ho] at z; cases z.1
  · rw [fps_app, es] at h
    rcases List.mem_append.mp h with h | h
    · rcases r.fr p h with z | z
      · exact w.fr p (inC p z)
      · exact .inr (w.none z)
    · exact w.fr p (inZ p h)
  · rcases List.mem_append.mp hc with h | h
    · exact r.rt c h
    · refine c.mono k (fun q hq => ?_) (w.rt c (List.mem_append.mpr (.inr h)))
      have hq2 := mem_fps h hq
      obtain ⟨o, ho⟩ := zo q hq2
      rw [ho, r.kp q o (znf q hq2) ho]
  · have e2 := w.kp p o hpo e
    refine r.kp p o (fun z => ?_) e2
    rcases w.fr p (inC p z) with y | y
    · exact hpo y
    · rw [y] at e; cases e
  · obtain ⟨o, ho⟩ := w.oc p h
    exact r.oc p o ho
  · rcases r.hi p b with z | z
    · obtain ⟨o, ho⟩ := w.bo p z
      exact r.oc p o ho
    · exact z.2
/-- what a body has come to -/
theorem Fr.of (hb : ∀ p, B p → ∃ o, H p = some o) (w : Wb K ⟨B, H, fp⟩ B' L C' H') : Fr H H' B B' fp C' := ⟨w.kp, fun p o e => by
    by_cases z : p ∈ fp
    · exact w.oc p z
    · exact ⟨o, w.kp p o z e⟩, w.lo, fun p b => (w.hi p b).imp id fun z => ⟨z, w.bo p b⟩, w.nd, w.fr, w.nb, w.rt⟩
theorem Fr.tail {c : Root} (r : Fr H H' B B' fp (c :: C')) : Fr H H' B B' fp C' := ⟨r.kp, r.oc, r.lo, r.hi, (List.nodup_append.mp (by have := r.nd; rwa [fps_cons] at this)).2.1, fun p hp => r.fr p (by rw [fps_cons]; exact List.mem_append.mpr (.inr hp)), fun p hp => r.nb p (by rw [fps_cons]; exact List.mem_append.mpr (.inr hp)), fun c hc => r.rt c (.tail _ hc)⟩
end
noncomputable def RA (K : PySem.W.Frag) (N : Addr → Prop) : List Ty → List V → List D → List Root
  | t :: ts, v :: vs, d :: ds => rootS K N t v d :: RA K N ts vs ds
  | _, _, _ => []
/-- those that are kept -/
noncomputable def RK (K : PySem.W.Frag) (N : Addr → Prop) : List Bool → List Ty → List V → List D → List Root
  | true :: ks, t :: ts, v :: vs, d :: ds => rootS K N t v d :: RK K N ks ts vs ds
  | false :: ks, _ :: ts, _ :: vs, _ :: ds => RK K N ks ts vs ds
  | _, _, _, _ => []
/-- which of the things handed in are trees (true): all, the frozen ones, the trees -/
inductive Mix : List Bool → List V → List V → List V → Prop
  | nil : Mix [] [] [] []
  | fr {v : V} {k : List Bool} {vs us ws : List V} : Mix k vs us ws → Mix (false :: k) (v :: vs) (v :: us) ws
  | tr {v : V} {k : List Bool} {vs us ws : List V} : Mix k vs us ws → Mix (true :: k) (v :: vs) us (v :: ws)
theorem Mix.len {k : List Bool} {vs us ws : List V} (h : Mix k vs us ws) : vs.length = k.length := by
  induction h with
  | nil => rfl
  | fr _ ih => simp [ih]
  | tr _ ih => simp [ih]
def SpZ (K : PySem.W.Frag) (XR : D → Value → Option Addr → Root) (k : List Bool) (pts : List Ty) (kp : List Bool) (tr : Ty) (mf : List D → SM (List D) D) : Sp := fun vs H Q E => vs.length = k.length ∧ ∃ (B : Addr → Prop) (us ws : List V) (ds ts : List D), Mix k vs us ws ∧ (∀ p, B p → ∃ o, H p = some o) ∧ DtAll K B H us ds ∧ ts.length = pts.length ∧ ws.length = pts.length ∧ (fps (RA K tr_ pts ws ts) H).Nodup ∧ (∀ p ∈ fps (RA K tr_ pts ws ts) H, ¬ B p) ∧ (∀ c ∈ RA K tr_ pts ws ts, c.P B H) ∧ mf ds ts ≠ .bad ∧
  (∀ x ts' v H' B', mf ds ts = .ok x ts' → ts'.length = pts.length → Fr H H' B B' (fps (RA K tr_ pts ws ts) H) (rootS K (fun q => H q = none) tr v x :: RK K tr_ kp pts ws ts') → Q v H') ∧
  (∀ e ts' cls d H' B', mf ds ts = .exc e ts' → ts'.length = pts.length → Fr H H' B B' (fps (RA K tr_ pts ws ts) H) (XR e cls d :: RK K tr_ kp pts ws ts') → E cls d H')
/-- what makes an object: mf tells its data -/
def SpIZ (K : PySem.W.Frag) (XR : D → Value → Option Addr → Root) (C : Addr) (ns : List Str) (tys : List Ty) (k : List Bool) (pts : List Ty) (mf : List D → SM (List D) D) : Sp := fun vs H Q E => vs.length = k.length + 1 ∧ ∃ (B : Addr → Prop) (a dx : Addr) (vs0 us ws : List V) (ds ts : List D), vs = .ref a :: vs0 ∧ H a = some (.ins C dx []) ∧ Mix k vs0 us ws ∧ (∀ p, B p → ∃ o, H p = some o) ∧ ¬ B a ∧ DtAll K B H us ds ∧ ts.length = pts.length ∧ ws.length = pts.length ∧ (a :: fps (RA K tr_ pts ws ts) H).Nodup ∧ (∀ p ∈ fps (RA K tr_ pts ws ts) H, ¬ B p) ∧ (∀ c ∈ RA K tr_ pts ws ts, c.P B H) ∧ mf ds ts ≠ .bad ∧
  (∀ x ts' H' B', mf ds ts = .ok x ts' → Fr H H' B B' (a :: fps (RA K tr_ pts ws ts) H) [rootS K tr_ (.nd (.obj C ns) tys) (.ref a) x] → Q .non H') ∧
  (∀ e ts' cls d H' B', mf ds ts = .exc e ts' → Fr H H' B B' (a :: fps (RA K tr_ pts ws ts) H) [XR e cls d] → E cls d H')
namespace SM
variable {μ ν : Type}
def cZ (mf : List D → SM (List D) D) (Es : SM μ (List D × (μ → List D) × (List D → μ → μ))) : SM μ D := bd Es fun q => fun m => match mf q.1 (q.2.1 m) with
  | .ok x ts => .ok x (q.2.2 ts m)
  | .exc e ts => .exc e (q.2.2 ts m)
  | .bad => .bad
/-- the same of what is not to raise -/
def cZ0 (mf : List D → SM (List D) D) (Es : SM μ (List D × (μ → List D) × (List D → μ → μ))) : SM μ D := bd Es fun q => fun m => match mf q.1 (q.2.1 m) with
  | .ok x ts => .ok x (q.2.2 ts m)
  | _ => .bad
def mkZ (mf : List D → SM (List D) D) (Es : SM μ (List D × (μ → List D) × (List D → μ → μ))) : SM μ D := bd Es fun q => fun m => match mf q.1 (q.2.1 m) with
  | .ok x _ => .ok x (q.2.2 (q.2.1 m) m)
  | .exc e _ => .exc e (q.2.2 (q.2.1 m) m)
  | .bad => .bad
def mkZ0 (mf : List D → SM (List D) D) (Es : SM μ (List D × (μ → List D) × (List D → μ → μ))) : SM μ D := bd Es fun q => fun m => match mf q.1 (q.2.1 m) with
  | .ok x _ => .ok x (q.2.2 (q.2.1 m) m)
  | _ => .bad
def zN : SM μ (List D × (μ → List D) × (List D → μ → μ)) := pu ([], (fun _ => []), fun _ m => m)
def zF (E : SM μ D) (Es : SM μ (List D × (μ → List D) × (List D → μ → μ))) : SM μ (List D × (μ → List D) × (List D → μ → μ)) := bd E fun x => bd Es fun q => pu (x :: q.1, q.2)
/-- a name's tree -/
def zV (get : μ → D) (put : D → μ → μ) (Es : SM μ (List D × (μ → List D) × (List D → μ → μ))) : SM μ (List D × (μ → List D) × (List D → μ → μ)) := bd Es fun q => pu (q.1, (fun m => get m :: q.2.1 m), fun ts m => q.2.2 ts.tail (put (ts.headD .none) m))
/-- a tree that is made here -/
def zT (E : SM μ D) (Es : SM μ (List D × (μ → List D) × (List D → μ → μ))) : SM μ (List D × (μ → List D) × (List D → μ → μ)) := bd E fun x => bd Es fun q => pu (q.1, (fun m => x :: q.2.1 m), fun ts m => q.2.2 ts.tail m)
/-- a tree at a place -/
def zP (get : μ → D) (put : D → μ → μ) (W : SM μ (List Nat)) (Es : SM μ (List D × (μ → List D) × (List D → μ → μ))) : SM μ (List D × (μ → List D) × (List D → μ → μ)) := bd (nr1 W) fun p => bd (getG get) fun d => bd (of (getP d p)) fun r => bd (nr1 Es) fun q => pu (q.1, (fun m => r :: q.2.1 m), fun ts m => put (setP d p (ts.headD .none)) (q.2.2 ts.tail m))
/-- the body of a def, over its own state -/
def zbody (inj : List D → μ) (prj : μ → List D) (x : SM μ D) : SM (List D) D := fun ts => match x (inj ts) with
  | .ok a m => .ok a (prj m)
  | .exc e m => .exc e (prj m)
  | .bad => .bad
def ibody (inj : List D → μ) (obj : μ → D) (x : SM μ (Fl Unit Empty)) : SM (List D) D := fun ts => match x (inj ts) with
  | .ok (.nx _) m => .ok (obj m) []
  | .exc e _ => .exc e []
  | _ => .bad
end SM
/-- the receiver of a method, then what is handed over -/
def tRecv (C : Addr) (m0 : Str) (ta : TE) (tr : TA) : TA := fun σ H Q => ta σ H fun x H1 => ∃ a dx fs, x = .ref a ∧ H1 a = some (.ins C dx fs) ∧ fs.lookup m0 = none ∧ tr σ H1 fun vs H2 => Q (x :: vs) H2
section
open SM
variable {X : Cx} {μ τ τ' ρ : Type} {G : Gx} {σ : St} {L : List (V × D)} {C C' C0 C1 C2 Cp Cr Cr1 Z Z1 Z2 Zs : μ → List Root} {te ta tb tc ti : TE} {tr : TA} {tt tu : TT} {s0 t1 u1 : TS} {E E1 E2 E3 : SM μ D} {Es : SM μ (List D × (μ → List D) × (List D → μ → μ))} {Jn : Shp μ τ} {Jl : Shp μ ρ} {i j n : Nat} {v u vy : V} {x d y : D} {t tk tm ty : Ty} {W : SM μ (List Nat)} {N N' : Addr → Prop} {get : μ → D} {put : D → μ → μ} {Ca : Addr} {ns : List Str} {ts pts tys : List Ty} {nm m0 : Str} {k kp : List Bool} {bb : Bool}
def AS (G : Gx) (ta : TA) (σ : St) (L : List (V × D)) (C Zs Cr : μ → List Root) (N : Addr → Prop) (k kp : List Bool) (pts : List Ty) (E : SM μ (List D × (μ → List D) × (List D → μ → μ))) : Prop :=
  ∀ m F L' H Q, (∀ x ∈ L, x ∈ L') → Wd G.K G.O L' (C m ++ F) H →
    (∀ xs tsf pb m' vs us ws Hs H' L2, E m = .ok (xs, tsf, pb) m' → (∀ f ∈ L', f ∈ L2) → Mix k vs us ws → In2 L2 us xs → ws.length = pts.length → (tsf m').length = pts.length →
      Wd G.K G.O L2 (RA G.K N pts ws (tsf m') ++ (Hs ++ (Zs m' ++ F))) H' →
      (∀ ts' m2 L3 F2 H2, ts'.length = pts.length → Wd G.K G.O L3 (RK G.K N kp pts ws ts' ++ (Hs ++ (Zs m2 ++ F2))) H2 → Wd G.K G.O L3 (Cr (pb ts' m2) ++ F2) H2) → Q vs H') →
    Bk G Cr F L' (E m) → ta σ H Q
theorem perm3 (A B C F : List Root) (r : Root) : (A ++ (B ++ (C ++ (r :: F)))).Perm (r :: (A ++ (B ++ (C ++ F)))) := by
  have h := List.perm_middle (a := r) (l₁ := A ++ (B ++ C)) (l₂ := F)
  simpa [List.append_assoc] using h
theorem Bk.addF {α : Type} {F : List Root} {r : Rs μ α} {c : Root} (h : Bk G C F L r) : Bk G C (c :: F) L r := ⟨fun e m' cls d H' q w => h.1 e m' cls d H' q (w.subC (List.Sublist.cons₂ _ ((List.Sublist.refl _).append (List.sublist_cons_self _ _)))), h.2⟩
theorem as_nil : AS G tNil σ L C C C N [] [] [] zN := fun m F L' H Q s w q _ => q [] (fun _ => []) (fun _ m => m) m [] [] [] [] H L' rfl (fun _ h => h) .nil .nil rfl rfl w fun ts' m2 L3 F2 H2 _ w2 => w2
theorem as_fr (hs : Sub Cr C) (h1 : EV G ta σ L C E1) (h2 : AS G tr σ L C Zs Cr N k kp pts Es) : AS G (tCons ta tr) σ L C Zs Cr N (false :: k) kp pts (zF E1 Es) := by
  intro m F L' H Q s w q b
  refine h1 m F L' H _ s w (fun x m1 v H1 e1 w1 => ?_) (b.fst.subC hs)
  have b1 := b.snd e1
  refine h2 m1 F ((v, x) :: L') H1 _ (fun f hf => .tail _ (s f hf)) w1 (fun xs tsf pb m2 vs us ws Hs H2 L2 e2 s2 mx i2 l1 l2 w2 hr => ?_) (b1.fst.mono fun f hf => .tail _ hf)
  refine q (x :: xs) tsf pb m2 (v :: vs) (v :: us) ws Hs H2 L2 ?_ (fun f hf => s2 f (.tail _ hf)) (.fr mx) (.cons (s2 _ (.head _)) i2) l1 l2 w2 hr
  show bd E1 _ m = _
  rw [bd_ok e1, bd_ok e2]; rfl
theorem as_var (hv : σ[i]? = some (some v)) (h2 : AS G tr σ L C Z1 Cr N k kp pts Es) (hZ : ∀ m, (Z1 m).Perm (rootS G.K N t v (get m) :: Z2 m)) (hR : ∀ m y, (rootS G.K N t v y :: Z2 m).Perm (Z1 (put y m))) : AS G (tCons (tVar i) tr) σ L C Z2 Cr N (true :: k) (true :: kp) (t :: pts) (zV get put Es) := by
  intro m F L' H Q s w q b
  refine ⟨v, hv, h2 m F L' H _ s w (fun xs tsf pb m2 vs us ws Hs H2 L2 e2 s2 mx i2 l1 l2 w2 hr => ?_) b.fst⟩
  refine q xs (fun m => get m :: tsf m) (fun ts m => pb ts.tail (put (ts.headD .none) m)) m2 (v :: vs) us (v :: ws) Hs H2 L2 (bd_ok e2) s2 (.tr mx) i2 (by simp [l1]) (by simp [l2]) ?_ fun ts' m3 L3 F2 H3 hl w3 => ?_
  · refine w2.perm ?_
    refine (((hZ m2).append_right F).append_left Hs).append_left _ |>.trans ?_
    exact perm3 _ _ [] (Z2 m2 ++ F) _
  · match ts', hl with
    | y :: rs, hl =>
      refine hr rs (put y m3) L3 F2 H3 (by simpa using hl) (w3.perm ?_)
      refine (List.Perm.symm ?_)
      refine (((hR m3 y).symm.append_right F2).append_left Hs).append_left _ |>.trans ?_
      exact perm3 _ _ [] (Z2 m3 ++ F2) _
theorem as_ft (hs : Sub Cr C1) (h1 : FTs G N ta σ L C C1 t E1) (h2 : AS G tr σ L C1 Zs Cr N k kp pts Es) : AS G (tCons ta tr) σ L C Zs Cr N (true :: k) (bb :: kp) (t :: pts) (zT E1 Es) := by
  intro m F L' H Q s w q b
  refine h1 m F L' H _ s w (fun x m1 v H1 e1 w1 => ?_) (b.fst.subC hs)
  have b1 := b.snd e1
  refine h2 m1 (rootS G.K N t v x :: F) L' H1 _ s (w1.perm List.perm_middle.symm) (fun xs tsf pb m2 vs us ws Hs H2 L2 e2 s2 mx i2 l1 l2 w2 hr => ?_) b1.fst.addF
  refine q xs (fun m => x :: tsf m) (fun ts m => pb ts.tail m) m2 (v :: vs) us (v :: ws) Hs H2 L2 ?_ s2 (.tr mx) i2 (by simp [l1]) (by simp [l2]) (w2.perm (perm3 _ _ _ _ _)) fun ts' m3 L3 F2 H3 hl w3 => ?_
  · show bd E1 _ m = _
    rw [bd_ok e1, bd_ok e2]; rfl
  · match ts', hl with
    | y :: rs, hl =>
      refine hr rs m3 L3 F2 H3 (by simpa using hl) ?_
      cases bb with
      | true => exact w3.subC (List.sublist_cons_self _ _)
      | false => exact w3
theorem as_mv (hv : σ[i]? = some (some v)) (hC : ∀ m, (C m).Perm (rootS G.K N t v (get m) :: C0 m)) (h2 : AS G tr σ L C0 Zs Cr N k kp pts Es) : AS G (tCons (tVar i) tr) σ L C Zs Cr N (true :: k) (false :: kp) (t :: pts) (zT (getG get) Es) := by
  intro m F L' H Q s w q b
  have b1 := b.snd (show getG get m = .ok (get m) m from rfl)
  refine ⟨v, hv, h2 m (rootS G.K N t v (get m) :: F) L' H _ s ((w.perm ((hC m).append_right F)).perm List.perm_middle.symm) (fun xs tsf pb m2 vs us ws Hs H2 L2 e2 s2 mx i2 l1 l2 w2 hr => ?_) b1.fst.addF⟩
  refine q xs (fun m' => get m :: tsf m') (fun ts m => pb ts.tail m) m2 (v :: vs) us (v :: ws) Hs H2 L2 ?_ s2 (.tr mx) i2 (by simp [l1]) (by simp [l2]) (w2.perm (perm3 _ _ _ _ _)) fun ts' m3 L3 F2 H3 hl w3 => ?_
  · show bd (getG get) _ m = _
    rw [bd_ok (show getG get m = .ok (get m) m from rfl), bd_ok e2]; rfl
  · match ts', hl with
    | y :: rs, hl => exact hr rs m3 L3 F2 H3 (by simpa using hl) w3
theorem of_ok {α : Type} {o : Option α} {x : α} (h : o = some x) (m : μ) : (of o : SM μ α) m = .ok x m := by rw [h]; rfl
theorem as_pl (h1 : PLs G te σ L C Z N t v get tk W) (h2 : AS G tr σ L Z Zs Cr1 N k kp pts Es) (hR : ∀ m y, (rootS G.K N t v y :: Cr1 m).Perm (Cr (put y m))) : AS G (tCons te tr) σ L C Zs Cr N (true :: k) (true :: kp) (tk :: pts) (zP get put W Es) := by
  intro m F L' H Q s w q b
  obtain ⟨p, m1, e1⟩ := nr1_nb b.fst.2
  refine h1 m F L' H _ p m1 e1 s w (fun u g r H1 eg w1 => ?_)
  replace e1 := nr1_ok e1
  have b1 := b.snd e1
  have b2 := b1.snd (show getG get m1 = .ok (get m1) m1 from rfl)
  have b3 := b2.snd (of_ok eg m1)
  obtain ⟨z, m2', e2'⟩ := nr1_nb b3.fst.2
  refine h2 m1 (rootS G.K N tk u r :: rootH G.K N tk u t v (setP (get m1) p) g :: F) L' H1 _ s (w1.perm ((List.Perm.cons _ List.perm_middle.symm).trans List.perm_middle.symm)) (fun xs tsf pb m2 vs us ws Hs H2 L2 e2 s2 mx i2 l1 l2 w2 hr => ?_) (by rw [e2']; exact bk_ok)
  refine q xs (fun m' => r :: tsf m') (fun ts m => put (setP (get m1) p (ts.headD .none)) (pb ts.tail m)) m2 (u :: vs) us (u :: ws) (rootH G.K N tk u t v (setP (get m1) p) g :: Hs) H2 L2 ?_ s2 (.tr mx) i2 (by simp [l1]) (by simp [l2]) (w2.perm ((perm3 _ _ _ _ _).trans (List.Perm.cons _ ((perm3 _ _ _ _ _).trans ?_)))) fun ts' m3 L3 F2 H3 hl w3 => ?_
  · show bd (nr1 W) _ m = _
    rw [bd_ok e1, bd_ok (show getG get m1 = .ok (get m1) m1 from rfl), bd_ok (of_ok eg m1), bd_ok (nr1_ok e2)]; rfl
  · exact List.perm_middle.symm
  · match ts', hl with
    | y :: rs, hl =>
      have w4 := hr rs m3 L3 (rootS G.K N tk u y :: rootH G.K N tk u t v (setP (get m1) p) g :: F2) H3 (by simpa using hl) (w3.perm ?_)
      · have w5 : Wd G.K G.O L3 (rootS G.K N tk u y :: rootH G.K N tk u t v (setP (get m1) p) g :: (Cr1 (pb rs m3) ++ F2)) H3 := w4.perm (List.perm_middle.trans (List.Perm.cons _ List.perm_middle))
        exact (Wd.unzoomS w5).perm ((hR (pb rs m3) _).append_right F2)
      · refine List.Perm.symm ((perm3 _ _ _ _ _).trans (List.Perm.cons _ ((perm3 _ _ _ _ _).trans ?_)))
        exact List.perm_middle.symm
/-- an instance's class and dict -/
theorem Wd.insS {K : PySem.W.Frag} {O : Og} {Z : List Root} {H : Hp} {r : D} (w : Wd K O L (rootS K N (.nd (.obj Ca ns) ts) u r :: Z) H) (hm : m0 ∉ ns) : ∃ a dx fs, u = .ref a ∧ H a = some (.ins Ca dx fs) ∧ fs.lookup m0 = none := by
  obtain ⟨B, wb⟩ := w
  obtain ⟨f, ho, _⟩ := wb.rt _ (.head _)
  cases ho with
  | @nd _ _ p o vs ds f1 hp ha hz =>
    obtain ⟨hl2, dx, rfl⟩ := ha
    exact ⟨p, dx, _, rfl, hp, zip_nolook hm⟩
theorem as_rvar {t : Ty} (hv : σ[i]? = some (some v)) (et : t = .nd (.obj Ca ns) ts) (hm : m0 ∉ ns) (h0 : ∀ m, (C m).Perm (rootS G.K N t v (get m) :: Z m)) (h2 : AS G tr σ L C Z1 Cr N k kp pts Es) (hZ : ∀ m, (Z1 m).Perm (rootS G.K N t v (get m) :: Z2 m)) (hR : ∀ m y, (rootS G.K N t v y :: Z2 m).Perm (Z1 (put y m))) : AS G (tRecv Ca m0 (tVar i) tr) σ L C Z2 Cr N (true :: k) (true :: kp) (t :: pts) (zV get put Es) := by
  intro m F L' H Q s w q b
  subst et
  obtain ⟨a, dx, fs, e1, e2, e3⟩ := Wd.insS (w.perm ((h0 m).append_right F)) hm
  obtain ⟨v', hv', h3⟩ := as_var (i := i) hv h2 hZ hR m F L' H Q s w q b
  rw [hv] at hv'; cases hv'
  exact ⟨v, hv, a, dx, fs, e1, e2, e3, h3⟩
theorem as_rpl (hm : m0 ∉ ns) (h1 : PLs G te σ L C Z N t v get (.nd (.obj Ca ns) ts) W) (h2 : AS G tr σ L Z Zs Cr1 N k kp pts Es) (hR : ∀ m y, (rootS G.K N t v y :: Cr1 m).Perm (Cr (put y m))) : AS G (tRecv Ca m0 te tr) σ L C Zs Cr N (true :: k) (true :: kp) (.nd (.obj Ca ns) ts :: pts) (zP get put W Es) := by
  have h1' : PLs G (fun σ H Q => te σ H fun x H1 => ∃ a dx fs, x = .ref a ∧ H1 a = some (.ins Ca dx fs) ∧ fs.lookup m0 = none ∧ Q x H1) σ L C Z N t v get (.nd (.obj Ca ns) ts) W := by
    intro m F L' H Q p m' e s w q
    refine h1 m F L' H _ p m' e s w (fun u g r H' eg w' => ?_)
    obtain ⟨a, dx, fs, e1, e2, e3⟩ := Wd.insS w' hm
    exact ⟨a, dx, fs, e1, e2, e3, q u g r H' eg w'⟩
  exact as_pl h1' h2 hR
/-! promises met -/
theorem RA_fps {K : PySem.W.Frag} {N N' : Addr → Prop} {H : Hp} : ∀ (ts : List Ty) (vs : List V) (ds : List D), fps (RA K N ts vs ds) H = fps (RA K N' ts vs ds) H
  | [], _, _ => rfl
  | _ :: _, [], _ => rfl
  | _ :: _, _ :: _, [] => rfl
  | t :: ts, v :: vs, d :: ds => by
    show (foot K t v d H) ++ fps (RA K N ts vs ds) H = foot K t v d H ++ fps (RA K N' ts vs ds) H
    rw [RA_fps ts vs ds]
theorem RA_tr {K : PySem.W.Frag} {N : Addr → Prop} {B : Addr → Prop} {H : Hp} : ∀ {ts : List Ty} {vs : List V} {ds : List D}, (∀ c ∈ RA K N ts vs ds, c.P B H) → ∀ c ∈ RA K tr_ ts vs ds, c.P B H
  | [], _, _, _, _, hc => by cases hc
  | _ :: _, [], _, _, _, hc => by cases hc
  | _ :: _, _ :: _, [], _, _, hc => by cases hc
  | t :: ts, v :: vs, d :: ds, h, c, hc => by
    rcases List.mem_cons.mp hc with e | e
    · obtain ⟨f, ho, _⟩ := h (rootS K N t v d) (.head _)
      rw [e]; exact ⟨f, ho, fun _ _ => trivial⟩
    · exact RA_tr (fun c hc => h c (.tail _ hc)) c e
theorem RA_N {K : PySem.W.Frag} {N : Addr → Prop} {B : Addr → Prop} {H : Hp} : ∀ {ts : List Ty} {vs : List V} {ds : List D}, (∀ c ∈ RA K N ts vs ds, c.P B H) → ∀ q ∈ fps (RA K N ts vs ds) H, N q
  | [], _, _, _, _, hc => by cases hc
  | _ :: _, [], _, _, _, hc => by cases hc
  | _ :: _, _ :: _, [], _, _, hc => by cases hc
  | t :: ts, v :: vs, d :: ds, h, q, hq => by
    have hq' : q ∈ foot K t v d H ++ fps (RA K N ts vs ds) H := hq
    rcases List.mem_append.mp hq' with e | e
    · obtain ⟨f, ho, hn⟩ := h (rootS K N t v d) (.head _)
      rw [foot_eq ho] at e
      exact hn q e
    · exact RA_N (fun c hc => h c (.tail _ hc)) q e
theorem RK_N {K : PySem.W.Frag} {N : Addr → Prop} {B : Addr → Prop} {H : Hp} : ∀ {kp : List Bool} {ts : List Ty} {vs : List V} {ds : List D}, (∀ c ∈ RK K tr_ kp ts vs ds, c.P B H) → (∀ q ∈ fps (RK K tr_ kp ts vs ds) H, N q) → (∀ c ∈ RK K N kp ts vs ds, c.P B H) ∧ fps (RK K N kp ts vs ds) H = fps (RK K tr_ kp ts vs ds) H
  | [], _, _, _, _, _ => ⟨fun c hc => (by cases hc), rfl⟩
  | true :: _, [], _, _, _, _ => ⟨fun c hc => (by cases hc), rfl⟩
  | true :: _, _ :: _, [], _, _, _ => ⟨fun c hc => (by cases hc), rfl⟩
  | true :: _, _ :: _, _ :: _, [], _, _ => ⟨fun c hc => (by cases hc), rfl⟩
  | false :: _, [], _, _, _, _ => ⟨fun c hc => (by cases hc), rfl⟩
  | false :: _, _ :: _, [], _, _, _ => ⟨fun c hc => (by cases hc), rfl⟩
  | false :: _, _ :: _, _ :: _, [], _, _ => ⟨fun c hc => (by cases hc), rfl⟩
  | false :: kp, t :: ts, v :: vs, d :: ds, h, hq => RK_N (kp := kp) (ts := ts) (vs := vs) (ds := ds) h hq
  | true :: kp, t :: ts, v :: vs, d :: ds, h, hq => by
    have ih := RK_N (N := N) (kp := kp) (ts := ts) (vs := vs) (ds := ds) (fun c hc => h c (.tail _ hc)) (fun q hq' => hq q (List.mem_append.mpr (.inr hq')))
    refine ⟨fun c hc => ?_, ?_⟩
    · rcases List.mem_cons.mp hc with e | e
      · obtain ⟨f, ho, _⟩ := h (rootS K tr_ t v d) (.head _)
        rw [e]
        exact ⟨f, ho, fun q hf => hq q (List.mem_append.mpr (.inl (by show q ∈ foot K t v d H; rw [foot_eq ho]; exact hf)))⟩
      · exact ih.1 c e
    · show foot K t v d H ++ fps (RK K N kp ts vs ds) H = foot K t v d H ++ fps (RK K tr_ kp ts vs ds) H
      rw [ih.2]
/-- what a call leaves, told by N again -/
theorem Wd.backN {K : PySem.W.Frag} {O : Og} {Z : List Root} {H : Hp} {ws : List V} {ts' : List D} {c : Root} (w : Wd K O L ((c :: RK K tr_ kp pts ws ts') ++ Z) H) (hq : ∀ q ∈ fps (RK K tr_ kp pts ws ts') H, N q) : Wd K O L (c :: (RK K N kp pts ws ts' ++ Z)) H := by
  refine Wd.imp (C := c :: RK K tr_ kp pts ws ts') w fun B _ hr => ?_
  obtain ⟨h1, h2⟩ := RK_N (N := N) (fun c' hc' => hr c' (.tail _ hc')) hq
  refine ⟨c :: RK K N kp pts ws ts', ?_, fun c' hc' => ?_, fun w' => w'⟩
  · rw [fps_cons, fps_cons, h2]
  · rcases List.mem_cons.mp hc' with e | e
    · rw [e]; exact hr _ (.head _)
    · exact h1 c' e
theorem cZ_nb {mf : List D → SM (List D) D} {xs : List D} {tsf : μ → List D} {pb : List D → μ → μ} {m m1 : μ} (e1 : Es m = .ok (xs, tsf, pb) m1) (h : cZ mf Es m ≠ .bad) : mf xs (tsf m1) ≠ .bad := fun z => h (by
  have er : cZ mf Es m = (match mf xs (tsf m1) with | .ok x ts => .ok x (pb ts m1) | .exc e ts => .exc e (pb ts m1) | .bad => .bad) := bd_ok e1
  rw [er, z])
/-- the general call -/
theorem callZ {XR : D → Value → Option Addr → Root} {mf : List D → SM (List D) D} {m1 : μ} {F : List Root} {L' L2 : List (V × D)} {H1 : Hp} {Q : VK} {EE : XK} {xs : List D} {tsf : μ → List D} {pb : List D → μ → μ} {vs us ws : List V} {Hs : List Root} (hN : ∀ q, q ∉ G.O.fp → N q) (s2 : ∀ f ∈ L', f ∈ L2) (mx : Mix k vs us ws) (i2 : In2 L2 us xs) (l1 : ws.length = pts.length) (l2 : (tsf m1).length = pts.length)
    (w1 : Wd G.K G.O L2 (RA G.K N pts ws (tsf m1) ++ (Hs ++ (Zs m1 ++ F))) H1) (hr : ∀ ts' m2 L3 F2 H2, ts'.length = pts.length → Wd G.K G.O L3 (RK G.K N kp pts ws ts' ++ (Hs ++ (Zs m2 ++ F2))) H2 → Wd G.K G.O L3 (Cr (pb ts' m2) ++ F2) H2) (nb : mf xs (tsf m1) ≠ .bad)
    (q : ∀ x ts' v H', mf xs (tsf m1) = .ok x ts' → Wd G.K G.O L' (rootS G.K (nw G) ty v x :: (Cr (pb ts' m1) ++ F)) H' → Q v H')
    (qx : ∀ e ts' cls d H', mf xs (tsf m1) = .exc e ts' → Wd G.K G.O L' (XR e cls d :: (Cr (pb ts' m1) ++ F)) H' → EE cls d H') : SpZ G.K XR k pts kp ty mf vs H1 Q EE := by
  obtain ⟨B, wb⟩ := w1
  have hnd := wb.nd
  rw [fps_app] at hnd
  have hP : ∀ c ∈ RA G.K N pts ws (tsf m1), c.P B H1 := fun c hc => wb.rt c (List.mem_append.mpr (.inl hc))
  have e0 : fps (RA G.K tr_ pts ws (tsf m1)) H1 = fps (RA G.K N pts ws (tsf m1)) H1 := RA_fps _ _ _
  have hq : ∀ {C' : List Root} {H' : Hp} {B' : Addr → Prop}, Fr H1 H' B B' (fps (RA G.K tr_ pts ws (tsf m1)) H1) C' → ∀ q ∈ fps C' H', N q := fun {C' H' B'} r q hq => by
    rcases r.fr q hq with z | z
    · rw [e0] at z; exact RA_N hP q z
    · exact hN q (wb.nofp z)
  refine ⟨mx.len, B, us, ws, xs, tsf m1, mx, wb.bo, i2.dt wb.ft, l2, l1, by rw [e0]; exact (List.nodup_append.mp hnd).1, fun p hp => wb.nb p (by rw [fps_app]; exact List.mem_append.mpr (.inl (by rw [← e0]; exact hp))), RA_tr hP, nb, fun x ts' v H' B' ex hl r => ?_, fun e ts' cls d H' B' ex hl r => ?_⟩
  · have w3 := Wb.call (C := RA G.K N pts ws (tsf m1)) (Z := Hs ++ (Zs m1 ++ F)) wb (fun p => by rw [e0]) r
    have w4 := Wd.backN (N := N) ⟨B', w3⟩ fun q hq2 => hq r q (by rw [fps_cons]; exact List.mem_append.mpr (.inr hq2))
    have w5 := (Wd.weakS w4 (N' := nw G) fun q hq => wb.nofp hq).perm (perm3 _ _ _ _ _).symm
    have w6 := hr ts' m1 L2 (rootS G.K (nw G) ty v x :: F) H' hl w5
    exact q x ts' v H' ex ((w6.perm List.perm_middle).sub s2)
  · have w3 := Wb.call (C := RA G.K N pts ws (tsf m1)) (Z := Hs ++ (Zs m1 ++ F)) wb (fun p => by rw [e0]) r
    have w4 := Wd.backN (N := N) ⟨B', w3⟩ fun q hq2 => hq r q (by rw [fps_cons]; exact List.mem_append.mpr (.inr hq2))
    have w6 := hr ts' m1 L2 (XR e cls d :: F) H' hl (w4.perm (perm3 _ _ _ _ _).symm)
    exact qx e ts' cls d H' ex ((w6.perm List.perm_middle).sub s2)
theorem fts_cZ {mf : List D → SM (List D) D} (hN : ∀ q, q ∉ G.O.fp → N q) (h : AS G tr σ L C Zs Cr N k kp pts Es) : FTs G (nw G) (tCall (SpZ G.K G.XR k pts kp ty mf) [] G.Xk tr) σ L C Cr ty (cZ mf Es) := by
  intro m F L' H Q s w q b
  refine h m F L' H _ s w (fun xs tsf pb m1 vs us ws Hs H1 L2 e1 s2 mx i2 l1 l2 w1 hr => ?_) b.fst
  have er : cZ mf Es m = (match mf xs (tsf m1) with | .ok x ts => .ok x (pb ts m1) | .exc e ts => .exc e (pb ts m1) | .bad => .bad) := bd_ok e1
  rw [List.append_nil]
  exact callZ hN s2 mx i2 l1 l2 w1 hr (cZ_nb e1 b.2) (fun x ts' v H' ex w' => q x (pb ts' m1) v H' (by rw [er, ex]) w') fun e ts' cls d H' ex w' => b.1 e (pb ts' m1) cls d H' (by rw [er, ex]) w'
theorem cZ0_nb {mf : List D → SM (List D) D} {xs : List D} {tsf : μ → List D} {pb : List D → μ → μ} {m m1 : μ} (e1 : Es m = .ok (xs, tsf, pb) m1) (h : cZ0 mf Es m ≠ .bad) : ∃ x ts, mf xs (tsf m1) = .ok x ts := by
  have er : cZ0 mf Es m = (match mf xs (tsf m1) with | .ok x ts => .ok x (pb ts m1) | _ => .bad) := bd_ok e1
  rw [er] at h
  cases e : mf xs (tsf m1) with
  | ok x ts => exact ⟨x, ts, rfl⟩
  | exc e' ts => rw [e] at h; exact absurd rfl h
  | bad => rw [e] at h; exact absurd rfl h
theorem fts_cZ0 {XR : D → Value → Option Addr → Root} {mf : List D → SM (List D) D} (hN : ∀ q, q ∉ G.O.fp → N q) (h : AS G tr σ L C Zs Cr N k kp pts Es) : FTs G (nw G) (tCall (SpZ G.K XR k pts kp ty mf) [] E0 tr) σ L C Cr ty (cZ0 mf Es) := by
  intro m F L' H Q s w q b
  refine h m F L' H _ s w (fun xs tsf pb m1 vs us ws Hs H1 L2 e1 s2 mx i2 l1 l2 w1 hr => ?_) b.fst
  have er : cZ0 mf Es m = (match mf xs (tsf m1) with | .ok x ts => .ok x (pb ts m1) | _ => .bad) := bd_ok e1
  obtain ⟨x0, t0, e0⟩ := cZ0_nb e1 b.2
  rw [List.append_nil]
  exact callZ hN s2 mx i2 l1 l2 w1 hr (by rw [e0]; intro z; cases z) (fun x ts' v H' ex w' => q x (pb ts' m1) v H' (by rw [er, ex]) w') fun e ts' cls d H' ex w' => by rw [e0] at ex; cases ex
theorem fts_cZS {mf : List D → SM (List D) D} {WW : WX} (hW : ∀ cls d H, G.Xk cls d H → WW cls d σ H) (hN : ∀ q, q ∉ G.O.fp → N q) (h : AS G tr σ L C Zs Cr N k kp pts Es) : FTs G (nw G) (tCallS (SpZ G.K G.XR k pts kp ty mf) (WE WW) tr) σ L C Cr ty (cZ mf Es) := by
  intro m F L' H Q s w q b
  refine h m F L' H _ s w (fun xs tsf pb m1 vs us ws Hs H1 L2 e1 s2 mx i2 l1 l2 w1 hr => ?_) b.fst
  have er : cZ mf Es m = (match mf xs (tsf m1) with | .ok x ts => .ok x (pb ts m1) | .exc e ts => .exc e (pb ts m1) | .bad => .bad) := bd_ok e1
  exact callZ hN s2 mx i2 l1 l2 w1 hr (cZ_nb e1 b.2) (fun x ts' v H' ex w' => q x (pb ts' m1) v H' (by rw [er, ex]) w') fun e ts' cls d H' ex w' => hW _ _ _ (b.1 e (pb ts' m1) cls d H' (by rw [er, ex]) w')
/-- methods: the same over tRecv -/
theorem fts_meth {sp : Sp} {EE : XK} (h : FTs G N (tCall sp [] EE (tRecv Ca m0 ta tr)) σ L C C1 ty E) : FTs G N (tMeth Ca m0 sp [] EE ta tr) σ L C C1 ty E := h
def tMethT (C : Addr) (m : Str) (sp : Sp) (EE : St → XK) (ta : TE) (t : TA) : TE := fun σ H Q => ta σ H fun x H1 => ∃ a dx fs, x = .ref a ∧ H1 a = some (.ins C dx fs) ∧ fs.lookup m = none ∧ t σ H1 fun vs H2 => sp (x :: vs) H2 Q (EE σ)
theorem fts_methT {sp : Sp} {EE : St → XK} (h : FTs G N (tCallS sp EE (tRecv Ca m0 ta tr)) σ L C C1 ty E) : FTs G N (tMethT Ca m0 sp EE ta tr) σ L C C1 ty E := h
end
/-! ### methods within a try; objects made; bodies (S) -/
section
variable {X : Cx} {CX : CXT} {k : Nat} {f C : Addr} {fd : FuncData} {ps : List Str} {sp : Sp} {E : St → XK} {m : Str} {p pos apos : Pos} {e o : Expr} {es : List Expr} {ta : TE} {t : TA}
theorem pe_methT {pl : Sem Bool} (he : PE X o ta) (c : Cls X.K C) (hm : Meth X.K C m f) (F : FnOk X.prog X.w X.K X.mg X.base CX k f fd ps sp) (hr : Room k X.A) (hb : Binds X.K fd ps []) (hx : ∀ σ, PassesAt CX X σ (E σ)) (ha : PA X (e :: es) t)
    (hst : starEach (e :: es) X.env = (false, eval e X.env) :: starEach es X.env := by rfl) (hpl : (backTo pos (starEach es X.env)).any (·.1) = false := by rfl)
    (ht : eval (.Call (.Attribute o m apos) (e :: es) [] pos) X.env = (do
      let ov ← eval o X.env
      standAt apos.atName
      let (f, first) ← holding [ov] (getMethod ov m pl)
      callWith pos f first (backTo pos (starEach (e :: es) X.env)) (backToKw pos (keywordEach [] X.env))) := by rfl) :
    PE X (.Call (.Attribute o m apos) (e :: es) [] pos) (tMethT C m sp E ta t) := by
  refine ⟨fun pins s σ H Q I h => ?_⟩
  refine PySem.W.methodCall_KW (pl := pl) (thn (he.run pins s σ H _ I h) fun u s1 ⟨x, H1, I1, rx, a, dx, fs, ex, ea, l, q⟩ => ?_) ht
  subst ex
  obtain rfl : u = Value.ref a := rx
  refine getmeth_ok I1 ea c hm l ?_
  refine PySem.W.callWith_K (first := [.ref a]) (h₀ := X.base) I.ok.mod.kin hm.kp (thn (ha.run pos pins s1 σ H1 _ I1 q) fun us s2 ⟨vs, H2, I2, r, q2⟩ => ⟨I2.kIn, ?_⟩) hst hpl
  exact run_fnS (us := .ref a :: us) (vs := .ref a :: vs) F hr hb (hx σ) I2 (.cons rfl r) q2
theorem pe_methT0 {pl : Sem Bool} (he : PE X o ta) (c : Cls X.K C) (hm : Meth X.K C m f) (F : FnOk X.prog X.w X.K X.mg X.base CX k f fd ps sp) (hr : Room k X.A) (hb : Binds X.K fd ps []) (hx : ∀ σ, PassesAt CX X σ (E σ))
    (ht : eval (.Call (.Attribute o m apos) [] [] pos) X.env = (do
      let ov ← eval o X.env
      standAt apos.atName
      let (f, first) ← holding [ov] (getMethod ov m pl)
      callWith pos f first (backTo pos (starEach [] X.env)) (backToKw pos (keywordEach [] X.env))) := by rfl) :
    PE X (.Call (.Attribute o m apos) [] [] pos) (tMethT C m sp E ta tNil) := by
  refine ⟨fun pins s σ H Q I h => ?_⟩
  refine PySem.W.methodCall_KW (pl := pl) (thn (he.run pins s σ H _ I h) fun u s1 ⟨x, H1, I1, rx, a, dx, fs, ex, ea, l, q⟩ => ?_) ht
  subst ex
  obtain rfl : u = Value.ref a := rx
  refine getmeth_ok I1 ea c hm l ?_
  exact PySem.W.callWith_K0 (first := [.ref a]) I1.kIn hm.kp (run_fnS (us := [.ref a]) (vs := [.ref a]) F hr hb (hx σ) I1 (.cons rfl .nil) q)
end
namespace SM
def faddN (y r : D) : Option D := match r with
  | .tuple ds => some (.tuple (ds ++ [y]))
  | _ => none
end SM
section
open SM
variable {X : Cx} {μ τ τ' ρ : Type} {G : Gx} {σ : St} {L : List (V × D)} {C C' C0 C1 C2 Cp Cr Cr1 Z Z1 Z2 Zs : μ → List Root} {te ta tb tc ti : TE} {tr : TA} {tt tu : TT} {s0 t1 u1 : TS} {E E1 E2 E3 : SM μ D} {Es : SM μ (List D × (μ → List D) × (List D → μ → μ))} {Jn : Shp μ τ} {Jl : Shp μ ρ} {i j n : Nat} {v u vy : V} {x d y : D} {t tk tm ty : Ty} {W : SM μ (List Nat)} {N N' : Addr → Prop} {get : μ → D} {put : D → μ → μ} {Ca : Addr} {ns : List Str} {ts pts tys : List Ty} {nm m0 : Str} {k kp : List Bool} {bb : Bool}
theorem zip_add {ns : List Str} {vs : List V} {nm : Str} {v : V} (hl : ns.length = vs.length) (hn : nm ∉ ns) : putF nm v (ns.zip vs) = (ns ++ [nm]).zip (vs ++ [v]) := by
  induction ns generalizing vs with
  | nil => cases vs with
    | nil => rfl
    | cons a b => cases hl
  | cons a ns ih => cases vs with
    | nil => cases hl
    | cons w vs =>
      have ne : ¬ a = nm := fun z => hn (by rw [z]; exact .head _)
      show (if a = nm then _ else (a, w) :: putF nm v (ns.zip vs)) = _
      rw [if_neg ne, ih (by simpa using hl) (fun z => hn (.tail _ z))]; rfl
/-- self.f = e, a field that is new -/
theorem sv_fnewS {kk : SM μ (Fl τ ρ)} (hz : Sub Cp C1) (h0 : FTs G N te σ L C C1 tk E1) (hv : σ[j]? = some (some v)) (hC : ∀ m, (C1 m).Perm (rootS G.K N (.nd (.obj Ca ns) ts) v (get m) :: Z m)) (c : Cls G.K Ca) (n0 : NoAttr G.K Ca nm) (hn : nm ∉ ns) (hl : ns.length < 1000) (hC' : ∀ m d, (rootS G.K N (.nd (.obj Ca (ns ++ [nm])) (ts ++ [tk])) v d :: Z m).Perm (C2 (put d m)))
    (hk2 : SV G Cp s0 σ L C2 kk Jn Jl) : SV G Cp (tSeq (sFld G.K (tVar j) te nm) s0) σ L C (bd (bd E1 fun y => mdP get put [] (faddN y)) fun _ => kk) Jn Jl := by
  refine sv_bd1 fun m F L' H e s w q b => ?_
  refine h0 m F L' H _ s w (fun y m1 vy H1 e1 w1 => ?_) (b.fst.subC hz)
  have b1 := b.snd e1
  have w2 : Wd G.K G.O L' (rootS G.K N (.nd (.obj Ca ns) ts) v (get m1) :: rootS G.K N tk vy y :: (Z m1 ++ F)) H1 := (w1.perm (List.Perm.cons _ ((hC m1).append_right F))).perm (List.Perm.swap _ _ _)
  obtain ⟨B, wb⟩ := w2
  obtain ⟨f, ho, hnN⟩ := wb.rt _ (.head _)
  obtain ⟨fy, hy, hny⟩ := wb.rt _ (.tail _ (.head _))
  generalize hg : get m1 = d0 at ho wb
  cases ho with
  | @nd _ _ p o vs ds f hp ha hzz =>
    obtain ⟨hl2, dx, rfl⟩ := id ha
    refine ⟨.ref p, hv, p, Ca, dx, _, rfl, hp, c, n0, zip_lt vs hl, ?_⟩
    rw [zip_add hl2 hn]
    have e0 : fps [rootS G.K N (.nd (.obj Ca ns) ts) (.ref p) (ndD (.obj Ca ns) ds), rootS G.K N tk vy y] H1 = (p :: f) ++ fy := by
      rw [fps_two, rootS_fp (.nd hp ha hzz), rootS_fp hy]
    have hnd := wb.nd
    rw [show (rootS G.K N (.nd (.obj Ca ns) ts) (.ref p) (ndD (.obj Ca ns) ds) :: rootS G.K N tk vy y :: (Z m1 ++ F)) = [rootS G.K N (.nd (.obj Ca ns) ts) (.ref p) (ndD (.obj Ca ns) ds), rootS G.K N tk vy y] ++ (Z m1 ++ F) from rfl, fps_app, e0] at hnd
    have hnd1 := (List.nodup_append.mp hnd).1
    have hpn : p ∉ f ++ fy := (List.nodup_cons.mp hnd1).1
    have hpB : ¬ B p := wb.nb p (by
      rw [show (rootS G.K N (.nd (.obj Ca ns) ts) (.ref p) (ndD (.obj Ca ns) ds) :: rootS G.K N tk vy y :: (Z m1 ++ F)) = [rootS G.K N (.nd (.obj Ca ns) ts) (.ref p) (ndD (.obj Ca ns) ds), rootS G.K N tk vy y] ++ (Z m1 ++ F) from rfl, fps_app, e0]
      exact List.mem_append.mpr (.inl (.head _)))
    have kk' : Kp B H1 B (upd H1 p (.ins Ca dx ((ns ++ [nm]).zip (vs ++ [vy])))) := fun q o b e => ⟨b, by rw [upd_ne fun z => hpB (by rw [← z]; exact b)]; exact e⟩
    have hnew : Own G.K B (upd H1 p (.ins Ca dx ((ns ++ [nm]).zip (vs ++ [vy])))) (.nd (.obj Ca (ns ++ [nm])) (ts ++ [tk])) (.ref p) (.tuple (ds ++ [y])) (p :: (f ++ fy)) := by
      refine Own.nd (k := .obj Ca (ns ++ [nm])) upd_same ⟨by simp [hl2], dx, rfl⟩ ?_
      exact (hzz.mono kk' fun q hq => upd_ne fun z => hpn (by rw [← z]; exact List.mem_append.mpr (.inl hq))).snoc (hy.mono kk' fun q hq => upd_ne fun z => hpn (by rw [← z]; exact List.mem_append.mpr (.inr hq)))
    have w3 : Wb G.K G.O B L' ([rootS G.K N (.nd (.obj Ca (ns ++ [nm])) (ts ++ [tk])) (.ref p) (.tuple (ds ++ [y]))] ++ (Z m1 ++ F)) (upd H1 p (.ins Ca dx ((ns ++ [nm]).zip (vs ++ [vy])))) := by
      refine Wb.swapSub (C := [rootS G.K N (.nd (.obj Ca ns) ts) (.ref p) (ndD (.obj Ca ns) ds), rootS G.K N tk vy y]) wb ?_ ?_ ?_ ?_ ?_
      · intro q hq
        rw [fps_one, rootS_fp hnew] at hq
        rw [e0]; exact hq
      · rw [fps_one, rootS_fp hnew]; exact hnd1
      · intro q hq
        rw [e0] at hq
        exact upd_ne fun z => hq (by rw [z]; exact .head _)
      · intro q hq
        by_cases z : q = p
        · rw [z]; exact ⟨_, upd_same⟩
        · rw [upd_ne z]
          obtain ⟨c', hc', hq2⟩ := List.mem_flatMap.mp hq
          refine c'.occ (wb.rt c' ?_) q hq2
          rcases mem2 hc' with e | e
          · rw [e]; exact .head _
          · rw [e]; exact .tail _ (.head _)
      · intro _ c' hc'
        rw [mem1 hc']
        refine ⟨_, hnew, fun q hq => ?_⟩
        rcases List.mem_append.mp (show q ∈ (p :: f) ++ fy from hq) with z | z
        · exact hnN q z
        · exact hny q z
    refine q () _ σ [] C2 _ ?_ (Wd.perm (C := rootS G.K N (.nd (.obj Ca (ns ++ [nm])) (ts ++ [tk])) (.ref p) (.tuple (ds ++ [y])) :: (Z m1 ++ F)) ⟨B, w3⟩ ((hC' m1 _).append_right F)) hk2
    rw [bd_ok e1]
    have := mdP_ok (get := get) (put := put) (p := []) (m := m1) (f := faddN y) (r := ndD (.obj Ca ns) ds) (y := .tuple (ds ++ [y])) (by rw [hg]; rfl) rfl
    rw [this, setP_nil]
/-- a new object -/
theorem RK_false {K : PySem.W.Frag} {N : Addr → Prop} : ∀ {kp : List Bool} {ts : List Ty} {vs : List V} {ds : List D}, (∀ b ∈ kp, b = false) → RK K N kp ts vs ds = []
  | [], _, _, _, _ => rfl
  | b :: kp, [], _, _, h => by cases h b (.head _); rfl
  | b :: kp, _ :: _, [], _, h => by cases h b (.head _); rfl
  | b :: kp, _ :: _, _ :: _, [], h => by cases h b (.head _); rfl
  | b :: kp, t :: ts, v :: vs, d :: ds, h => by
    cases h b (.head _)
    exact RK_false (kp := kp) fun b hb => h b (.tail _ hb)
theorem makeZ {XR : D → Value → Option Addr → Root} {mf : List D → SM (List D) D} {m1 : μ} {F : List Root} {L' L2 : List (V × D)} {H1 : Hp} {Q : VK} {EE : XK} {xs : List D} {tsf : μ → List D} {pb : List D → μ → μ} {vs us ws : List V} {Hs : List Root} (hN : ∀ q, q ∉ G.O.fp → N q) (hkp : ∀ b ∈ kp, b = false) (s2 : ∀ f ∈ L', f ∈ L2) (mx : Mix k vs us ws) (i2 : In2 L2 us xs) (l1 : ws.length = pts.length) (l2 : (tsf m1).length = pts.length)
    (w1 : Wd G.K G.O L2 (RA G.K N pts ws (tsf m1) ++ (Hs ++ (Zs m1 ++ F))) H1) (hr : ∀ ts' m2 L3 F2 H2, ts'.length = pts.length → Wd G.K G.O L3 (RK G.K N kp pts ws ts' ++ (Hs ++ (Zs m2 ++ F2))) H2 → Wd G.K G.O L3 (Cr (pb ts' m2) ++ F2) H2) (nb : mf xs (tsf m1) ≠ .bad) {p dx : Addr} (hp : H1 p = none) (hdx : H1 dx = none) (hne : dx ≠ p)
    (q : ∀ x ts' H', mf xs (tsf m1) = .ok x ts' → Wd G.K G.O L' (rootS G.K N (.nd (.obj Ca ns) tys) (.ref p) x :: (Cr (pb (tsf m1) m1) ++ F)) H' → Q .non H')
    (qx : ∀ e ts' cls d H', mf xs (tsf m1) = .exc e ts' → Wd G.K G.O L' (XR e cls d :: (Cr (pb (tsf m1) m1) ++ F)) H' → EE cls d H') : SpIZ G.K XR Ca ns tys k pts mf (.ref p :: vs) (upd (upd H1 dx (.own p)) p (.ins Ca dx [])) Q EE := by
  obtain ⟨B, wb⟩ := w1
  have sm0 : Same H1 (upd (upd H1 dx (.own p)) p (.ins Ca dx [])) := fun b u q => by
    rw [upd_ne (ne_of_none q hp), upd_ne (ne_of_none q hdx)]; exact q
  have nbp : ¬ B p := fun z => by
    obtain ⟨o, ho⟩ := wb.bo p z
    rw [hp] at ho; cases ho
  have wg := wb.grow sm0 (B' := B) (fun _ b => b) (fun _ b => .inl b)
  have hpf : p ∉ fps (RA G.K N pts ws (tsf m1) ++ (Hs ++ (Zs m1 ++ F))) (upd (upd H1 dx (.own p)) p (.ins Ca dx [])) := by
    rw [wb.same sm0]; exact wb.free hp
  have hobj : Own G.K B (upd (upd H1 dx (.own p)) p (.ins Ca dx [])) (.nd (.obj Ca []) []) (.ref p) (.tuple []) (p :: []) := Own.nd (k := .obj Ca []) (vs := []) (ds := []) upd_same ⟨rfl, dx, rfl⟩ .nil
  have wa : Wb G.K G.O B L2 (rootS G.K N (.nd (.obj Ca []) []) (.ref p) (.tuple []) :: (RA G.K N pts ws (tsf m1) ++ (Hs ++ (Zs m1 ++ F)))) (upd (upd H1 dx (.own p)) p (.ins Ca dx [])) := by
    refine wg.addR ⟨_, hobj, fun q hq => ?_⟩ (fun q hq => ?_) ?_
    · rw [List.mem_singleton.mp hq]; exact hN p (wb.nofp hp)
    · rw [rootS_fp hobj] at hq
      rw [List.mem_singleton.mp hq]
      exact ⟨wb.none hp, nbp, hpf⟩
    · rw [rootS_fp hobj]; exact List.nodup_cons.mpr ⟨by simp, List.nodup_nil⟩
  have e0 : fps (RA G.K tr_ pts ws (tsf m1)) (upd (upd H1 dx (.own p)) p (.ins Ca dx [])) = fps (RA G.K N pts ws (tsf m1)) (upd (upd H1 dx (.own p)) p (.ins Ca dx [])) := RA_fps _ _ _
  have hnd := wg.nd
  rw [fps_app] at hnd
  have hP : ∀ c ∈ RA G.K N pts ws (tsf m1), c.P B (upd (upd H1 dx (.own p)) p (.ins Ca dx [])) := fun c hc => wg.rt c (List.mem_append.mpr (.inl hc))
  have e1 : fps (rootS G.K N (.nd (.obj Ca []) []) (.ref p) (.tuple []) :: RA G.K N pts ws (tsf m1)) (upd (upd H1 dx (.own p)) p (.ins Ca dx [])) = p :: fps (RA G.K tr_ pts ws (tsf m1)) (upd (upd H1 dx (.own p)) p (.ins Ca dx [])) := by
    rw [fps_cons, rootS_fp hobj, e0]; rfl
  have free : ∀ {q : Addr}, (upd (upd H1 dx (.own p)) p (.ins Ca dx [])) q = none → H1 q = none := fun {q} hq => by
    cases z : H1 q with
    | none => rfl
    | some o => rw [sm0 q o z] at hq; cases hq
  have rest : ∀ {H' : Hp} {L3 : List (V × D)} {F2 : List Root}, Wd G.K G.O L3 (Hs ++ (Zs m1 ++ F2)) H' → Wd G.K G.O L3 (Cr (pb (tsf m1) m1) ++ F2) H' := fun {H' L3 F2} w => hr (tsf m1) m1 L3 F2 H' l2 (by rw [RK_false hkp]; exact w)
  refine ⟨by rw [List.length_cons, mx.len], B, p, dx, vs, us, ws, xs, tsf m1, rfl, upd_same, mx, fun q b => ?_, nbp, Dt.monoAll (fun q o b e => ⟨b, sm0 q o e⟩) _ _ (i2.dt wb.ft), l2, l1, ?_, fun q hq => wg.nb q (by rw [fps_app]; exact List.mem_append.mpr (.inl (by rw [← e0]; exact hq))), RA_tr hP, nb, fun x ts' H' B' ex r => ?_, fun e ts' cls d H' B' ex r => ?_⟩
  · obtain ⟨o, ho⟩ := wb.bo q b
    exact ⟨o, sm0 q o ho⟩
  · refine List.nodup_cons.mpr ⟨fun z => hpf (by rw [fps_app]; exact List.mem_append.mpr (.inl (by rw [← e0]; exact z))), by rw [e0]; exact (List.nodup_append.mp hnd).1⟩
  · have w3 := Wb.call (C := rootS G.K N (.nd (.obj Ca []) []) (.ref p) (.tuple []) :: RA G.K N pts ws (tsf m1)) (Z := Hs ++ (Zs m1 ++ F)) wa (fun q => by rw [e1]) r
    have w4 : Wd G.K G.O L2 (rootS G.K N (.nd (.obj Ca ns) tys) (.ref p) x :: (Hs ++ (Zs m1 ++ F))) H' := by
      obtain ⟨f, ho, _⟩ := w3.rt _ (.head _)
      have hNf : ∀ q ∈ f, N q := fun q hq => by
        rcases r.fr q (by rw [fps_one, rootS_fp ho]; exact hq) with z | z
        · rcases List.mem_cons.mp z with z | z
          · rw [z]; exact hN p (wb.nofp hp)
          · rw [e0] at z; exact RA_N hP q z
        · exact hN q (wb.nofp (free z))
      refine Wd.imp (C := [rootS G.K tr_ (.nd (.obj Ca ns) tys) (.ref p) x]) ⟨B', w3⟩ fun B2 _ hr2 => ?_
      obtain ⟨f2, ho2, _⟩ := hr2 _ (.head _)
      refine ⟨[rootS G.K N (.nd (.obj Ca ns) tys) (.ref p) x], .refl _, fun c hc => ?_, fun w' => w'⟩
      rw [mem1 hc]
      exact ⟨f2, ho2, fun q hq => hNf q (by rw [ho.uniq B2 f2 ho2]; exact hq)⟩
    have w5 := rest (F2 := rootS G.K N (.nd (.obj Ca ns) tys) (.ref p) x :: F) (w4.perm (perm3 [] _ _ _ _).symm)
    exact q x ts' H' ex ((w5.perm List.perm_middle).sub s2)
  · have w3 := Wb.call (C := rootS G.K N (.nd (.obj Ca []) []) (.ref p) (.tuple []) :: RA G.K N pts ws (tsf m1)) (Z := Hs ++ (Zs m1 ++ F)) wa (fun q => by rw [e1]) r
    have w4 : Wd G.K G.O L2 (XR e cls d :: (Hs ++ (Zs m1 ++ F))) H' := ⟨B', w3⟩
    have w5 := rest (F2 := XR e cls d :: F) (w4.perm (perm3 [] _ _ _ _).symm)
    exact qx e ts' cls d H' ex ((w5.perm List.perm_middle).sub s2)
theorem fts_mkZ {mf : List D → SM (List D) D} (hN : ∀ q, q ∉ G.O.fp → N q) (hkp : ∀ b ∈ kp, b = false) (h : AS G tr σ L C Zs Cr N k kp pts Es) : FTs G N (tMake Ca (SpIZ G.K G.XR Ca ns tys k pts mf) [] G.Xk tr) σ L C Cr (.nd (.obj Ca ns) tys) (mkZ mf Es) := by
  intro m F L' H Q s w q b
  refine h m F L' H _ s w (fun xs tsf pb m1 vs us ws Hs H1 L2 e1 s2 mx i2 l1 l2 w1 hr p dx hp hdx hne => ?_) b.fst
  have er : mkZ mf Es m = (match mf xs (tsf m1) with | .ok x _ => .ok x (pb (tsf m1) m1) | .exc e _ => .exc e (pb (tsf m1) m1) | .bad => .bad) := bd_ok e1
  rw [List.append_nil]
  exact makeZ hN hkp s2 mx i2 l1 l2 w1 hr (fun z => b.2 (by rw [er, z])) hp hdx hne (fun x ts' H' ex w' => ⟨rfl, q x (pb (tsf m1) m1) (.ref p) H' (by rw [er, ex]) w'⟩) fun e ts' cls d H' ex w' => b.1 e (pb (tsf m1) m1) cls d H' (by rw [er, ex]) w'
theorem fts_mkZ0 {XR : D → Value → Option Addr → Root} {mf : List D → SM (List D) D} (hN : ∀ q, q ∉ G.O.fp → N q) (hkp : ∀ b ∈ kp, b = false) (h : AS G tr σ L C Zs Cr N k kp pts Es) : FTs G N (tMake Ca (SpIZ G.K XR Ca ns tys k pts mf) [] E0 tr) σ L C Cr (.nd (.obj Ca ns) tys) (mkZ0 mf Es) := by
  intro m F L' H Q s w q b
  refine h m F L' H _ s w (fun xs tsf pb m1 vs us ws Hs H1 L2 e1 s2 mx i2 l1 l2 w1 hr p dx hp hdx hne => ?_) b.fst
  have er : mkZ0 mf Es m = (match mf xs (tsf m1) with | .ok x _ => .ok x (pb (tsf m1) m1) | _ => .bad) := bd_ok e1
  have ok : ∃ x ts', mf xs (tsf m1) = .ok x ts' := by
    have hb := b.2
    rw [er] at hb
    cases z : mf xs (tsf m1) with
    | ok x ts' => exact ⟨x, ts', rfl⟩
    | exc e' ts' => rw [z] at hb; exact absurd rfl hb
    | bad => rw [z] at hb; exact absurd rfl hb
  obtain ⟨x0, t0, e0⟩ := ok
  rw [List.append_nil]
  exact makeZ hN hkp s2 mx i2 l1 l2 w1 hr (by rw [e0]; intro z; cases z) hp hdx hne (fun x ts' H' ex w' => ⟨rfl, q x (pb (tsf m1) m1) (.ref p) H' (by rw [er, ex]) w'⟩) fun e ts' cls d H' ex w' => by rw [e0] at ex; cases ex
/-! bodies -/
theorem Wd.newN {K : PySem.W.Frag} {O : Og} {B : Addr → Prop} {Z : List Root} {H : Hp} (wb : Wb K O B L (rootS K (fun q => q ∉ O.fp) t v d :: Z) H) : Wb K O B L (rootS K (fun q => O.H q = Option.none) t v d :: Z) H := by
  obtain ⟨f, ho, hn⟩ := wb.rt _ (.head _)
  refine wb.swap (C := [rootS K (fun q => q ∉ O.fp) t v d]) (C' := [rootS K (fun q => O.H q = Option.none) t v d]) (.refl _) (fun _ _ => rfl) (fun q hq => ?_) (fun _ c hc => ?_)
  · obtain ⟨c, hc, hq2⟩ := List.mem_flatMap.mp hq
    rw [mem1 hc] at hq2
    exact (rootS K (fun q => q ∉ O.fp) t v d).occ (wb.rt _ (.head _)) q hq2
  · rw [mem1 hc]
    refine ⟨f, ho, fun q hq => ?_⟩
    exact (wb.fr q (by rw [fps_cons, rootS_fp ho]; exact List.mem_append.mpr (.inl hq))).resolve_left (hn q hq)
theorem body_Z {K : PySem.W.Frag} {XR : D → Value → Option Addr → Root} {mf : List D → SM (List D) D} {tsm : TS} {Nn : List Str} {H : Hp} {vs : List V} {Q : VK} {EE : XK} (hsp : SpZ K XR k pts kp ty mf vs H Q EE) (inj : List D → μ) (prj : μ → List D) (hl : ∀ m, (prj m).length = pts.length)
    (h : ∀ (us ws : List V) (ds : List D) (O : Og), Mix k vs us ws → us.length = ds.length → ws.length = pts.length → ∃ (C0 : μ → List Root) (T : SM μ (Fl Unit Empty)), mf ds = zbody inj prj (fin T) ∧ (∀ ts, ts.length = pts.length → C0 (inj ts) = RA K tr_ pts ws ts) ∧
      SV ⟨K, O, EE, XR, rfS K O ty⟩ (fun m => RK K tr_ kp pts ws (prj m)) tsm (start Nn vs) (us.zip ds) C0 T (fun _ _ _ C2 => ty = .fr ∧ C2 = fun m => RK K tr_ kp pts ws (prj m)) (fun z _ _ _ => z.elim)) : tsm { nx := fun _ H' => Q .non H', rt := Q } (start Nn vs) H := by
  obtain ⟨_, B, us, ws, ds, ts, mx, hb, hd, lt, lw, hnd, hnb, hr, nb, q, qx⟩ := hsp
  obtain ⟨C0, T, hT, hC, hS⟩ := h us ws ds ⟨B, H, fps (RA K tr_ pts ws ts) H⟩ mx hd.len lw
  have w0 : Wd K ⟨B, H, fps (RA K tr_ pts ws ts) H⟩ (us.zip ds) (C0 (inj ts) ++ []) H := by
    rw [List.append_nil, hC ts lt]
    refine ⟨B, fun p b => b, fun p b => .inl b, hnd, hnb, fun p hp => .inl hp, hr, zip_dt hd, fun p o _ e => e, fun p hp => ?_, hb⟩
    obtain ⟨c, hc, hq⟩ := List.mem_flatMap.mp hp
    exact c.occ (hr c hc) p hq
  have okc : ∀ {x : D} {m' : μ} {v : V} {H' : Hp} {LL : List (V × D)}, fin T (inj ts) = .ok x m' → Wd K ⟨B, H, fps (RA K tr_ pts ws ts) H⟩ LL ([rootS K (fun q => q ∉ fps (RA K tr_ pts ws ts) H) ty v x] ++ (RK K tr_ kp pts ws (prj m') ++ [])) H' → Q v H' := fun {x m' v H' LL} e w => by
    obtain ⟨B', wb⟩ := w
    have wb2 := Wd.newN (Z := RK K tr_ kp pts ws (prj m') ++ []) wb
    rw [List.append_nil] at wb2
    refine q x (prj m') v H' B' ?_ (hl m') (Fr.of hb wb2)
    rw [hT]; unfold zbody; rw [e]
  refine hS (inj ts) [] (us.zip ds) H _ (fun f hf => hf) w0 ?_ ?_ ?_ ?_ ?_
  · intro s m' σ' L2 C2 H' e hC2 w
    obtain ⟨rfl, rfl⟩ := hC2
    refine okc (x := .none) (bd_ok e) ((Wd.ofFS (v := .non) (d := .none) ((w.fact (v := .non) (d := .none) fun _ _ => .non)) (.head _)))
  · intro s; exact s.elim
  · intro s; exact s.elim
  · rintro x m' v H' _ _ e ⟨rfl, rfl⟩ w
    exact okc (bd_ok e) w
  · refine ⟨fun e m' cls d H' ex w => ?_, fun z => nb ?_⟩
    · obtain ⟨B', wb⟩ := w
      rw [List.append_nil] at wb
      have e2 : fin T (inj ts) = .exc e m' := bd_exc ex
      refine qx e (prj m') cls d H' B' ?_ (hl m') (Fr.of hb wb)
      rw [hT]; unfold zbody; rw [e2]
    · have e2 : fin T (inj ts) = .bad := bd_bad z
      rw [hT]; unfold zbody; rw [e2]
theorem body_IZ {K : PySem.W.Frag} {XR : D → Value → Option Addr → Root} {mf : List D → SM (List D) D} {tsm : TS} {Nn : List Str} {H : Hp} {vs : List V} {Q : VK} {EE : XK} (hsp : SpIZ K XR Ca ns tys k pts mf vs H Q EE) (inj : List D → μ) (obj : μ → D)
    (h : ∀ (a : Addr) (vs0 us ws : List V) (ds : List D) (O : Og), vs = .ref a :: vs0 → Mix k vs0 us ws → us.length = ds.length → ws.length = pts.length → ∃ (C0 : μ → List Root) (T : SM μ (Fl Unit Empty)), mf ds = ibody inj obj T ∧ (∀ ts, ts.length = pts.length → C0 (inj ts) = rootS K tr_ (.nd (.obj Ca []) []) (.ref a) (.tuple []) :: RA K tr_ pts ws ts) ∧
      SV ⟨K, O, EE, XR, fun _ _ _ _ => False⟩ (fun _ => []) tsm (start Nn vs) (us.zip ds) C0 T (fun _ _ _ C2 => C2 = fun m => [rootS K tr_ (.nd (.obj Ca ns) tys) (.ref a) (obj m)]) (fun z _ _ _ => z.elim)) : tsm { nx := fun _ H' => Q .non H', rt := Q } (start Nn vs) H := by
  obtain ⟨_, B, a, dx, vs0, us, ws, ds, ts, rfl, ha, mx, hb, hnB, hd, lt, lw, hnd, hnb, hr, nb, q, qx⟩ := hsp
  obtain ⟨C0, T, hT, hC, hS⟩ := h a vs0 us ws ds ⟨B, H, a :: fps (RA K tr_ pts ws ts) H⟩ rfl mx hd.len lw
  have hobj : Own K B H (.nd (.obj Ca []) []) (.ref a) (.tuple []) (a :: []) := Own.nd (k := .obj Ca []) (vs := []) (ds := []) ha ⟨rfl, dx, rfl⟩ .nil
  have ef : fps (rootS K tr_ (.nd (.obj Ca []) []) (.ref a) (.tuple []) :: RA K tr_ pts ws ts) H = a :: fps (RA K tr_ pts ws ts) H := by
    rw [fps_cons, rootS_fp hobj]; rfl
  have hP : ∀ c ∈ rootS K tr_ (.nd (.obj Ca []) []) (.ref a) (.tuple []) :: RA K tr_ pts ws ts, c.P B H := fun c hc => by
    rcases List.mem_cons.mp hc with e | e
    · rw [e]; exact ⟨_, hobj, fun _ _ => trivial⟩
    · exact hr c e
  have w0 : Wd K ⟨B, H, a :: fps (RA K tr_ pts ws ts) H⟩ (us.zip ds) (C0 (inj ts) ++ []) H := by
    rw [List.append_nil, hC ts lt]
    refine ⟨B, fun p b => b, fun p b => .inl b, by rw [ef]; exact hnd, fun p hp => ?_, fun p hp => .inl (by rw [← ef]; exact hp), hP, zip_dt hd, fun p o _ e => e, fun p hp => ?_, hb⟩
    · rw [ef] at hp
      rcases List.mem_cons.mp hp with z | z
      · rw [z]; exact hnB
      · exact hnb p z
    · have hp' : p ∈ fps (rootS K tr_ (.nd (.obj Ca []) []) (.ref a) (.tuple []) :: RA K tr_ pts ws ts) H := by rw [ef]; exact hp
      obtain ⟨c, hc, hq⟩ := List.mem_flatMap.mp hp'
      exact c.occ (hP c hc) p hq
  refine hS (inj ts) [] (us.zip ds) H _ (fun f hf => hf) w0 ?_ ?_ ?_ ?_ ?_
  · intro s m' σ' L2 C2 H' e hC2 w
    subst hC2
    obtain ⟨B', wb⟩ := w
    rw [List.append_nil] at wb
    refine q (obj m') [] H' B' ?_ (Fr.of hb wb)
    rw [hT]; unfold ibody; rw [e]
  · intro s; exact s.elim
  · intro s; exact s.elim
  · intro x m' v H' _ _ e z; exact z.elim
  · refine ⟨fun e m' cls d H' ex w => ?_, fun z => nb ?_⟩
    · obtain ⟨B', wb⟩ := w
      refine qx e [] cls d H' B' ?_ (Fr.of hb wb)
      rw [hT]; unfold ibody; rw [ex]
    · rw [hT]; unfold ibody; rw [z]
theorem body_lawZ {K : PySem.W.Frag} {tsm : TS} {Nn : List Str} {H : Hp} {vs : List V} {Q : VK} {EE : XK} (ml : D → SM μ D) (m00 : μ) (hsp : sp_law K vs H Q EE) (hm : ∀ ns : List Int, ns.length ≤ 63 → (∀ z ∈ ns, Builtin.Int.intBits z ≤ 1048576) → ∃ m', ml (scrD (ns.map .int)) m00 = .ok (.bool true) m')
    (h : ∀ (v : V) (x : D) (O : Og), vs = [v] → ∃ (R : SM μ (Fl Unit Empty)), ml x = fin R ∧ SV ⟨K, O, E0, noX, rfF⟩ (fun _ => []) tsm (start Nn vs) [(v, x)] (fun _ => []) R (fun _ _ _ _ => True) (fun z _ _ _ => z.elim)) : tsm { nx := fun _ H' => Q .non H', rt := Q } (start Nn vs) H := by
  obtain ⟨a, ns, rfl, hS, h63, hbits, q⟩ := hsp
  obtain ⟨m', em⟩ := hm ns h63 hbits
  obtain ⟨R, hR, hV⟩ := h (.ref a) (scrD (ns.map .int)) ⟨fun p => ∃ o, H p = some o, H, []⟩ rfl
  have hf : FzS K (fun p => ∃ o, H p = some o) H a (ns.map V.int) := by
    rcases hS with (z | ⟨u, z⟩) | z
    · exact .inl ⟨⟨_, z⟩, .inl z⟩
    · exact .inl ⟨⟨_, z⟩, .inr ⟨u, z⟩⟩
    · exact .inr z
  have w0 : Wd K ⟨fun p => ∃ o, H p = some o, H, []⟩ [(.ref a, scrD (ns.map .int))] ([] ++ []) H := by
    refine ⟨fun p => ∃ o, H p = some o, fun p b => b, fun p b => .inl b, List.nodup_nil, fun p hp => (by cases hp), fun p hp => (by cases hp), fun c hc => (by cases hc), fun f hf' => ?_, fun p o _ e => e, fun p hp => (by cases hp), fun p b => b⟩
    rcases List.mem_cons.mp hf' with e | e
    · subst e
      exact .scr hf (DtAll.ints ns)
    · cases e
  rw [hR] at em
  refine hV m00 [] _ H _ (fun f hf => hf) w0 ?_ ?_ ?_ ?_ ?_
  · intro s m1 σ' L2 C2 H' e _ w
    have : fin R m00 = .ok .none m1 := bd_ok e
    rw [this] at em
    cases em
  · intro s; exact s.elim
  · intro s; exact s.elim
  · rintro x m1 v H' _ _ e ⟨rfl, rfl⟩ w
    have : fin R m00 = .ok x m1 := bd_ok e
    rw [this] at em
    cases em
    obtain ⟨B, hd⟩ := w.dt (.head _)
    rw [hd.bl_inv]
    exact q H'
  · refine ⟨fun e m' cls d H' z => ?_, fun z => ?_⟩
    · have e2 : fin R m00 = .exc e m' := bd_exc z
      rw [e2] at em; cases em
    · have e2 : fin R m00 = .bad := bd_bad z
      rw [e2] at em; cases em
end
/-! ### the deck, handed to a def of kind D -/
namespace SM
def cDl {μ : Type} (get : μ → D) (put : D → μ → μ) (mf : List D → SM D D) (Es : SM μ (List D)) : SM μ D := bd Es fun xs => fun m => match mf xs (get m) with
  | .ok x d => .ok x (put d m)
  | _ => .bad
end SM
section
open SM
variable {μ : Type} {G : Gx} {σ : St} {L : List (V × D)} {C Z : μ → List Root} {i n : Nat} {v : V} {N : Addr → Prop} {get : μ → D} {put : D → μ → μ}
theorem ev_cDS {ta : TA} {Es : SM μ (List D)} {mf : List D → SM D D} (hv : σ[i]? = some (some v)) (hn : ∀ ds m, mf ds m ≠ .bad → ds.length = n) (h : AV G ta σ L C Es) (hC : ∀ m, (C m).Perm (rootS G.K N (.ls .fr) v (get m) :: Z m)) (hC' : ∀ m d, (rootS G.K N (.ls .fr) v d :: Z m).Perm (C (put d m))) :
    EV G (tCall (SpD G.K n mf) [] E0 (tCons (tVar i) ta)) σ L C (cDl get put mf Es) := by
  intro m F L' H Q s w q b
  refine ⟨v, hv, h m F L' H _ s w (fun xs m1 vs H1 L2 e1 s2 i2 w1 => ?_) b.fst⟩
  have er : cDl get put mf Es m = (match mf xs (get m1) with | .ok x d => .ok x (put d m1) | _ => .bad) := bd_ok e1
  have ok : ∃ x d, mf xs (get m1) = .ok x d := by
    have hb := b.2
    rw [er] at hb
    cases z : mf xs (get m1) with
    | ok x d => exact ⟨x, d, rfl⟩
    | exc e' d => rw [z] at hb; exact absurd rfl hb
    | bad => rw [z] at hb; exact absurd rfl hb
  obtain ⟨x, d', ex⟩ := ok
  obtain ⟨a, rfl, hNa, w2⟩ := Wd.toLS (w1.perm ((hC m1).append_right F))
  show SpD G.K n mf ((.ref a :: vs) ++ []) H1 Q E0
  rw [List.append_nil]
  obtain ⟨B, wb⟩ := w2
  have ha : ¬ B a := wb.nb a (by rw [fps_cons]; exact .head _)
  refine ⟨by rw [List.length_cons, i2.len, hn xs (get m1) (by rw [ex]; intro z; cases z)], B, a, vs, xs, get m1, x, d', rfl, wb.bo, ha, i2.dt wb.ft, wb.rt _ (.head _), ex, fun v H' B' hk h1 h2 hd hr => ?_⟩
  have w3 := Wb.chg (Z := Z m1 ++ F) wb hk h1 h2 hr
  have w4 : Wd G.K G.O ((v, x) :: L') (rootL G.K a d' :: (Z m1 ++ F)) H' := ⟨B', (w3.fact hd).fts fun f hf => by
    rcases List.mem_cons.mp hf with e | e
    · subst e; exact hd
    · exact w3.ft f (s2 f e)⟩
  exact q x (put d' m1) v H' (by rw [er, ex]) ((Wd.ofLS w4 hNa).perm ((hC' m1 d').append_right F))
end
/-! ### reading trees as a whole (S) -/
/-- a tree that nobody changes for a while -/
def rootF (K : PySem.W.Frag) (t : Ty) (v : V) (d : D) : Root where
  fp := fun _ => []
  same := fun _ _ _ => rfl
  P := fun B H => ∃ f, Own K B H t v d f ∧ ∀ q ∈ f, B q
  mono := fun k e h => by
    obtain ⟨f, ho, hb⟩ := h
    refine ⟨f, ho.mono k fun q hq => ?_, fun q hq => ?_⟩
    · obtain ⟨o, h1, _⟩ := ho.occ q hq
      rw [h1]; exact (k q o (hb q hq) h1).2
    · obtain ⟨o, h1, _⟩ := ho.occ q hq
      exact (k q o (hb q hq) h1).1
  occ := fun _ q hq => by cases hq
inductive Frz (K : PySem.W.Frag) : List Root → List Root → Prop
  | nil : Frz K [] []
  | cons {N : Addr → Prop} {t : Ty} {v : V} {d : D} {A C : List Root} : Frz K A C → Frz K (rootS K N t v d :: A) (rootF K t v d :: C)
section
variable {K : PySem.W.Frag} {O : Og} {L : List (V × D)} {A C Z : List Root} {B B' B2 : Addr → Prop} {H H' : Hp}
theorem Frz.fps (h : Frz K A C) : fps C H = [] := by
  induction h with
  | nil => rfl
  | cons _ ih => rw [fps_cons, ih]; rfl
theorem Frz.P (h : Frz K A C) (hk : Kp B H B' H) (hP : ∀ c ∈ A, c.P B H) (hB : ∀ q ∈ My.fps A H, B' q) : ∀ c ∈ C, c.P B' H := by
  induction h with
  | nil => intro c hc; cases hc
  | @cons N t v d A C _ ih =>
    intro c hc
    rcases List.mem_cons.mp hc with e | e
    · obtain ⟨f, ho, _⟩ := hP (rootS K N t v d) (.head _)
      rw [e]
      exact ⟨f, ho.mono hk fun _ _ => rfl, fun q hq => hB q (by rw [fps_cons, rootS_fp ho]; exact List.mem_append.mpr (.inl hq))⟩
    · exact ih (fun c hc => hP c (.tail _ hc)) (fun q hq => hB q (by rw [fps_cons]; exact List.mem_append.mpr (.inr hq))) c e
theorem Frz.chg (h : Frz K A C) (hP : ∀ c ∈ A, c.P B H) : ∀ q ∈ My.fps A H, ∃ o, H q = some o ∧ Chg o = true := by
  induction h with
  | nil => intro q hq; cases hq
  | @cons N t v d A C _ ih =>
    intro q hq
    obtain ⟨f, ho, _⟩ := hP (rootS K N t v d) (.head _)
    rw [fps_cons, rootS_fp ho] at hq
    rcases List.mem_append.mp hq with e | e
    · exact ho.occ q e
    · exact ih (fun c hc => hP c (.tail _ hc)) q e
open SM in
mutual
theorem lfr_dt (hB : ∀ p xs, B p → Rd H p (.tup xs) → B2 p) : ∀ (d : D) (v : V), lfr d = true → Dt K B H v d → Dt K B2 H v d
  | .none, _, _, h => by cases h; exact .non
  | .bool _, _, _, h => by cases h; exact .bl _
  | .int _, _, _, h => by cases h; exact .int _
  | .str _, _, _, h => by cases h; exact .str _
  | .list _, _, e, _ => by simp [lfr] at e
  | .dict _, _, e, _ => by simp [lfr] at e
  | .tuple ds, _, e, h => by
    have e2 : lfr.lfrA ds = true := by simpa [lfr] using e
    cases h with
    | tup b a => exact .tup (b.imp (fun z => ⟨hB _ _ z.1 z.2, z.2⟩) id) (lfr_dtA hB ds _ e2 a)
theorem lfr_dtA (hB : ∀ p xs, B p → Rd H p (.tup xs) → B2 p) : ∀ (ds : List D) (vs : List V), lfr.lfrA ds = true → DtAll K B H vs ds → DtAll K B2 H vs ds
  | [], _, _, h => by cases h; exact .nil
  | d :: ds, _, e, h => by
    have e2 : lfr d = true ∧ lfr.lfrA ds = true := by simpa [lfr.lfrA] using e
    cases h with
    | cons x y => exact .cons (lfr_dt hB d _ e2.1 x) (lfr_dtA hB ds _ e2.2 y)
end
theorem mem_nil_elim {α : Type} {x : α} {P : Prop} (h : x ∈ ([] : List α)) : P := by cases h
/-- all is read alone for a while: the world within -/
theorem Frz.into (h : Frz K A C) (wb : Wb K O B L (A ++ Z) H) : Wd K ⟨fun q => B q ∨ q ∈ My.fps A H, H, []⟩ L (C ++ []) H := by
  have hP : ∀ c ∈ A, c.P B H := fun c hc => wb.rt c (List.mem_append.mpr (.inl hc))
  have k : Kp B H (fun q => B q ∨ q ∈ My.fps A H) H := fun q o b e => ⟨.inl b, e⟩
  refine ⟨fun q => B q ∨ q ∈ My.fps A H, fun p b => b, fun p b => .inl b, ?_, fun p hp => ?_, fun p hp => ?_, fun c hc => ?_, fun f hf => Dt.mono k _ _ (wb.ft f hf), fun p o _ e => e, fun p hp => (by cases hp), fun p b => ?_⟩
  · rw [List.append_nil, h.fps]; exact List.nodup_nil
  · rw [List.append_nil, h.fps] at hp; cases hp
  · rw [List.append_nil, h.fps] at hp; cases hp
  · rw [List.append_nil] at hc
    exact h.P k hP (fun q hq => .inr hq) c hc
  · rcases b with b | b
    · exact wb.bo p b
    · obtain ⟨o, ho, _⟩ := h.chg hP p b
      exact ⟨o, ho⟩
/-- and out again: what is new and holds no list of these stays -/
theorem Frz.out (h : Frz K A C) (wb : Wb K O B L (A ++ Z) H) {L2 : List (V × D)} {F2 : List Root} (wb' : Wb K ⟨fun q => B q ∨ q ∈ My.fps A H, H, []⟩ B' L2 F2 H') : Wb K O (fun q => B q ∨ (B' q ∧ H q = none)) L (A ++ Z) H' ∧ (∀ p xs, B' p → Rd H' p (.tup xs) → B p ∨ (B' p ∧ H p = none)) ∧ Same H H' := by
  have sm : Same H H' := fun p o e => wb'.kp p o (by intro z; cases z) e
  have hP : ∀ c ∈ A, c.P B H := fun c hc => wb.rt c (List.mem_append.mpr (.inl hc))
  refine ⟨wb.grow sm (fun q b => .inl b) (fun q b => b.imp id fun z => ⟨z.2, wb'.bo q z.1⟩), fun p xs b r => ?_, sm⟩
  rcases wb'.hi p b with (z | z) | z
  · exact .inl z
  · obtain ⟨o, ho, hc⟩ := h.chg hP p z
    have := sm p o ho
    rcases r with r | ⟨u, r⟩
    · rw [r] at this; cases this; cases hc
    · rw [r] at this; cases this; cases hc
  · exact .inr ⟨b, z⟩
end
namespace SM
variable {μ : Type}
def rdr (E : μ → SM Unit D) : SM μ D := fun m => match E m () with
  | .ok x _ => if lfr x then .ok x m else .bad
  | _ => .bad
def rdrB (T : μ → SM Unit Bool) : SM μ Bool := fun m => match T m () with
  | .ok c _ => .ok c m
  | _ => .bad
/-- a list of what holds no list -/
def lfL : D → Bool
  | .list ds => lfr.lfrA ds
  | _ => false
def rdrL (E : μ → SM Unit D) : SM μ D := fun m => match E m () with
  | .ok x _ => if lfL x then .ok x m else .bad
  | _ => .bad
def addL : D → D → Option D
  | .list a, .list b => if a.length + b.length ≤ sizeLine then some (.list (a ++ b)) else none
  | _, _ => none
def kidO (i : Nat) (r : D) : Option D := kidD r i
def ixR (r x : D) : Option D := match x with
  | .int k => match ixD r k with
    | some n => kidD r n
    | none => none
  | _ => none
end SM
section
open SM
variable {X : Cx} {μ τ τ' ρ : Type} {G : Gx} {σ : St} {L : List (V × D)} {C C' C0 C1 C2 Cp Z : μ → List Root} {te ta tb tc ti : TE} {tr : TA} {tt tu : TT} {E1 E2 E3 : SM μ D} {i j n : Nat} {v u vy : V} {x d y : D} {t tk tm ty : Ty} {N N' : Addr → Prop} {Ca : Addr} {ns : List Str} {ts pts tys : List Ty} {nm m0 : Str} {A CF : μ → List Root}
theorem rdr_nb {E : μ → SM Unit D} {m : μ} (h : rdr E m ≠ .bad) : ∃ x, E m () = .ok x () ∧ lfr x = true ∧ rdr E m = .ok x m := by
  unfold rdr at h ⊢
  cases e : E m () with
  | ok x u =>
    rw [e] at h
    cases l : lfr x with
    | true => exact ⟨x, rfl, l, by simp [l]⟩
    | false => simp [l] at h
  | exc e' u => rw [e] at h; exact absurd rfl h
  | bad => rw [e] at h; exact absurd rfl h
theorem rdrL_nb {E : μ → SM Unit D} {m : μ} (h : rdrL E m ≠ .bad) : ∃ x, E m () = .ok x () ∧ lfL x = true ∧ rdrL E m = .ok x m := by
  unfold rdrL at h ⊢
  cases e : E m () with
  | ok x u =>
    rw [e] at h
    cases l : lfL x with
    | true => exact ⟨x, rfl, l, by simp [l]⟩
    | false => simp [l] at h
  | exc e' u => rw [e] at h; exact absurd rfl h
  | bad => rw [e] at h; exact absurd rfl h
theorem rdrB_nb {T : μ → SM Unit Bool} {m : μ} (h : rdrB T m ≠ .bad) : ∃ x, T m () = .ok x () ∧ rdrB T m = .ok x m := by
  unfold rdrB at h ⊢
  cases e : T m () with
  | ok x u => exact ⟨x, rfl, rfl⟩
  | exc e' u => rw [e] at h; exact absurd rfl h
  | bad => rw [e] at h; exact absurd rfl h
theorem ev_rdr {E : μ → SM Unit D} (hC : ∀ m, (C m).Perm (A m ++ Z m)) (hA : ∀ m, Frz G.K (A m) (CF m)) (h : ∀ m O', EV ⟨G.K, O', G.Xk, G.XR, G.rf⟩ te σ L (fun _ : Unit => CF m) (E m)) : EV G te σ L C (rdr E) := by
  intro m F L' H Q s w q b
  obtain ⟨x, ex, hx, er⟩ := rdr_nb b.2
  have w1 : Wd G.K G.O L' (A m ++ (Z m ++ F)) H := w.perm (by rw [← List.append_assoc]; exact (hC m).append_right F)
  obtain ⟨B, wb⟩ := w1
  refine h m ⟨fun q => B q ∨ q ∈ fps (A m) H, H, []⟩ () [] L' H _ s ((hA m).into wb) (fun x' m' v H' e' w' => ?_) (by rw [ex]; exact bk_ok)
  rw [ex] at e'; cases e'
  obtain ⟨B', wb'⟩ := w'
  obtain ⟨wg, hB, sm⟩ := (hA m).out wb wb'
  have hd := lfr_dt hB x v hx (wb'.ft _ (.head _))
  have w2 : Wd G.K G.O ((v, x) :: L') (A m ++ (Z m ++ F)) H' := ⟨_, wg.fact hd⟩
  exact q x m v H' er (w2.perm (by rw [← List.append_assoc]; exact (hC m).symm.append_right F))
theorem tv_rdr {T : μ → SM Unit Bool} (hC : ∀ m, (C m).Perm (A m ++ Z m)) (hA : ∀ m, Frz G.K (A m) (CF m)) (h : ∀ m O', TV ⟨G.K, O', G.Xk, G.XR, G.rf⟩ tt σ L (fun _ : Unit => CF m) (T m)) : TV G tt σ L C (rdrB T) := by
  intro m F L' H Q s w q b
  obtain ⟨x, ex, er⟩ := rdrB_nb b.2
  have w1 : Wd G.K G.O L' (A m ++ (Z m ++ F)) H := w.perm (by rw [← List.append_assoc]; exact (hC m).append_right F)
  obtain ⟨B, wb⟩ := w1
  refine h m ⟨fun q => B q ∨ q ∈ fps (A m) H, H, []⟩ () [] L' H _ s ((hA m).into wb) (fun x' m' H' e' w' => ?_) (by rw [ex]; exact bk_ok)
  rw [ex] at e'; cases e'
  obtain ⟨B', wb'⟩ := w'
  obtain ⟨wg, hB, sm⟩ := (hA m).out wb wb'
  have w2 : Wd G.K G.O L' (A m ++ (Z m ++ F)) H' := ⟨_, wg⟩
  exact q x m H' er (w2.perm (by rw [← List.append_assoc]; exact (hC m).symm.append_right F))
theorem fts_rdrL {E : μ → SM Unit D} (hC : ∀ m, (C m).Perm (A m ++ Z m)) (hA : ∀ m, Frz G.K (A m) (CF m)) (h : ∀ m O', FTs ⟨G.K, O', G.Xk, G.XR, G.rf⟩ (nw ⟨G.K, O', G.Xk, G.XR, G.rf⟩) te σ L (fun _ : Unit => CF m) (fun _ => CF m) (.ls .fr) (E m)) : FTs G (nw G) te σ L C C (.ls .fr) (rdrL E) := by
  intro m F L' H Q s w q b
  obtain ⟨x, ex, hx, er⟩ := rdrL_nb b.2
  have w1 : Wd G.K G.O L' (A m ++ (Z m ++ F)) H := w.perm (by rw [← List.append_assoc]; exact (hC m).append_right F)
  obtain ⟨B, wb⟩ := w1
  refine h m ⟨fun q => B q ∨ q ∈ fps (A m) H, H, []⟩ () [] L' H _ s ((hA m).into wb) (fun x' m' v H' e' w' => ?_) (by rw [ex]; exact bk_ok)
  rw [ex] at e'; cases e'
  obtain ⟨p, rfl, _, w'⟩ := Wd.toLS w'
  obtain ⟨B', wb'⟩ := w'
  obtain ⟨wg, hB, sm⟩ := (hA m).out wb wb'
  obtain ⟨ds, vs, rfl, hp, hd⟩ := wb'.rt _ (.head _)
  have hds : lfr.lfrA ds = true := hx
  have hd2 := lfr_dtA hB ds vs hds hd
  have hpm : p ∈ fps (rootL G.K p (.list ds) :: (CF m ++ [])) H' := by rw [fps_cons]; exact .head _
  have hpn : H p = none := (wb'.fr p hpm).resolve_left (by intro z; cases z)
  have hpB : ¬ B' p := wb'.nb p hpm
  have wa : Wb G.K G.O (fun q => B q ∨ (B' q ∧ H q = none)) L' (rootL G.K p (.list ds) :: (A m ++ (Z m ++ F))) H' := by
    refine wg.addR ⟨ds, vs, rfl, hp, hd2⟩ (fun q hq => ?_) (List.nodup_cons.mpr ⟨by simp, List.nodup_nil⟩)
    rw [List.mem_singleton.mp hq]
    refine ⟨wb.none hpn, fun z => ?_, by rw [wb.same sm]; exact wb.free hpn⟩
    rcases z with z | z
    · obtain ⟨o, ho⟩ := wb.bo p z
      rw [ho] at hpn; cases hpn
    · exact hpB z.1
  have w2 := Wd.ofLS (N := nw G) ⟨_, wa⟩ (wb.nofp hpn)
  exact q (.list ds) m (.ref p) H' er (w2.perm (List.Perm.cons _ (by rw [← List.append_assoc]; exact (hC m).symm.append_right F)))
/-! within: places of frozen trees -/
def PF (G : Gx) (te : TE) (σ : St) (L : List (V × D)) (C : μ → List Root) (tk : Ty) (E : SM μ D) : Prop :=
  ∀ m F L' H Q, (∀ x ∈ L, x ∈ L') → Wd G.K G.O L' (C m ++ F) H →
    (∀ x m' v H', E m = .ok x m' → Wd G.K G.O L' (rootF G.K tk v x :: (C m' ++ F)) H' → Q v H') → Bk G C F L' (E m) → te σ H Q
theorem Wd.dupF {K : PySem.W.Frag} {O : Og} {Z : List Root} {H : Hp} (w : Wd K O L Z H) (h : ∀ B, (∀ c ∈ Z, c.P B H) → (rootF K t v d).P B H) : Wd K O L (rootF K t v d :: Z) H := by
  obtain ⟨B, wb⟩ := w
  exact ⟨B, wb.addR (r := rootF K t v d) (h B wb.rt) (fun p hp => by cases hp) List.nodup_nil⟩
theorem pf_var (hv : σ[i]? = some (some v)) (hC : ∀ m, rootF G.K t v d ∈ C m) : PF G (tVar i) σ L C t (pu d) := fun m F L' H Q s w q _ => ⟨v, hv, q d m v H rfl (w.dupF fun B hr => hr _ (List.mem_append.mpr (.inl (hC m))))⟩
theorem Own.kidF {K : PySem.W.Frag} {B : Addr → Prop} {H : Hp} {f : List Addr} (h : Own K B H t v d f) (hB : ∀ q ∈ f, B q) (ht : kidT t n = some tk) {dk : D} (hd : kidD d n = some dk) : ∃ u, NodeAt K H t v d n u ∧ (rootF K tk u dk).P B H := by
  obtain ⟨u, fk, g, h1, h2, h3, _⟩ := h.zoom ht hd
  exact ⟨u, h3, fk, h2, fun q hq => hB q (h1.mem_iff.mpr (List.mem_append.mpr (.inl hq)))⟩
theorem Wd.kidF {K : PySem.W.Frag} {O : Og} {Z : List Root} {H : Hp} (w : Wd K O L (rootF K t v d :: Z) H) (ht : kidT t n = some tk) {dk : D} (hd : kidD d n = some dk) : ∃ u, NodeAt K H t v d n u ∧ Wd K O L (rootF K tk u dk :: Z) H := by
  obtain ⟨B, wb⟩ := w
  obtain ⟨f, ho, hb⟩ := wb.rt _ (.head _)
  obtain ⟨u, h1, h2⟩ := ho.kidF hb ht hd
  refine ⟨u, h1, ?_⟩
  have w2 : Wb K O B L Z H := by
    obtain ⟨w3, w4⟩ := (⟨wb, rfl⟩ : Wb K O B L (rootF K t v d :: Z) H ∧ True = True)
    have hs : fps (rootF K t v d :: Z) H = fps Z H := rfl
    exact ⟨w3.lo, w3.hi, by rw [← hs]; exact w3.nd, fun p hp => w3.nb p (by rw [hs]; exact hp), fun p hp => w3.fr p (by rw [hs]; exact hp), fun c hc => w3.rt c (.tail _ hc), w3.ft, w3.kp, w3.oc, w3.bo⟩
  exact ⟨B, w2.addR (r := rootF K tk u dk) h2 (fun p hp => by cases hp) List.nodup_nil⟩
theorem Wd.nodeF {K : PySem.W.Frag} {O : Og} {Z : List Root} {H : Hp} {k : Nk} {r : D} {u : V} (w : Wd K O L (rootF K (.nd k ts) u r :: Z) H) (hk : ts[i]? = some tk) : ∃ x, kidD r i = some x := by
  obtain ⟨B, wb⟩ := w
  obtain ⟨f, ho, _⟩ := wb.rt _ (.head _)
  cases ho with
  | @nd _ _ p o vs ds f hp ha hz =>
    have hi : i < ts.length := (List.getElem?_eq_some_iff.mp hk).1
    rw [hz.len.2] at hi
    exact ⟨ds[i], by rw [kid_nd]; exact List.getElem?_eq_getElem hi⟩
theorem pf_fld (h : PF G ta σ L C (.nd (.obj Ca ns) ts) E1) (c : Cls G.K Ca) (n0 : NoAttr G.K Ca nm) (hn : ns.Nodup) (hi : ns[i]? = some nm) (hk : ts[i]? = some tk) : PF G (tFld G.K ta nm) σ L C tk (bd E1 fun r => of (kidO i r)) := by
  intro m F L' H Q s w q b
  refine h m F L' H _ s w (fun r m1 u H1 e1 w1 => ?_) b.fst
  obtain ⟨x, hx⟩ := Wd.nodeF w1 hk
  obtain ⟨u2, hN, w2⟩ := Wd.kidF w1 (n := i) hk hx
  cases hN with
  | @nd _ _ p' o vs ds _ _ hp ha hl hu =>
    obtain ⟨hl2, dx, rfl⟩ := ha
    exact ⟨p', Ca, dx, _, u2, rfl, hp, c, n0, zip_look hn hi hu, q x m1 u2 H1 (by rw [bd_ok e1]; exact of_ok hx m1) w2⟩
theorem pf_key {ks : List Str} (h : PF G ta σ L C (.nd (.rc ks) ts) E1) (hn : ks.Nodup) (hi : ks[i]? = some nm) (hk : ts[i]? = some tk) : PF G (tDGet ta (tC (.str nm))) σ L C tk (bd E1 fun r => of (kidO i r)) := by
  intro m F L' H Q s w q b
  refine h m F L' H _ s w (fun r m1 u H1 e1 w1 => ?_) b.fst
  obtain ⟨x, hx⟩ := Wd.nodeF w1 hk
  obtain ⟨u2, hN, w2⟩ := Wd.kidF w1 (n := i) hk hx
  cases hN with
  | @nd _ _ p' o vs ds _ _ hp ha hl hu =>
    obtain ⟨hl2, rfl⟩ := ha
    refine ⟨p', u2, rfl, ?_, q x m1 u2 H1 (by rw [bd_ok e1]; exact of_ok hx m1) w2⟩
    have := DGet.k (k := Sum.inr nm) hp
    rw [rc_look hn hi hu] at this
    exact this
theorem pf_ix (h : PF G ta σ L C (.ls tk) E1) (hi : EV G tb σ L C E2) : PF G (tOp (rIx G.K) ta tb) σ L C tk (bd E1 fun r => bd E2 fun x => of (ixR r x)) := by
  intro m F L' H Q s w q b
  refine h m F L' H _ s w (fun r m1 u H1 e1 w1 => ?_) b.fst
  have b1 := b.snd e1
  refine hi m1 (rootF G.K (.ls tk) u r :: F) L' H1 _ s (w1.perm List.perm_middle.symm) (fun x m2 iv H2 e2 w2 => ?_) b1.fst.addF
  have b2 := b1.snd e2
  have w3 := w2.perm (C' := rootF G.K (.ls tk) u r :: (C m2 ++ F)) List.perm_middle
  cases ef : ixR r x with
  | none => rw [ef] at b2; exact absurd rfl b2.2
  | some z =>
    unfold ixR at ef
    cases x with
    | int k =>
      simp only at ef
      cases en : ixD r k with
      | none => rw [en] at ef; cases ef
      | some n =>
        rw [en] at ef
        have hiv : iv = .int k := by
          obtain ⟨B, wb⟩ := w2
          exact (wb.ft _ (.head _)).int_inv
        subst hiv
        obtain ⟨u2, hN, w4⟩ := Wd.kidF w3 (n := n) (tk := tk) rfl ef
        refine ix_of (x := z) (tm := .ls tk) (tk := tk) en rfl rfl hN (q z m2 u2 H2 ?_ (w4.sub fun f hf => .tail _ hf))
        rw [bd_ok e1, bd_ok e2]
        refine of_ok ?_ m2
        unfold ixR
        simp only [en]
        exact ef
    | _ => cases ef
theorem ev_pf (ht : t.dat = true) (h : PF G te σ L C t E1) : EV G te σ L C E1 := by
  intro m F L' H Q s w q b
  refine h m F L' H _ s w (fun x m1 v H1 e1 w1 => q x m1 v H1 e1 ?_) b
  obtain ⟨B, wb⟩ := w1
  obtain ⟨f, ho, hb⟩ := wb.rt _ (.head _)
  have hd := ho.dt' (fun _ b => b) ht hb
  exact Wd.subC (C' := C m1 ++ F) ⟨B, wb.fact hd⟩ (List.sublist_cons_self _ _)
/-- a + b of lists, a new list -/
theorem fv_add (h1 : EV G ta σ L C E1) (h2 : EV G tb σ L C E2) : FV G (tOp (rAddU G.K) ta tb) σ L C (op2 addL E1 E2) := by
  intro m F L' H Q s w q b
  refine h1 m F L' H _ s w (fun x m1 v H1 e1 w1 => ?_) b.fst
  have b1 := b.snd e1
  refine h2 m1 F ((v, x) :: L') H1 _ (fun f hf => .tail _ (s f hf)) w1 (fun y m2 u H2 e2 w2 => ?_) (b1.fst.mono fun f hf => .tail _ hf)
  have b2 := b1.snd e2
  cases ef : addL x y with
  | none => rw [ef] at b2; exact absurd rfl b2.2
  | some z =>
    have ef0 := ef
    obtain ⟨B, wb⟩ := w2
    have hx := wb.ft _ (.tail _ (.head _))
    have hy := wb.ft _ (.head _)
    cases x <;> cases y <;> simp only [addL] at ef <;> (try cases ef)
    split at ef
    · next c =>
      cases ef
      obtain ⟨p, xs, rfl, hl, ha⟩ := Dt.lst_inv hx
      obtain ⟨p2, ys, rfl, hl2, ha2⟩ := Dt.lst_inv hy
      refine .inr (.inl ⟨p, p2, xs, ys, rfl, rfl, hl.sq, hl2.sq, by rw [ha.len, ha2.len]; exact c, fun r hr => ?_⟩)
      have w3 := Wb.rootD wb hr (ha.app ha2)
      refine q _ m2 r _ ?_ (wb.nofp hr) ((w3.sub fun f hf => .tail _ (.tail _ hf)).perm List.perm_middle.symm)
      show bd E1 _ m = _
      rw [bd_ok e1, bd_ok e2]
      exact of_ok ef0 m2
    · cases ef
end
/-! ### small rows (S) -/
section
open SM
variable {μ τ ρ : Type} {G : Gx} {σ : St} {L : List (V × D)} {C C' Cp Cp' Z : μ → List Root} {s0 : TS} {R : SM μ (Fl τ ρ)} {Jn : Shp μ τ} {Jl : Shp μ ρ} {N N' : Addr → Prop} {t : Ty} {v : V} {get : μ → D}
theorem sv_cp (e : Cp = Cp') (h : SV G Cp' s0 σ L C R Jn Jl) : SV G Cp s0 σ L C R Jn Jl := by rw [e]; exact h
theorem sv_weakS (hC : ∀ m, (C m).Perm (rootS G.K N t v (get m) :: Z m)) (hC' : ∀ m, (rootS G.K N' t v (get m) :: Z m).Perm (C' m)) (hN : ∀ q, N q → N' q) (h : SV G Cp s0 σ L C' R Jn Jl) : SV G Cp s0 σ L C R Jn Jl := by
  intro m F L' H d s w
  exact h m F L' H d s ((Wd.weakS (w.perm ((hC m).append_right F)) hN).perm ((hC' m).append_right F))
end
theorem Mix.fr_inv {k : List Bool} {vs us ws : List V} (h : Mix (false :: k) vs us ws) : ∃ v vs' us', vs = v :: vs' ∧ us = v :: us' ∧ Mix k vs' us' ws := by
  cases h with
  | fr h => exact ⟨_, _, _, rfl, rfl, h⟩
theorem Mix.tr_inv {k : List Bool} {vs us ws : List V} (h : Mix (true :: k) vs us ws) : ∃ v vs' ws', vs = v :: vs' ∧ ws = v :: ws' ∧ Mix k vs' us ws' := by
  cases h with
  | tr h => exact ⟨_, _, _, rfl, rfl, h⟩
theorem Mix.nil_inv {vs us ws : List V} (h : Mix [] vs us ws) : vs = [] ∧ us = [] ∧ ws = [] := by
  cases h; exact ⟨rfl, rfl, rfl⟩
/-! what leaves the state as it is -/
namespace SM
variable {μ α β : Type}
class Pr (E : SM μ α) : Prop where
  pr : ∀ m x m', E m = .ok x m' → m' = m
instance pr_pu (a : α) : Pr (pu a : SM μ α) := ⟨fun m x m' e => by cases e; rfl⟩
instance pr_of (a : Option α) : Pr (of a : SM μ α) := ⟨fun m x m' e => by
  cases a with
  | none => cases e
  | some a => cases e; rfl⟩
instance pr_bd {x : SM μ α} {f : α → SM μ β} [h : Pr x] [g : ∀ a, Pr (f a)] : Pr (bd x f) := ⟨fun m y m' e => by
  obtain ⟨a, m1, e1, e2⟩ := ok_inv e
  rw [(g a).pr m1 y m' e2, h.pr m a m1 e1]⟩
instance pr_op2 {f : D → D → Option D} {E1 E2 : SM μ D} [h1 : Pr E1] [h2 : Pr E2] : Pr (op2 f E1 E2) := pr_bd
instance pr_op1 {f : D → Option D} {E1 : SM μ D} [h1 : Pr E1] : Pr (op1 f E1) := pr_bd
instance pr_opL {f : List D → Option D} {E1 : SM μ (List D)} [h1 : Pr E1] : Pr (opL f E1) := pr_bd
instance pr_a0 : Pr (a0 : SM μ (List D)) := pr_pu _
instance pr_ac {E : SM μ D} {Es : SM μ (List D)} [h1 : Pr E] [h2 : Pr Es] : Pr (ac E Es) := pr_bd
instance pr_rdP {get : μ → D} {p : List Nat} : Pr (rdP get p) := ⟨fun m x m' e => by
  unfold rdP at e
  cases h : getP (get m) p with
  | none => rw [h] at e; cases e
  | some r => rw [h] at e; cases e; rfl⟩
instance pr_nr1 {E : SM μ α} [h : Pr E] : Pr (nr1 E) := ⟨fun m x m' e => by
  unfold nr1 at e
  cases h2 : E m with
  | ok a m1 => rw [h2] at e; cases e; exact h.pr m x m' h2
  | exc e' m1 => rw [h2] at e; cases e
  | bad => rw [h2] at e; cases e⟩
theorem pr_keep {E : SM μ α} {γ : Type} (g : μ → γ) [h : Pr E] : ∀ m x m', E m = .ok x m' → g m' = g m := fun m x m' e => by rw [h.pr m x m' e]
end SM
/-! defs that raise nothing -/
namespace SM
def qz (mf : List D → SM (List D) D) : List D → SM (List D) D := fun ds ts => match mf ds ts with
  | .ok x t => .ok x t
  | _ => .bad
theorem qz_nb {mf : List D → SM (List D) D} {ds ts : List D} (h : qz mf ds ts ≠ .bad) : ∃ x t, mf ds ts = .ok x t := by
  unfold qz at h
  cases e : mf ds ts with
  | ok x t => exact ⟨x, t, rfl⟩
  | exc e' t => rw [e] at h; exact absurd rfl h
  | bad => rw [e] at h; exact absurd rfl h
theorem qz_ok {mf : List D → SM (List D) D} {ds ts t : List D} {x : D} (h : mf ds ts = .ok x t) : qz mf ds ts = .ok x t := by unfold qz; rw [h]
end SM
section
open SM
variable {μ : Type} {G : Gx} {σ : St} {L : List (V × D)} {C Cr Zs : μ → List Root} {tr : TA} {Es : SM μ (List D × (μ → List D) × (List D → μ → μ))} {ty : Ty} {N : Addr → Prop} {pts : List Ty} {k kp : List Bool}
theorem fts_cZq {XR : D → Value → Option Addr → Root} {mf : List D → SM (List D) D} (hN : ∀ q, q ∉ G.O.fp → N q) (h : AS G tr σ L C Zs Cr N k kp pts Es) : FTs G (nw G) (tCall (SpZ G.K XR k pts kp ty (qz mf)) [] E0 tr) σ L C Cr ty (cZ0 mf Es) := by
  intro m F L' H Q s w q b
  refine h m F L' H _ s w (fun xs tsf pb m1 vs us ws Hs H1 L2 e1 s2 mx i2 l1 l2 w1 hr => ?_) b.fst
  have er : cZ0 mf Es m = (match mf xs (tsf m1) with | .ok x ts => .ok x (pb ts m1) | _ => .bad) := bd_ok e1
  obtain ⟨x0, t0, e0⟩ := cZ0_nb e1 b.2
  rw [List.append_nil]
  refine callZ hN s2 mx i2 l1 l2 w1 hr (by rw [qz_ok e0]; intro z; cases z) (fun x ts' v H' ex w' => q x (pb ts' m1) v H' ?_ w') fun e ts' cls d H' ex w' => by rw [qz_ok e0] at ex; cases ex
  rw [qz_ok e0] at ex
  cases ex
  rw [er, e0]
theorem body_Zq {K : PySem.W.Frag} {XR : D → Value → Option Addr → Root} {mf : List D → SM (List D) D} {tsm : TS} {Nn : List Str} {H : Hp} {vs : List V} {Q : VK} {EE : XK} (hsp : SpZ K XR k pts kp ty (qz mf) vs H Q EE) (inj : List D → μ) (prj : μ → List D) (hl : ∀ m, (prj m).length = pts.length)
    (h : ∀ (us ws : List V) (ds : List D) (O : Og), Mix k vs us ws → us.length = ds.length → ws.length = pts.length → ∃ (C0 : μ → List Root) (T : SM μ (Fl Unit Empty)), mf ds = zbody inj prj (fin T) ∧ (∀ ts, ts.length = pts.length → C0 (inj ts) = RA K tr_ pts ws ts) ∧
      SV ⟨K, O, E0, noX, rfS K O ty⟩ (fun m => RK K tr_ kp pts ws (prj m)) tsm (start Nn vs) (us.zip ds) C0 T (fun _ _ _ C2 => ty = .fr ∧ C2 = fun m => RK K tr_ kp pts ws (prj m)) (fun z _ _ _ => z.elim)) : tsm { nx := fun _ H' => Q .non H', rt := Q } (start Nn vs) H := by
  obtain ⟨hvl, B, us, ws, ds, ts, mx, hb, hd, lt, lw, hnd, hnb, hr, nb, q, qx⟩ := hsp
  obtain ⟨x0, t0, e0⟩ := qz_nb nb
  obtain ⟨C0, T, hT, hC, hS⟩ := h us ws ds ⟨B, H, fps (RA K tr_ pts ws ts) H⟩ mx hd.len lw
  have et : fin T (inj ts) = .ok x0 (match fin T (inj ts) with | .ok _ m => m | _ => inj ts) := by
    have := e0
    rw [hT] at this
    unfold zbody at this
    cases e : fin T (inj ts) with
    | ok a m => rw [e] at this; cases this; rfl
    | exc a m => rw [e] at this; cases this
    | bad => rw [e] at this; cases this
  have w0 : Wd K ⟨B, H, fps (RA K tr_ pts ws ts) H⟩ (us.zip ds) (C0 (inj ts) ++ []) H := by
    rw [List.append_nil, hC ts lt]
    refine ⟨B, fun p b => b, fun p b => .inl b, hnd, hnb, fun p hp => .inl hp, hr, zip_dt hd, fun p o _ e => e, fun p hp => ?_, hb⟩
    obtain ⟨c, hc, hq⟩ := List.mem_flatMap.mp hp
    exact c.occ (hr c hc) p hq
  have okc : ∀ {x : D} {m' : μ} {v : V} {H' : Hp} {LL : List (V × D)}, fin T (inj ts) = .ok x m' → Wd K ⟨B, H, fps (RA K tr_ pts ws ts) H⟩ LL ([rootS K (fun q => q ∉ fps (RA K tr_ pts ws ts) H) ty v x] ++ (RK K tr_ kp pts ws (prj m') ++ [])) H' → Q v H' := fun {x m' v H' LL} e w => by
    obtain ⟨B', wb⟩ := w
    have wb2 := Wd.newN (Z := RK K tr_ kp pts ws (prj m') ++ []) wb
    rw [List.append_nil] at wb2
    refine q x (prj m') v H' B' (qz_ok ?_) (hl m') (Fr.of hb wb2)
    rw [hT]; unfold zbody; rw [e]
  refine hS (inj ts) [] (us.zip ds) H _ (fun f hf => hf) w0 ?_ ?_ ?_ ?_ ?_
  · intro s m' σ' L2 C2 H' e hC2 w
    obtain ⟨rfl, rfl⟩ := hC2
    refine okc (x := .none) (bd_ok e) ((Wd.ofFS (v := .non) (d := .none) ((w.fact (v := .non) (d := .none) fun _ _ => .non)) (.head _)))
  · intro s; exact s.elim
  · intro s; exact s.elim
  · rintro x m' v H' _ _ e ⟨rfl, rfl⟩ w
    exact okc (bd_ok e) w
  · refine ⟨fun e m' cls d H' ex w => ?_, fun z => ?_⟩
    · have e2 : fin T (inj ts) = .exc e m' := bd_exc ex
      rw [e2] at et; cases et
    · have e2 : fin T (inj ts) = .bad := bd_bad z
      rw [e2] at et; cases et
end
theorem passN0 {X : Cx} : Passes (L2N.CX X.prog X.w) X E0 := fun _ _ _ _ _ _ _ h => by
  obtain ⟨_, _, _, _, _, _, _, _, _, _, _, _, h⟩ := h
  exact h.elim
/-! ### displays and comprehensions of trees; trees read of trees (S) -/
namespace SM
mutual
/-- leaves that hold no list -/
def lfT : Ty → D → Bool
  | .fr, d => lfr d
  | .ls t, d => match d with
    | .list ds => ds.all fun d => lfT t d
    | _ => false
  | .tp ts, d => match d with
    | .tuple ds => lfTs ts ds
    | _ => false
  | _, _ => false
def lfTs : List Ty → List D → Bool
  | [], [] => true
  | t :: ts, d :: ds => lfT t d && lfTs ts ds
  | _, _ => false
end
def rdrT {μ : Type} (t : Ty) (E : μ → SM Unit D) : SM μ D := fun m => match E m () with
  | .ok x _ => if lfT t x then .ok x m else .bad
  | _ => .bad
def zTup {μ : Type} (Es : SM μ (List D × (μ → List D) × (List D → μ → μ))) : SM μ D := bd Es fun q => fun m => .ok (.tuple (q.2.1 m)) (q.2.2 (q.2.1 m) m)
def zLst {μ : Type} (Es : SM μ (List D × (μ → List D) × (List D → μ → μ))) : SM μ D := bd Es fun q => fun m => .ok (.list (q.2.1 m)) (q.2.2 (q.2.1 m) m)
end SM
open SM in
theorem lfTs_rep {t : Ty} : ∀ ds : List D, (ds.all fun d => lfT t d) = true → lfTs (List.replicate ds.length t) ds = true
  | [], _ => by simp [lfTs]
  | d :: ds, h => by
    rw [List.all_cons, Bool.and_eq_true] at h
    rw [List.length_cons, List.replicate_succ]
    simp only [lfTs]
    rw [h.1, lfTs_rep ds h.2]; rfl
section
open SM
variable {K : PySem.W.Frag} {B B2 : Addr → Prop} {H : Hp} {t : Ty} {v : V} {d : D} {f : List Addr}
theorem lfT_own (hB : ∀ p xs, B p → Rd H p (.tup xs) → B2 p) (h : Own K B H t v d f) : lfT t d = true → Own K B2 H t v d f :=
  Own.rec (motive_1 := fun t v d f _ => lfT t d = true → Own K B2 H t v d f) (motive_2 := fun ts vs ds f _ => lfTs ts ds = true → OwnZ K B2 H ts vs ds f)
    (fun h e => .fr (lfr_dt hB _ _ (by simpa only [lfT] using e) h)) (fun e => by simp [lfT] at e) (fun e => by simp [lfT] at e) (fun _ _ e => by simp [lfT] at e)
    (fun hp _ ih e => .ls hp (ih (lfTs_rep _ (by simpa only [lfT] using e))))
    (fun hp _ ih e => .tp ⟨hB _ _ hp.1 (.inl hp.2), hp.2⟩ (ih (by simpa only [lfT] using e)))
    (fun _ _ _ _ e => by simp [lfT] at e) (fun _ _ e => by simp [lfT] at e) (fun _ _ e => by simp [lfT] at e) (fun _ _ e => by simp [lfT] at e) (fun _ _ e => by simp [lfT] at e)
    (fun _ => .nil) (fun {t v d f ts vs ds g} _ _ i1 i2 e => by
      have e2 : lfT t d = true ∧ lfTs ts ds = true := by simpa [lfTs] using e
      exact .cons (i1 e2.1) (i2 e2.2)) h
end
/-- a place of one's own -/
def rootP (p : Addr) : Root where
  fp := fun _ => [p]
  same := fun _ _ _ => rfl
  P := fun _ H => ∃ o, H p = some o
  mono := fun _ e h => by rw [e p (.head _)]; exact h
  occ := fun h q hq => by rw [List.mem_singleton.mp hq]; exact h
theorem RA_own {K : PySem.W.Frag} {N B : Addr → Prop} {H : Hp} : ∀ {ts : List Ty} {vs : List V} {ds : List D}, vs.length = ts.length → ds.length = ts.length → (∀ c ∈ RA K N ts vs ds, c.P B H) → ∃ f, OwnZ K B H ts vs ds f ∧ fps (RA K N ts vs ds) H = f ∧ ∀ q ∈ f, N q
  | [], [], [], _, _, _ => ⟨[], .nil, rfl, fun q hq => (by cases hq)⟩
  | t :: ts, v :: vs, d :: ds, h1, h2, h => by
    obtain ⟨f1, o1, n1⟩ := h (rootS K N t v d) (.head _)
    obtain ⟨f2, o2, e2, n2⟩ := RA_own (ts := ts) (vs := vs) (ds := ds) (by simpa using h1) (by simpa using h2) fun c hc => h c (.tail _ hc)
    refine ⟨f1 ++ f2, .cons o1 o2, ?_, fun q hq => (List.mem_append.mp hq).elim (n1 q) (n2 q)⟩
    show foot K t v d H ++ fps (RA K N ts vs ds) H = _
    rw [foot_eq o1, e2]
theorem Mix.allT {k : List Bool} {vs us ws : List V} (h : Mix k vs us ws) : (∀ b ∈ k, b = true) → vs = ws := by
  induction h with
  | nil => intro _; rfl
  | fr _ ih => intro h; cases h false (.head _)
  | tr _ ih => intro h; rw [ih fun b hb => h b (.tail _ hb)]
section
open SM
variable {X : Cx} {μ τ τ' ρ : Type} {G : Gx} {σ : St} {L : List (V × D)} {C C' C0 C1 C2 Cp Cr Z Zs : μ → List Root} {te ta tb tc ti : TE} {tr : TA} {tt tu : TT} {E E1 E2 E3 : SM μ D} {Es : SM μ (List D × (μ → List D) × (List D → μ → μ))} {i j n : Nat} {v u vy : V} {x d y : D} {t tk tm ty : Ty} {N N' : Addr → Prop} {pts : List Ty} {k kp : List Bool} {A CF : μ → List Root}
theorem rdrT_nb {E : μ → SM Unit D} {m : μ} (h : rdrT t E m ≠ .bad) : ∃ x, E m () = .ok x () ∧ lfT t x = true ∧ rdrT t E m = .ok x m := by
  unfold rdrT at h ⊢
  cases e : E m () with
  | ok x u =>
    rw [e] at h
    cases l : lfT t x with
    | true => exact ⟨x, rfl, l, by simp [l]⟩
    | false => simp [l] at h
  | exc e' u => rw [e] at h; exact absurd rfl h
  | bad => rw [e] at h; exact absurd rfl h
theorem fts_rdrT {E : μ → SM Unit D} (hC : ∀ m, (C m).Perm (A m ++ Z m)) (hA : ∀ m, Frz G.K (A m) (CF m)) (h : ∀ m O', FTs ⟨G.K, O', G.Xk, G.XR, G.rf⟩ (nw ⟨G.K, O', G.Xk, G.XR, G.rf⟩) te σ L (fun _ : Unit => CF m) (fun _ => CF m) t (E m)) : FTs G (nw G) te σ L C C t (rdrT t E) := by
  intro m F L' H Q s w q b
  obtain ⟨x, ex, hx, er⟩ := rdrT_nb b.2
  have w1 : Wd G.K G.O L' (A m ++ (Z m ++ F)) H := w.perm (by rw [← List.append_assoc]; exact (hC m).append_right F)
  obtain ⟨B, wb⟩ := w1
  refine h m ⟨fun q => B q ∨ q ∈ fps (A m) H, H, []⟩ () [] L' H _ s ((hA m).into wb) (fun x' m' v H' e' w' => ?_) (by rw [ex]; exact bk_ok)
  rw [ex] at e'; cases e'
  obtain ⟨B', wb'⟩ := w'
  obtain ⟨wg, hB, sm⟩ := (hA m).out wb wb'
  obtain ⟨f, ho, _⟩ := wb'.rt _ (.head _)
  have hnd := wb'.nd
  rw [fps_cons, rootS_fp ho] at hnd
  have hfm : ∀ p ∈ f, p ∈ fps (rootS G.K (nw ⟨G.K, ⟨fun q => B q ∨ q ∈ fps (A m) H, H, []⟩, G.Xk, G.XR, G.rf⟩) t v x :: (CF m ++ [])) H' := fun p hp => by rw [fps_cons, rootS_fp ho]; exact List.mem_append.mpr (.inl hp)
  have hpn : ∀ p ∈ f, H p = none := fun p hp => (wb'.fr p (hfm p hp)).resolve_left (by intro z; cases z)
  have ho2 := lfT_own hB ho hx
  have wa : Wb G.K G.O (fun q => B q ∨ (B' q ∧ H q = none)) L' (rootS G.K (nw G) t v x :: (A m ++ (Z m ++ F))) H' := by
    refine wg.addR ⟨f, ho2, fun q hq => wb.nofp (hpn q hq)⟩ (fun q hq => ?_) (by rw [rootS_fp ho2]; exact (List.nodup_append.mp hnd).1)
    rw [rootS_fp ho2] at hq
    refine ⟨wb.none (hpn q hq), fun z => ?_, by rw [wb.same sm]; exact wb.free (hpn q hq)⟩
    rcases z with z | z
    · obtain ⟨o, ho⟩ := wb.bo q z
      have := hpn q hq
      rw [ho] at this; cases this
    · exact wb'.nb q (hfm q hq) z.1
  have w2 : Wd G.K G.O L' (rootS G.K (nw G) t v x :: (A m ++ (Z m ++ F))) H' := ⟨_, wa⟩
  exact q x m v H' er (w2.perm (List.Perm.cons _ (by rw [← List.append_assoc]; exact (hC m).symm.append_right F)))
/-- (a, b, ..) of trees -/
theorem fts_tp (hk : ∀ b ∈ k, b = true) (hkp : ∀ b ∈ kp, b = false) (hn : pts.length ≤ sizeLine) (h : AS G tr σ L C Zs Cr N k kp pts Es) : FTs G N (tTup tr) σ L C Cr (.tp pts) (zTup Es) := by
  intro m F L' H Q s w q b
  refine h m F L' H _ s w (fun xs tsf pb m1 vs us ws Hs H1 L2 e1 s2 mx i2 l1 l2 w1 hr => ?_) b.fst
  have er : zTup Es m = .ok (.tuple (tsf m1)) (pb (tsf m1) m1) := bd_ok e1
  have ev := mx.allT hk
  subst ev
  refine ⟨by rw [l1]; exact hn, fun p hp => ?_⟩
  obtain ⟨B, wb⟩ := w1
  have sm : Same H1 (upd H1 p (.tup vs)) := fun q o e => by rw [upd_ne (ne_of_none e hp)]; exact e
  have wg := wb.grow (B' := fun q => B q ∨ q = p) sm (fun q b => .inl b) fun q b => b.elim .inl fun e => .inr (by subst e; exact ⟨hp, _, upd_same⟩)
  have w4 : Wd G.K G.O L2 ([rootS G.K N (.tp pts) (.ref p) (.tuple (tsf m1))] ++ (Hs ++ (Zs m1 ++ F))) (upd H1 p (.tup vs)) := by
    obtain ⟨f, hz, ef, hn2⟩ := RA_own (H := upd H1 p (.tup vs)) l1 l2 fun c hc => wg.rt c (List.mem_append.mpr (.inl hc))
    have ho : Own G.K (fun q => B q ∨ q = p) (upd H1 p (.tup vs)) (.tp pts) (.ref p) (.tuple (tsf m1)) f := .tp ⟨.inr rfl, upd_same⟩ hz
    refine ⟨_, wg.swap (C' := [rootS G.K N (.tp pts) (.ref p) (.tuple (tsf m1))]) (by rw [fps_one, rootS_fp ho, ef]) (fun _ _ => rfl) (fun q hq => ?_) fun _ c hc => ?_⟩
    · obtain ⟨c, hc, hq2⟩ := List.mem_flatMap.mp hq
      exact c.occ (wg.rt c (List.mem_append.mpr (.inl hc))) q hq2
    · rw [mem1 hc]; exact ⟨f, ho, hn2⟩
  have w5 := hr (tsf m1) m1 L2 (rootS G.K N (.tp pts) (.ref p) (.tuple (tsf m1)) :: F) _ l2 (by rw [RK_false hkp]; exact w4.perm (perm3 [] _ _ _ _).symm)
  exact q _ _ (.ref p) _ er ((w5.perm List.perm_middle).sub s2)
/-- [a, b, ..] of trees -/
theorem fts_ls (hk : ∀ b ∈ k, b = true) (hkp : ∀ b ∈ kp, b = false) (hn : pts.length ≤ sizeLine) (hp : pts = List.replicate pts.length t) (hN : ∀ q, q ∉ G.O.fp → N q) (h : AS G tr σ L C Zs Cr N k kp pts Es) : FTs G N (tLst tr) σ L C Cr (.ls t) (zLst Es) := by
  intro m F L' H Q s w q b
  refine h m F L' H _ s w (fun xs tsf pb m1 vs us ws Hs H1 L2 e1 s2 mx i2 l1 l2 w1 hr => ?_) b.fst
  have er : zLst Es m = .ok (.list (tsf m1)) (pb (tsf m1) m1) := bd_ok e1
  have ev := mx.allT hk
  subst ev
  refine ⟨by rw [l1]; exact hn, fun p hp2 => ?_⟩
  obtain ⟨B, wb⟩ := w1
  have sm : Same H1 (upd H1 p (.lst vs)) := fun q o e => by rw [upd_ne (ne_of_none e hp2)]; exact e
  have wg := wb.grow (B' := B) sm (fun q b => b) fun q b => .inl b
  have nb : ¬ B p := fun b => by
    obtain ⟨o, ho⟩ := wb.bo p b
    rw [ho] at hp2; cases hp2
  have wa : Wb G.K G.O B L2 (rootP p :: (RA G.K N pts vs (tsf m1) ++ (Hs ++ (Zs m1 ++ F)))) (upd H1 p (.lst vs)) := by
    refine wg.addR (r := rootP p) ⟨_, upd_same⟩ (fun q hq => ?_) (List.nodup_cons.mpr ⟨by simp, List.nodup_nil⟩)
    rw [List.mem_singleton.mp hq]
    exact ⟨wb.none hp2, nb, by rw [wb.same sm]; exact wb.free hp2⟩
  have w4 : Wd G.K G.O L2 ([rootS G.K N (.ls t) (.ref p) (.list (tsf m1))] ++ (Hs ++ (Zs m1 ++ F))) (upd H1 p (.lst vs)) := by
    obtain ⟨f, hz, ef, hn2⟩ := RA_own (H := upd H1 p (.lst vs)) l1 l2 fun c hc => wg.rt c (List.mem_append.mpr (.inl hc))
    have ho : Own G.K B (upd H1 p (.lst vs)) (.ls t) (.ref p) (.list (tsf m1)) (p :: f) := .ls upd_same (by rw [l2, ← hp]; exact hz)
    refine ⟨_, Wb.swap (C := rootP p :: RA G.K N pts vs (tsf m1)) (C' := [rootS G.K N (.ls t) (.ref p) (.list (tsf m1))]) wa (by rw [fps_one, rootS_fp ho, fps_cons, ef]; exact .refl _) (fun _ _ => rfl) (fun q hq => ?_) fun _ c hc => ?_⟩
    · obtain ⟨c, hc, hq2⟩ := List.mem_flatMap.mp hq
      refine c.occ (wa.rt c ?_) q hq2
      rcases List.mem_cons.mp hc with e | e
      · rw [e]; exact .head _
      · exact .tail _ (List.mem_append.mpr (.inl e))
    · rw [mem1 hc]
      refine ⟨_, ho, fun q hq => ?_⟩
      rcases List.mem_cons.mp hq with e | e
      · rw [e]; exact hN p (wb.nofp hp2)
      · exact hn2 q e
  have w5 := hr (tsf m1) m1 L2 (rootS G.K N (.ls t) (.ref p) (.list (tsf m1)) :: F) _ l2 (by rw [RK_false hkp]; exact w4.perm (perm3 [] _ _ _ _).symm)
  exact q _ _ (.ref p) _ er ((w5.perm List.perm_middle).sub s2)
theorem Wd.accS {K : PySem.W.Frag} {O : Og} {Z : List Root} {H : Hp} {A : Addr} (w : Wd K O L (rootL K A (.list []) :: Z) H) (hN : N A) : Wd K O L (rootS K N (.ls t) (.ref A) (.list []) :: Z) H := by
  refine Wd.imp (C := [rootL K A (.list [])]) w fun B _ hr => ?_
  obtain ⟨ds, vs, e, h1, h2⟩ := hr _ (.head _)
  cases e
  cases h2
  have ho : Own K B H (.ls t) (.ref A) (.list []) [A] := .ls h1 .nil
  refine ⟨[rootS K N (.ls t) (.ref A) (.list [])], ?_, fun c hc => ?_, fun w' => w'⟩
  · rw [fps_one, fps_one, rootS_fp ho]; exact .refl _
  · rw [mem1 hc]; exact ⟨_, ho, fun q hq => by rw [List.mem_singleton.mp hq]; exact hN⟩
theorem FTs.sub {L0 : List (V × D)} (h : FTs G N te σ L0 C C1 t E) (s : ∀ f ∈ L0, f ∈ L) : FTs G N te σ L C C1 t E := fun m F L' H Q s' w q b => h m F L' H Q (fun f hf => s' f (s f hf)) w q b
theorem fts_lcG {wi : TI} {I : SM μ (List D)} {T : D → SM μ Bool} {E : D → SM μ D} {g : TG} {vs : List Nat} (hi : IV G wi σ L C I)
    (ht : ∀ v x m F L' H (Q : St → Hp → Prop), (∀ f ∈ (v, x) :: L, f ∈ L') → Wd G.K G.O L' (C m ++ F) H → T x m ≠ .bad →
      (∀ σ2 L1, (∀ f ∈ L', f ∈ L1) → wipe σ2 vs = wipe σ vs → Wd G.K G.O L1 (C m ++ F) H → TV G tt σ2 L1 C (T x) → FTs G (nw G) te σ2 L1 C C t (E x) → Q σ2 H) → g v (wipe σ vs) H Q) :
    FTs G (nw G) (tLc wi g tt te vs) σ L C C (.ls t) (lc I T E) := by
  intro m F L' H Q s w q bk
  refine hi m F L' H _ s w (fun xs m1 It H1 L1 e1 s1 w1 hit => ?_) bk.fst
  have b1 := bk.snd e1
  have er : lc I T E m = bd (lcS T E xs []) (fun ys => pu (.list ys)) m1 := bd_ok e1
  intro A hA
  have hAO : A ∉ G.O.fp := by
    obtain ⟨B, wb⟩ := w1
    exact wb.nofp hA
  refine ⟨fun i n H' => n = xs.length - i ∧ i ≤ xs.length ∧ ∃ m' acc, lcS T E xs [] m1 = lcS T E (xs.drop i) acc m' ∧ Wd G.K G.O L1 (C m' ++ (rootS G.K (nw G) (.ls t) (.ref A) (.list acc) :: F)) H', ⟨xs.length, by simp, Nat.zero_le _, m1, [], rfl, (Wd.accS ((w1.acc hA).perm List.perm_middle) hAO).perm List.perm_middle.symm⟩, ?_⟩
  rintro i n H' ⟨rfl, hin, m', acc, ez, wz⟩
  have hI := hit _ _ _ (fun f hf => hf) wz i
  by_cases hlt : i < xs.length
  · have hx : xs[i]? = some xs[i] := List.getElem?_eq_getElem hlt
    obtain ⟨go, hy⟩ := hI.1 _ hx
    rw [forS_step hx] at ez
    refine .inr ⟨go, fun H'' => ∃ m' acc, lcS T E xs [] m1 = lcS T E (xs.drop (i + 1)) acc m' ∧ Wd G.K G.O L1 (C m' ++ (rootS G.K (nw G) (.ls t) (.ref A) (.list acc) :: F)) H'', fun H'' hN => ⟨xs.length - (i + 1), by omega, rfl, hlt, hN⟩, fun v H2 y => ?_⟩
    have w2 := hy v H2 y
    have b2 : Bk G C F L' (lcS T E (xs[i] :: xs.drop (i + 1)) acc m') := by
      have := b1.fst
      rw [ez] at this
      exact this
    have b3 : Bk G C F L' (T xs[i] m') := (show Bk G C F L' (bd (T xs[i]) _ m') from b2).fst
    refine ht v xs[i] m' (rootS G.K (nw G) (.ls t) (.ref A) (.list acc) :: F) ((v, xs[i]) :: L1) H2 _ (fun f hf => ?_) w2 b3.2 (fun σ2 L2 sL2 hw w3 hT hE => ⟨hw, ?_⟩)
    · rcases List.mem_cons.mp hf with e | e
      · rw [e]; exact .head _
      · exact .tail _ (s1 f (s f e))
    · refine hT m' (rootS G.K (nw G) (.ls t) (.ref A) (.list acc) :: F) L2 H2 _ (fun f hf => hf) w3 (fun c m3 H3 e3 w4 => ?_) (b3.addF.mono fun f hf => sL2 f (.tail _ (s1 f hf)))
      have e4 : lcS T E (xs[i] :: xs.drop (i + 1)) acc m' = (if c then bd (E xs[i]) fun y => if acc.length < sizeLine then lcS T E (xs.drop (i + 1)) (acc ++ [y]) else bad else lcS T E (xs.drop (i + 1)) acc) m3 := bd_ok e3
      have sb : ∀ {C3 : List Root} {H3 : Hp}, Wd G.K G.O L2 C3 H3 → Wd G.K G.O L1 C3 H3 := fun {C3 H3} w => w.sub fun f hf => sL2 f (.tail _ hf)
      cases c with
      | false =>
        rw [if_neg (by decide)]
        exact ⟨m3, acc, ez.trans e4, sb w4⟩
      | true =>
        rw [if_pos rfl]
        have b4 : Bk G C F L' (bd (E xs[i]) (fun y => if acc.length < sizeLine then lcS T E (xs.drop (i + 1)) (acc ++ [y]) else bad) m3) := by
          rw [e4] at b2
          exact b2
        refine hE m3 (rootS G.K (nw G) (.ls t) (.ref A) (.list acc) :: F) L2 H3 _ (fun f hf => hf) w4 (fun y m4 u H4 e5 w5 => ?_) (b4.fst.addF.mono fun f hf => sL2 f (.tail _ (s1 f hf)))
        have b5 := b4.snd e5
        by_cases hz : acc.length < sizeLine
        · have w6 : Wd G.K G.O L2 (rootS G.K (nw G) (.ls t) (.ref A) (.list acc) :: rootS G.K (nw G) t u y :: (C m4 ++ F)) H4 := (w5.perm (List.Perm.cons _ List.perm_middle)).perm (List.Perm.swap _ _ _)
          obtain ⟨A', us, ds, eA, ed, hA4, hlen, w7⟩ := Wd.appT w6
          cases eA
          cases ed
          refine ⟨us, hA4, by rw [hlen]; exact hz, m4, acc ++ [y], ez.trans (e4.trans ?_), ?_⟩
          · show bd (E xs[i]) _ m3 = _
            rw [bd_ok e5, if_pos hz]
          · exact (w7.perm List.perm_middle.symm).sub fun f hf => sL2 f (.tail _ hf)
        · rw [if_neg hz] at b5
          exact absurd rfl b5.2
  · have e : i = xs.length := by omega
    subst e
    rw [List.drop_length] at ez
    refine .inl ⟨hI.2 (Nat.le_refl _), ?_⟩
    refine q (.list acc) m' (.ref A) H' ?_ ((wz.perm List.perm_middle).sub fun f hf => s1 f hf)
    rw [er]
    show bd (lcS T E xs []) _ m1 = _
    rw [bd_ok (show lcS T E xs [] m1 = .ok acc m' from ez)]; rfl
theorem fts_lc1 {wi : TI} {I : SM μ (List D)} {T : D → SM μ Bool} {E : D → SM μ D} {vs : List Nat} {σ2 : V → St} (hi : IV G wi σ L C I) (hσ : ∀ v, (wipe σ vs).set i (some v) = σ2 v) (hw : ∀ v, wipe (σ2 v) vs = wipe σ vs)
    (hT : ∀ v x, TV G tt (σ2 v) ((v, x) :: L) C (T x)) (hE : ∀ v x, FTs G (nw G) te (σ2 v) ((v, x) :: L) C C t (E x)) : FTs G (nw G) (tLc wi (gName i) tt te vs) σ L C C (.ls t) (lc I T E) :=
  fts_lcG hi fun v x m F L' H Q s w _ q => by
    show Q ((wipe σ vs).set i (some v)) H
    rw [hσ]
    exact q (σ2 v) L' (fun f hf => hf) (hw v) w ((hT v x).sub s) ((hE v x).sub s)
end
/-! ### records made (S) -/
def tEs : List TE → TA
  | [] => tNil
  | te :: r => tCons te (tEs r)
theorem tPairs_eq : ∀ (ks : List Str) (es : List TE), ks.length = es.length → tPairs ((ks.zip es).map fun p => (tC (.str p.1), p.2)) = fun σ H Q => tEs es σ H fun vs H' => Q ((ks.map V.str).zip vs) H'
  | [], [], _ => by funext σ H Q; rfl
  | k :: ks, e :: es, h => by
    funext σ H Q
    have ih := tPairs_eq ks es (by simpa using h)
    show tC (.str k) σ H (fun x H1 => e σ H1 fun y H2 => tPairs ((ks.zip es).map fun p => (tC (.str p.1), p.2)) σ H2 fun ps H3 => Q ((x, y) :: ps) H3) = _
    rw [ih]; rfl
theorem merge_new : ∀ (kvs acc : List (Key × V)), ((acc ++ kvs).map (·.1)).Nodup → mergeK acc kvs = acc ++ kvs
  | [], acc, _ => by rw [List.append_nil]; rfl
  | kv :: kvs, acc, h => by
    show mergeK (putK acc kv.1 kv.2) kvs = _
    have hn : (acc.any fun q => decide (q.1 = kv.1)) = false := by
      rw [List.any_eq_false]
      intro q hq
      simp only [decide_eq_true_eq]
      intro e
      rw [List.map_append, List.nodup_append] at h
      exact h.2.2 q.1 (List.mem_map.mpr ⟨q, hq, rfl⟩) kv.1 (by simp) e
    have e1 : putK acc kv.1 kv.2 = acc ++ [kv] := by
      unfold putK
      rw [hn]; simp
    rw [e1, merge_new kvs (acc ++ [kv]) (by rw [List.append_assoc]; exact h), List.append_assoc]; rfl
theorem rc_keys {ks : List Str} {vs : List V} (hl : ks.length = vs.length) : ((ks.map Sum.inr : List Key).zip vs).map (·.1) = ks.map Sum.inr := by
  rw [List.map_fst_zip (by rw [List.length_map]; omega)]
theorem rc_merge {ks : List Str} {vs : List V} (hn : ks.Nodup) (hl : ks.length = vs.length) : mergeK [] ((ks.map Sum.inr : List Key).zip vs) = (ks.map Sum.inr).zip vs := by
  have := merge_new ((ks.map Sum.inr : List Key).zip vs) [] (by
    rw [List.nil_append, rc_keys hl]
    exact List.Pairwise.map _ (fun a b h e => by
      injection e with e
      exact h e) hn)
  rw [this, List.nil_append]
theorem rc_pairs : ∀ (ks : List Str) (vs : List V), (ks.map V.str).zip vs = ((ks.map Sum.inr : List Key).zip vs).map fun kv => (kV kv.1, kv.2)
  | [], _ => by simp
  | _ :: _, [] => by simp
  | k :: ks, v :: vs => by
    simp only [List.map_cons, List.zip_cons_cons]
    rw [rc_pairs ks vs]; rfl
section
open SM
variable {μ : Type} {G : Gx} {σ : St} {L : List (V × D)} {C Cr Zs : μ → List Root} {Es : SM μ (List D × (μ → List D) × (List D → μ → μ))} {N : Addr → Prop} {pts : List Ty} {k kp : List Bool}
/-- {"a": x, ..} -/
theorem fts_rc {ks : List Str} {es : List TE} {trs : List (TE × TE)} (htr : trs = (ks.zip es).map fun p => (tC (.str p.1), p.2)) (hke : ks.length = es.length) (hk : ∀ b ∈ k, b = true) (hkp : ∀ b ∈ kp, b = false) (hl : ks.length = pts.length) (h15 : ks.length ≤ 15) (hn : ks.Nodup) (hN : ∀ q, q ∉ G.O.fp → N q)
    (h : AS G (tEs es) σ L C Zs Cr N k kp pts Es) (hs : Sub Cr C) : FTs G N (tDisp trs) σ L C Cr (.nd (.rc ks) pts) (zTup Es) := by
  intro m F L' H Q s w q b p hp
  rw [htr, tPairs_eq ks es hke]
  obtain ⟨B0, wb0⟩ := w
  have sm : Same H (upd H p (.dK [])) := fun q o e => by rw [upd_ne (ne_of_none e hp)]; exact e
  have wg := wb0.grow (B' := B0) sm (fun q b => b) fun q b => .inl b
  have nb : ¬ B0 p := fun b => by
    obtain ⟨o, ho⟩ := wb0.bo p b
    rw [ho] at hp; cases hp
  have ho0 : ∀ (B : Addr → Prop) (H1 : Hp), H1 p = some (.dK []) → Own G.K B H1 (.nd (.rc []) []) (.ref p) (.tuple []) [p] := fun B H1 e => Own.nd (k := .rc []) (vs := []) (ds := []) e ⟨rfl, rfl⟩ .nil
  have wa : Wd G.K G.O L' (C m ++ (rootS G.K tr_ (.nd (.rc []) []) (.ref p) (.tuple []) :: F)) (upd H p (.dK [])) := by
    refine Wd.perm (C := rootS G.K tr_ (.nd (.rc []) []) (.ref p) (.tuple []) :: (C m ++ F)) ⟨B0, wg.addR (r := rootS G.K tr_ (.nd (.rc []) []) (.ref p) (.tuple [])) ⟨_, ho0 _ _ upd_same, fun _ _ => trivial⟩ (fun q hq => ?_) ?_⟩ List.perm_middle.symm
    · rw [rootS_fp (ho0 B0 _ upd_same)] at hq
      rw [List.mem_singleton.mp hq]
      exact ⟨wb0.none hp, nb, by rw [wb0.same sm]; exact wb0.free hp⟩
    · rw [rootS_fp (ho0 B0 _ upd_same)]; exact List.nodup_cons.mpr ⟨by simp, List.nodup_nil⟩
  refine h m (rootS G.K tr_ (.nd (.rc []) []) (.ref p) (.tuple []) :: F) L' _ _ s wa (fun xs tsf pb m1 vs us ws Hs H1 L2 e1 s2 mx i2 l1 l2 w1 hr => ?_) b.fst.addF
  have er : zTup Es m = .ok (.tuple (tsf m1)) (pb (tsf m1) m1) := bd_ok e1
  have ev := mx.allT hk
  subst ev
  have w2 : Wd G.K G.O L2 ((rootS G.K tr_ (.nd (.rc []) []) (.ref p) (.tuple []) :: RA G.K N pts vs (tsf m1)) ++ (Hs ++ (Zs m1 ++ F))) H1 := w1.perm (perm3 _ _ _ _ _)
  obtain ⟨B, wb⟩ := w2
  obtain ⟨f0, ho, _⟩ := wb.rt _ (.head _)
  have e0 : H1 p = some (.dK []) := by
    generalize hd : (.tuple [] : D) = dd at ho
    cases ho with
    | @nd _ _ _ o vs' ds' f hp' ha' hz' =>
      obtain ⟨hl', rfl⟩ := ha'
      rw [hp']
      rfl
  have hlv : ks.length = vs.length := by rw [l1]; exact hl
  refine ⟨e0, (ks.map Sum.inr).zip vs, rc_pairs ks vs, by rw [List.length_zip, List.length_map]; omega, ?_⟩
  rw [rc_merge hn hlv]
  obtain ⟨f, hz, ef, hn2⟩ := RA_own (H := H1) l1 l2 fun c hc => wb.rt c (List.mem_append.mpr (.inl (.tail _ hc)))
  have e2 : fps (rootS G.K tr_ (.nd (.rc []) []) (.ref p) (.tuple []) :: RA G.K N pts vs (tsf m1)) H1 = p :: f := by
    rw [fps_cons, rootS_fp (ho0 B H1 e0), ef]; rfl
  have hnd := wb.nd
  rw [fps_app, e2] at hnd
  have hnd1 := (List.nodup_append.mp hnd).1
  have hpn : p ∉ f := (List.nodup_cons.mp hnd1).1
  have hpB : ¬ B p := wb.nb p (by rw [fps_app, e2]; exact List.mem_append.mpr (.inl (.head _)))
  have kk : Kp B H1 B (upd H1 p (.dK ((ks.map Sum.inr).zip vs))) := fun q o b e => ⟨b, by rw [upd_ne fun z => hpB (by rw [← z]; exact b)]; exact e⟩
  have hnew : Own G.K B (upd H1 p (.dK ((ks.map Sum.inr).zip vs))) (.nd (.rc ks) pts) (.ref p) (.tuple (tsf m1)) (p :: f) :=
    Own.nd (k := .rc ks) upd_same ⟨hlv, rfl⟩ (hz.mono kk fun q hq => upd_ne fun z => hpn (by rw [← z]; exact hq))
  have w3 : Wb G.K G.O B L2 ([rootS G.K N (.nd (.rc ks) pts) (.ref p) (.tuple (tsf m1))] ++ (Hs ++ (Zs m1 ++ F))) (upd H1 p (.dK ((ks.map Sum.inr).zip vs))) := by
    refine Wb.swapSub (C := rootS G.K tr_ (.nd (.rc []) []) (.ref p) (.tuple []) :: RA G.K N pts vs (tsf m1)) wb ?_ ?_ ?_ ?_ ?_
    · intro q hq
      rw [fps_one, rootS_fp hnew] at hq
      rw [e2]; exact hq
    · rw [fps_one, rootS_fp hnew]; exact hnd1
    · intro q hq
      rw [e2] at hq
      exact upd_ne fun z => hq (by rw [z]; exact .head _)
    · intro q hq
      by_cases z : q = p
      · rw [z]; exact ⟨_, upd_same⟩
      · rw [upd_ne z]
        obtain ⟨c', hc', hq2⟩ := List.mem_flatMap.mp hq
        exact c'.occ (wb.rt c' (List.mem_append.mpr (.inl hc'))) q hq2
    · intro _ c' hc'
      rw [mem1 hc']
      refine ⟨_, hnew, fun q hq => ?_⟩
      rcases List.mem_cons.mp hq with z | z
      · rw [z]; exact hN p (wb0.nofp hp)
      · exact hn2 q z
  have w5 := hr (tsf m1) m1 L2 (rootS G.K N (.nd (.rc ks) pts) (.ref p) (.tuple (tsf m1)) :: F) _ l2 (by rw [RK_false hkp]; exact Wd.perm ⟨B, w3⟩ (perm3 [] _ _ _ _).symm)
  exact q _ _ (.ref p) _ er ((w5.perm List.perm_middle).sub s2)
end
theorem _root_.L2.Room.units1 {k : Nat} {A : Around} (r : Room k A) : A.units + 1 < cLine := by have := r.units; omega
namespace SM
variable {μ α β : Type}
class PrZ (E : SM μ (List D × (μ → List D) × (List D → μ → μ))) : Prop where
  pr : ∀ m q m', E m = .ok q m' → m' = m ∧ ∀ ts m2, q.2.2 ts m2 = m2
instance prz_n : PrZ (zN : SM μ (List D × (μ → List D) × (List D → μ → μ))) := ⟨fun m q m' e => by cases e; exact ⟨rfl, fun _ _ => rfl⟩⟩
instance prz_f {E : SM μ D} {Es : SM μ (List D × (μ → List D) × (List D → μ → μ))} [h : Pr E] [g : PrZ Es] : PrZ (zF E Es) := ⟨fun m q m' e => by
  obtain ⟨a, m1, e1, e2⟩ := ok_inv e
  obtain ⟨q1, m2, e3, e4⟩ := ok_inv e2
  cases e4
  obtain ⟨z1, z2⟩ := g.pr m1 q1 m' e3
  exact ⟨by rw [z1, h.pr m a m1 e1], z2⟩⟩
instance prz_t {E : SM μ D} {Es : SM μ (List D × (μ → List D) × (List D → μ → μ))} [h : Pr E] [g : PrZ Es] : PrZ (zT E Es) := ⟨fun m q m' e => by
  obtain ⟨a, m1, e1, e2⟩ := ok_inv e
  obtain ⟨q1, m2, e3, e4⟩ := ok_inv e2
  cases e4
  obtain ⟨z1, z2⟩ := g.pr m1 q1 m' e3
  exact ⟨by rw [z1, h.pr m a m1 e1], fun ts m3 => z2 ts.tail m3⟩⟩
instance pr_ztup {Es : SM μ (List D × (μ → List D) × (List D → μ → μ))} [g : PrZ Es] : Pr (zTup Es) := ⟨fun m x m' e => by
  obtain ⟨q, m1, e1, e2⟩ := ok_inv e
  obtain ⟨z1, z2⟩ := g.pr m q m1 e1
  cases e2
  rw [z2, z1]⟩
instance pr_zlst {Es : SM μ (List D × (μ → List D) × (List D → μ → μ))} [g : PrZ Es] : Pr (zLst Es) := ⟨fun m x m' e => by
  obtain ⟨q, m1, e1, e2⟩ := ok_inv e
  obtain ⟨z1, z2⟩ := g.pr m q m1 e1
  cases e2
  rw [z2, z1]⟩
instance pr_mkz0 {mf : List D → SM (List D) D} {Es : SM μ (List D × (μ → List D) × (List D → μ → μ))} [g : PrZ Es] : Pr (mkZ0 mf Es) := ⟨fun m x m' e => by
  obtain ⟨q, m1, e1, e2⟩ := ok_inv e
  obtain ⟨z1, z2⟩ := g.pr m q m1 e1
  revert e2
  cases mf q.1 (q.2.1 m1) with
  | ok y ts => intro e2; cases e2; rw [z2, z1]
  | exc y ts => intro e2; cases e2
  | bad => intro e2; cases e2⟩
instance pr_mkz {mf : List D → SM (List D) D} {Es : SM μ (List D × (μ → List D) × (List D → μ → μ))} [g : PrZ Es] : Pr (mkZ mf Es) := ⟨fun m x m' e => by
  obtain ⟨q, m1, e1, e2⟩ := ok_inv e
  obtain ⟨z1, z2⟩ := g.pr m q m1 e1
  revert e2
  cases mf q.1 (q.2.1 m1) with
  | ok y ts => intro e2; cases e2; rw [z2, z1]
  | exc y ts => intro e2; cases e2
  | bad => intro e2; cases e2⟩
instance pr_cz0 {mf : List D → SM (List D) D} {Es : SM μ (List D × (μ → List D) × (List D → μ → μ))} [g : PrZ Es] : Pr (cZ0 mf Es) := ⟨fun m x m' e => by
  obtain ⟨q, m1, e1, e2⟩ := ok_inv e
  obtain ⟨z1, z2⟩ := g.pr m q m1 e1
  revert e2
  cases mf q.1 (q.2.1 m1) with
  | ok y ts => intro e2; cases e2; rw [z2, z1]
  | exc y ts => intro e2; cases e2
  | bad => intro e2; cases e2⟩
end SM
open SM
abbrev ns_Summer : List Str := ["kind", "short", "figures", "pairs", "ended"]
abbrev k_Summer : List Addr → List (Option Addr)
  | [l0] => [none, none, some l0, none, none]
  | _ => []
theorem nd_Summer : ns_Summer.Nodup := by decide +kernel
theorem nm_Summer_tell : ("tell" : Str) ∉ ns_Summer := by decide +kernel
theorem nm_Summer_put : ("put" : Str) ∉ ns_Summer := by decide +kernel
theorem nm_Summer_end : ("end" : Str) ∉ ns_Summer := by decide +kernel
theorem nm_Summer_refuse_behind_end : ("refuse_behind_end" : Str) ∉ ns_Summer := by decide +kernel
theorem nm_Summer_told : ("told" : Str) ∉ ns_Summer := by decide +kernel
def m_is_whole (thing : D) : SM Unit D := fin
  ((bd (eand (op1 (isiD "int") (pu thing)) (enot (op1 (isiD "bool") (pu thing)))) fun x => pu (.rt x)) : SM Unit (Fl Unit Empty))
def m_is_figure (kind : D) (thing : D) : SM Unit D := fin
  ((bd (op2 idxD (pu kind) (pu (.int 1))) fun most =>
  (bd (eand (cP (u1 m_is_whole) (ac (pu thing) a0)) (SM.chain leD leD (op1 negD (pu most)) (pu thing) (pu most))) fun x => pu (.rt x))) : SM Unit (Fl Unit Empty))
def m_nearest_figure (kind : D) (number : D) (weight : D) : SM Unit D := fin
  ((bd (op2 idxD (pu kind) (pu (.int 1))) fun most =>
  (bd (opL maxD (ac (op1 negD (pu most)) (ac (opL minD (ac (pu most) (ac (op2 fdivD (op2 addD (pu number) (op2 fdivD (pu weight) (pu (.int 2)))) (pu weight)) a0))) a0))) fun x => pu (.rt x))) : SM Unit (Fl Unit Empty))
def m_Summer_init_b (kind : D) : SM (D) (Fl Unit Empty) :=
  ((bd (bd (pu kind) fun y => mdP (fun m : D => m) (fun (y : D) (_m : D) => y) [] (faddN y)) fun _ =>
  (bd (bd (pu (.int 0)) fun y => mdP (fun m : D => m) (fun (y : D) (_m : D) => y) [] (faddN y)) fun _ =>
  (bd (bd (opL lstD a0) fun y => mdP (fun m : D => m) (fun (y : D) (_m : D) => y) [] (faddN y)) fun _ =>
  (bd (bd (pu (.int 0)) fun y => mdP (fun m : D => m) (fun (y : D) (_m : D) => y) [] (faddN y)) fun _ =>
  (bd (bd (pu (.bool false)) fun y => mdP (fun m : D => m) (fun (y : D) (_m : D) => y) [] (faddN y)) fun _ =>
  (pu (.nx ()))))))) : SM (D) (Fl Unit Empty))
def m_Summer_init (kind : D) : SM (List D) D := ibody (fun ts : List D => ((.tuple []) : D)) (fun m : D => m) (m_Summer_init_b kind)
def m_Summer_tell_b (weight : D) : SM (D) D := fin
  ((bd (cP (u3 m_nearest_figure) (ac (bd (nr1 (bd (pu []) fun p => pu (p ++ [0]))) fun p => rdP (fun m : D => m) p) (ac (bd (nr1 (bd (pu []) fun p => pu (p ++ [1]))) fun p => rdP (fun m : D => m) p) (ac (pu weight) a0)))) fun figure =>
  (bd (bd (rdP (fun m : D => m) [1]) fun o => bd (op2 mulD (pu figure) (pu weight)) fun y => bd (of (subI o y)) fun z => mdP (fun m : D => m) (fun (y : D) (_m : D) => y) [] fun r => fsetN 1 r z) fun _ =>
  (bd (bd (nr1 (bd (pu []) fun p => pu (p ++ [2]))) fun p => bd (nr1 (pu figure)) fun y => mdP (fun m : D => m) (fun (y : D) (_m : D) => y) p fun r => appD r y) fun _ =>
  (bd (pu figure) fun x => pu (.rt x))))) : SM (D) (Fl Unit Empty))
def m_Summer_tell (weight : D) : SM (List D) D := zbody (fun ts : List D => ((ts.getD 0 .none) : D)) (fun m : D => [m]) (m_Summer_tell_b weight)
def m_Summer_refuse_behind_end_b : SM (D) D := fin
  ((bd (SM.tr (bd (nr1 (bd (pu []) fun p => pu (p ++ [4]))) fun p => rdP (fun m : D => m) p)) fun c => if c then
  (SM.raise (exD "NoMore" []))
  else
  (pu (.nx ()))) : SM (D) (Fl Unit Empty))
def m_Summer_refuse_behind_end : SM (List D) D := zbody (fun ts : List D => ((ts.getD 0 .none) : D)) (fun m : D => [m]) (m_Summer_refuse_behind_end_b )
def m_Summer_put_b (one : D) (other : D) : SM (D) D := fin
  ((bd (cZ (u0 m_Summer_refuse_behind_end) (zV (fun m : D => m) (fun (y : D) (_m : D) => y) zN)) fun _ =>
  (bd (tor (tnot (SM.tr (cP (u2 m_is_figure) (ac (bd (nr1 (bd (pu []) fun p => pu (p ++ [0]))) fun p => rdP (fun m : D => m) p) (ac (pu one) a0))))) (tnot (SM.tr (cP (u2 m_is_figure) (ac (bd (nr1 (bd (pu []) fun p => pu (p ++ [0]))) fun p => rdP (fun m : D => m) p) (ac (pu other) a0)))))) fun c => if c then
  (SM.raise (exD "NoFigure" []))
  else
  (bd (op2 idxD (bd (nr1 (bd (pu []) fun p => pu (p ++ [0]))) fun p => rdP (fun m : D => m) p) (pu (.int 0))) fun base' =>
  (bd (bd (op2 addD (op2 addD (op2 mulD (bd (nr1 (bd (pu []) fun p => pu (p ++ [1]))) fun p => rdP (fun m : D => m) p) (pu base')) (pu one)) (pu other)) fun y => bd (nr1 (pu [])) fun p => mdP (fun m : D => m) (fun (y : D) (_m : D) => y) p fun r => fsetN 1 r y) fun _ =>
  (bd (bd (rdP (fun m : D => m) [3]) fun o => bd (pu (.int 1)) fun y => bd (of (addI o y)) fun z => mdP (fun m : D => m) (fun (y : D) (_m : D) => y) [] fun r => fsetN 3 r z) fun _ =>
  (bd (eif (SM.tb (op2 eqD (bd (nr1 (bd (pu []) fun p => pu (p ++ [3]))) fun p => rdP (fun m : D => m) p) (pu (.int 1)))) (opL lstD a0) (opL lstD (ac (cZ0 (u1 m_Summer_tell) (zV (fun m : D => m) (fun (y : D) (_m : D) => y) (zF (op2 mulD (pu base') (pu base')) zN))) a0))) fun x => pu (.rt x))))))) : SM (D) (Fl Unit Empty))
def m_Summer_put (one : D) (other : D) : SM (List D) D := zbody (fun ts : List D => ((ts.getD 0 .none) : D)) (fun m : D => [m]) (m_Summer_put_b one other)
def m_Summer_end_b : SM (D) D := fin
  ((bd (cZ (u0 m_Summer_refuse_behind_end) (zV (fun m : D => m) (fun (y : D) (_m : D) => y) zN)) fun _ =>
  (bd (bd (pu (.bool true)) fun y => bd (nr1 (pu [])) fun p => mdP (fun m : D => m) (fun (y : D) (_m : D) => y) p fun r => fsetN 4 r y) fun _ =>
  (bd (SM.tb (op2 eqD (bd (nr1 (bd (pu []) fun p => pu (p ++ [3]))) fun p => rdP (fun m : D => m) p) (pu (.int 0)))) fun c => if c then
  (bd (opL lstD (ac (cZ0 (u1 m_Summer_tell) (zV (fun m : D => m) (fun (y : D) (_m : D) => y) (zF (pu (.int 1)) zN))) a0)) fun x => pu (.rt x))
  else
  (bd (opL lstD (ac (cZ0 (u1 m_Summer_tell) (zV (fun m : D => m) (fun (y : D) (_m : D) => y) (zF (op2 idxD (bd (nr1 (bd (pu []) fun p => pu (p ++ [0]))) fun p => rdP (fun m : D => m) p) (pu (.int 0))) zN))) (ac (cZ0 (u1 m_Summer_tell) (zV (fun m : D => m) (fun (y : D) (_m : D) => y) (zF (pu (.int 1)) zN))) a0))) fun x => pu (.rt x))))) : SM (D) (Fl Unit Empty))
def m_Summer_end : SM (List D) D := zbody (fun ts : List D => ((ts.getD 0 .none) : D)) (fun m : D => [m]) (m_Summer_end_b )
def m_Summer_told_b : SM (D) D := fin
  ((bd (bd (nr1 (bd (pu []) fun p => pu (p ++ [2]))) fun p => bd (rdP (fun m : D => m) p) fun r => of (listD [r])) fun x => pu (.rt x)) : SM (D) (Fl Unit Empty))
def m_Summer_told : SM (List D) D := zbody (fun ts : List D => ((ts.getD 0 .none) : D)) (fun m : D => [m]) (m_Summer_told_b )
def m__law_deck (cell : D) (turn : D) : SM Unit D := fin
  ((bd (SM.tb (op2 geD (pu cell) (op2 powD (pu (.int 10)) (pu (.int 18))))) fun c => if c then
  (bd (opL lstD (ac (op2 subD (pu cell) (op2 powD (pu (.int 10)) (pu (.int 18)))) (ac (op2 modD (pu cell) (pu (.int 2147483579))) (ac (pu turn) a0)))) fun x => pu (.rt x))
  else
  (bd (opL lstD (ac (pu (.int 0)) (ac (op2 modD (pu cell) (pu (.int 2147483579))) (ac (pu turn) a0)))) fun x => pu (.rt x))) : SM Unit (Fl Unit Empty))
def m__law_pick (many : D) : SM D D := fin
  ((bd (SM.tb (op2 gtD (bd (pu (.int 0)) fun x => bd gets fun m => of (idxD m x)) (pu (.int 1)))) fun c => if c then
  (bd (op2 modD (bd (pu (.int 0)) fun x => bd gets fun m => of (idxD m x)) (pu many)) fun found =>
  (bd (bd (op2 fdivD (bd (pu (.int 0)) fun x => bd gets fun m => of (idxD m x)) (pu many)) fun y => bd (pu (.int 0)) fun x => bd gets fun m => bd (of (setD m x y)) fun m' => puts m') fun _ =>
  (bd (pu found) fun x => pu (.rt x))))
  else
  (bd (bd (op2 addD (bd (pu (.int 2)) fun x => bd gets fun m => of (idxD m x)) (pu (.int 1))) fun y => bd (pu (.int 2)) fun x => bd gets fun m => bd (of (setD m x y)) fun m' => puts m') fun _ =>
  (bd (op2 modD (op2 powD (op2 addD (bd (pu (.int 1)) fun x => bd gets fun m => of (idxD m x)) (op2 mulD (pu (.int 15485867)) (bd (pu (.int 2)) fun x => bd gets fun m => of (idxD m x)))) (pu (.int 5))) (pu (.int 2147483647))) fun number =>
  (bd (op2 fdivD (op2 modD (op2 powD (op2 addD (pu number) (op2 mulD (pu (.int 7919)) (bd (pu (.int 2)) fun x => bd gets fun m => of (idxD m x)))) (pu (.int 3))) (pu (.int 2147483629))) (pu (.int 32))) fun found1 =>
  (bd (SM.tb (op2 gtD (pu many) (pu (.int 1000000)))) fun c => if c then
  (bd (op2 modD (op2 addD (op2 mulD (pu found1) (pu (.int 2147483563))) (pu number)) (pu many)) fun x => pu (.rt x))
  else
  (bd (op2 modD (pu found1) (pu many)) fun x => pu (.rt x))))))) : SM D (Fl Unit Empty))
def m__law_kind : SM D D := fin
  ((bd (op2 idxD (opL lstD (ac (pu (.int 2)) (ac (pu (.int 4)) (ac (pu (.int 4)) (ac (pu (.int 8)) (ac (pu (.int 16)) a0)))))) (cD (u1 m__law_pick) (ac (pu (.int 5)) a0))) fun base' =>
  (bd (opL tupD (ac (pu base') (ac (op2 addD (op2 fdivD (pu base') (pu (.int 2))) (cD (u1 m__law_pick) (ac (op2 subD (pu base') (op2 fdivD (pu base') (pu (.int 2)))) a0))) a0))) fun x => pu (.rt x))) : SM D (Fl Unit Empty))
def m__law_whole (thing : D) : SM Unit D := fin
  ((bd (eand (op1 (isiD "int") (pu thing)) (enot (op1 (isiD "bool") (pu thing)))) fun x => pu (.rt x)) : SM Unit (Fl Unit Empty))
def m__law_name_of (e : D) : SM Unit D := fin
  ((bd (opL lstD (ac (pu (.bool (isq "NoFigure" (nmX e)))) (ac (pu (.bool (isq "NoLooks" (nmX e)))) (ac (pu (.bool (isq "NoRoom" (nmX e)))) (ac (pu (.bool (isq "NoRow" (nmX e)))) a0))))) fun kinds =>
  (bd (op2 addD (pu kinds) (opL lstD (ac (pu (.bool (isq "NoTable" (nmX e)))) (ac (pu (.bool (isq "NoText" (nmX e)))) (ac (pu (.bool (isq "Spoilt" (nmX e)))) (ac (pu (.bool (isq "NoMore" (nmX e)))) a0)))))) fun kinds1 =>
  (bd (op2 addD (pu kinds1) (opL lstD (ac (pu (.bool (isq "NoWork" (nmX e)))) (ac (pu (.bool (isq "NoCell" (nmX e)))) (ac (pu (.bool (isq "NoDeed" (nmX e)))) (ac (pu (.bool (isa (nmX e)))) a0)))))) fun kinds2 =>
  (bd (opL lstD (ac (pu (.str "NoFigure")) (ac (pu (.str "NoLooks")) (ac (pu (.str "NoRoom")) (ac (pu (.str "NoRow")) (ac (pu (.str "NoTable")) (ac (pu (.str "NoText")) (ac (pu (.str "Spoilt")) (ac (pu (.str "NoMore")) (ac (pu (.str "NoWork")) (ac (pu (.str "NoCell")) a0))))))))))) fun names =>
  (bd (SM.join (pu (.str "")) (SM.lc (itZ (ac (op2 addD (pu names) (opL lstD (ac (pu (.str "NoDeed")) (ac (pu (.str "+")) a0)))) (ac (pu kinds2) a0))) (fun z => unp2 z fun name kind => (SM.tr (pu kind))) (fun z => unp2 z fun name kind => (pu name)))) fun x => pu (.rt x)))))) : SM Unit (Fl Unit Empty))
def m__law_thing_r : Nat → D → SM D D
  | 0, _ => bad
  | fu + 1, deep => fin ((bd (cD (u1 m__law_pick) (ac (pu (.int 12)) a0)) fun kind =>
  (bd (op2 idxD (opL lstD (ac (op2 subD (cD (u1 m__law_pick) (ac (pu (.int 18)) a0)) (pu (.int 1))) (ac (op2 subD (cD (u1 m__law_pick) (ac (op2 powD (pu (.int 10)) (pu (.int 13))) a0)) (op2 powD (pu (.int 10)) (pu (.int 12)))) (ac (op2 subD (pu (.int 0)) (op2 powD (pu (.int 10)) (pu (.int 59)))) a0)))) (cD (u1 m__law_pick) (ac (pu (.int 3)) a0))) fun far =>
  (bd (SM.tb (op2 ltD (pu kind) (pu (.int 4)))) fun c => if c then
  (bd (pu far) fun x => pu (.rt x))
  else
  (bd (SM.tb (op2 ltD (pu kind) (pu (.int 7)))) fun c => if c then
  (bd (op2 idxD (opL lstD (ac (pu (.bool true)) (ac (pu (.bool false)) (ac (pu .none) a0)))) (op2 subD (pu kind) (pu (.int 4)))) fun x => pu (.rt x))
  else
  (bd (SM.tb (op2 ltD (pu kind) (pu (.int 9)))) fun c => if c then
  (bd (op2 idxD (opL lstD (ac (pu (.str "")) (ac (pu (.str "4")) (ac (pu (.str "none")) (ac (pu (.str "(4, 2)")) (ac (pu (.str "-1")) (ac (pu (.str ".")) a0))))))) (cD (u1 m__law_pick) (ac (pu (.int 6)) a0))) fun x => pu (.rt x))
  else
  (bd (SM.lc (itR (ac (op2 mulD (cD (u1 m__law_pick) (ac (pu (.int 4)) a0)) (opL intD (ac (op2 gtD (pu deep) (pu (.int 0))) a0))) a0)) (fun k => (pu true)) (fun k => (cD (u1 (m__law_thing_r fu)) (ac (op2 subD (pu deep) (pu (.int 1))) a0)))) fun some' =>
  (bd (eif (SM.tb (op2 eqD (pu kind) (pu (.int 9)))) (pu some') (opL tupleD (ac (pu some') a0))) fun x => pu (.rt x)))))))) : SM D (Fl Unit Empty))
def m__law_thing (deep : D) : SM D D := m__law_thing_r 6 deep
def m__law_worth (kind : D) (row : D) : SM Unit D := fin
  ((bd (pu (.int 0)) fun total =>
  (sq (bd (itS (pu row)) fun xs => forS xs total fun figure (s2 : D) =>
  (bd (op2 addD (op2 mulD (pu s2) (op2 idxD (pu kind) (pu (.int 0)))) (pu figure)) fun total1 =>
  (pu (.nx total1)))) fun s2 =>
  (bd (pu s2) fun x => pu (.rt x)))) : SM Unit (Fl Unit Empty))
def m__law_is_figure (kind : D) (thing : D) : SM Unit D := fin
  ((bd (eand (cP (u1 m__law_whole) (ac (pu thing) a0)) (SM.chain leD leD (op2 subD (pu (.int 0)) (op2 idxD (pu kind) (pu (.int 1)))) (pu thing) (op2 idxD (pu kind) (pu (.int 1))))) fun x => pu (.rt x)) : SM Unit (Fl Unit Empty))
def m__law_tried_b (pair : D) : SM (D) D := fin
  ((bd (pu .none) fun told =>
  (bd (pu (.str "")) fun fault =>
  (sq (tryS (fun e => isa (nmX e)) (bd (eif (SM.tb (op2 isD (pu pair) (pu .none))) (cZ (u0 m_Summer_end) (zV (fun m : D => m) (fun (y : D) (_m : D) => y) zN)) (cZ (u2 m_Summer_put) (zV (fun m : D => m) (fun (y : D) (_m : D) => y) (zF (op2 idxD (pu pair) (pu (.int 0))) (zF (op2 idxD (pu pair) (pu (.int 1))) zN))))) fun told1 =>
  (pu (.nx (told1, fault)))) (fun e =>
  (bd (px (m__law_name_of e)) fun fault1 =>
  (pu (.nx (told, fault1)))))) fun s3 =>
  (bd (opL tupD (ac (pu s3.1) (ac (pu s3.2) a0))) fun x => pu (.rt x))))) : SM (D) (Fl Unit Empty))
def m__law_tried (pair : D) : SM (List D) D := zbody (fun ts : List D => ((ts.getD 0 .none) : D)) (fun m : D => [m]) (m__law_tried_b pair)
def m__law_pair (kind : D) : SM D D := fin
  ((bd (SM.lc (itR (ac (pu (.int 2)) a0)) (fun k => (pu true)) (fun k => (op2 subD (cD (u1 m__law_pick) (ac (op2 addD (op2 mulD (pu (.int 2)) (op2 idxD (pu kind) (pu (.int 1)))) (pu (.int 1))) a0)) (op2 idxD (pu kind) (pu (.int 1)))))) fun pair =>
  (sq (bd (SM.tb (op2 eqD (cD (u1 m__law_pick) (ac (pu (.int 6)) a0)) (pu (.int 0)))) fun c => if c then
  (bd (opL lstD (ac (op2 addD (op2 idxD (pu kind) (pu (.int 1))) (pu (.int 1))) (ac (op2 subD (op2 subD (pu (.int 0)) (op2 idxD (pu kind) (pu (.int 1)))) (pu (.int 1))) (ac (pu (.bool true)) (ac (pu (.str "1")) (ac (pu .none) (ac (opL tupD (ac (pu (.int 1)) a0)) (ac (op2 idxD (pu kind) (pu (.int 0))) (ac (cD (u1 m__law_thing) (ac (pu (.int 2)) a0)) a0))))))))) fun odd =>
  (bd (bd (op2 idxD (pu odd) (cD (u1 m__law_pick) (ac (pu (.int 8)) a0))) fun y => bd (cD (u1 m__law_pick) (ac (pu (.int 2)) a0)) fun x => of (setD pair x y)) fun pair1 =>
  (pu (.nx pair1))))
  else
  (pu (.nx pair))) fun s5 =>
  (bd (eif (SM.tb (op2 eqD (cD (u1 m__law_pick) (ac (pu (.int 40)) a0)) (pu (.int 0)))) (pu .none) (pu s5)) fun x => pu (.rt x)))) : SM D (Fl Unit Empty))
def m__law_one_right_b : SM (D × D) D := fin
  ((bd (bd (nr1 (bd (pu []) fun p => pu (p ++ [0]))) fun p => rdP (fun m : D × D => m.2) p) fun kind =>
  (bd (cDl (fun m : D × D => m.1) (fun (y : D) (m : D × D) => (y, m.2)) (u1 m__law_pair) (ac (pu kind) a0)) fun pair =>
  (bd (cZ0 (u1 m__law_tried) (zP (fun m : D × D => m.2) (fun (y : D) (m : D × D) => (m.1, y)) (bd (pu []) fun p => pu (p ++ [1])) (zF (pu pair) zN))) fun t4 => (unp2 t4 fun told fault =>
  (bd (pu (.str "")) fun due =>
  (sq (bd (SM.tr (bd (nr1 (bd (pu []) fun p => pu (p ++ [4]))) fun p => rdP (fun m : D × D => m.2) p)) fun c => if c then
  (bd (pu (.str "NoMore+")) fun due1 =>
  (pu (.nx due1)))
  else
  (bd (tand (SM.tb (op2 isntD (pu pair) (pu .none))) (SM.tb (op2 neD (SM.lc (itS (pu pair)) (fun one => (tnot (SM.tr (cP (u2 m__law_is_figure) (ac (pu kind) (ac (pu one) a0)))))) (fun one => (pu one))) (opL lstD a0)))) fun c => if c then
  (bd (pu (.str "NoFigure+")) fun due2 =>
  (pu (.nx due2)))
  else
  (pu (.nx due)))) fun s10 =>
  (bd (tor (SM.tb (op2 neD (pu fault) (pu s10))) (SM.tb (op2 neD (op2 isD (pu told) (pu .none)) (op2 neD (pu s10) (pu (.str "")))))) fun c => if c then
  (bd (pu (.bool false)) fun x => pu (.rt x))
  else
  (sq (bd (SM.tb (op2 eqD (pu s10) (pu (.str "")))) fun c => if c then
  (bd (bd (op2 addD (bd (nr1 (bd (pu []) fun p => pu (p ++ [3]))) fun p => rdP (fun m : D × D => m.2) p) (pu told)) fun y => bd (nr1 (pu [])) fun p => mdP (fun m : D × D => m.2) (fun (y : D) (m : D × D) => (m.1, y)) p fun r => fsetN 3 r y) fun _ =>
  (bd (SM.tb (op2 isD (pu pair) (pu .none))) fun c => if c then
  (bd (bd (pu (.bool true)) fun y => bd (nr1 (pu [])) fun p => mdP (fun m : D × D => m.2) (fun (y : D) (m : D × D) => (m.1, y)) p fun r => fsetN 4 r y) fun _ =>
  (pu (.nx ())))
  else
  (bd (bd (nr1 (bd (pu []) fun p => pu (p ++ [2]))) fun p => bd (nr1 (pu pair)) fun y => mdP (fun m : D × D => m.2) (fun (y : D) (m : D × D) => (m.1, y)) p fun r => appD r y) fun _ =>
  (pu (.nx ())))))
  else
  (pu (.nx ()))) fun s18 =>
  (bd (op2 eqD (cZ0 (u0 m_Summer_told) (zP (fun m : D × D => m.2) (fun (y : D) (m : D × D) => (m.1, y)) (bd (pu []) fun p => pu (p ++ [1])) zN)) (bd (nr1 (bd (pu []) fun p => pu (p ++ [3]))) fun p => rdP (fun m : D × D => m.2) p)) fun x => pu (.rt x)))))))))) : SM (D × D) (Fl Unit Empty))
def m__law_one_right : SM (List D) D := zbody (fun ts : List D => (((ts.getD 0 .none), (ts.getD 1 .none)) : D × D)) (fun m : D × D => [m.1, m.2]) (m__law_one_right_b )
def m__law_sums_right_b : SM (D) D := fin
  ((sq (bd (tnot (SM.tr (bd (nr1 (bd (pu []) fun p => pu (p ++ [4]))) fun p => rdP (fun m : D => m) p))) fun c => if c then
  (bd (bd (op2 addD (bd (nr1 (bd (pu []) fun p => pu (p ++ [3]))) fun p => rdP (fun m : D => m) p) (cZ (u0 m_Summer_end) (zP (fun m : D => m) (fun (y : D) (_m : D) => y) (bd (pu []) fun p => pu (p ++ [1])) zN))) fun y => bd (nr1 (pu [])) fun p => mdP (fun m : D => m) (fun (y : D) (_m : D) => y) p fun r => fsetN 3 r y) fun _ =>
  (pu (.nx ())))
  else
  (pu (.nx ()))) fun s1 =>
  (bd (rdr fun m : D => (opL sumD (ac (SM.lc (itR (ac (pu (.int 2)) a0)) (fun k => (pu true)) (fun k => (cP (u2 m__law_worth) (ac (bd (pu m) fun r => of (kidO 0 r)) (ac (SM.lc (itS (bd (pu m) fun r => of (kidO 2 r))) (fun pair => (pu true)) (fun pair => (op2 idxD (pu pair) (pu k)))) a0))))) a0))) fun total =>
  (bd (rdr fun m : D => (eand (op2 eqD (opL lenD (ac (bd (pu m) fun r => of (kidO 3 r)) a0)) (op2 addD (opL lenD (ac (bd (pu m) fun r => of (kidO 2 r)) a0)) (pu (.int 1)))) (op2 eqD (cP (u2 m__law_worth) (ac (bd (pu m) fun r => of (kidO 0 r)) (ac (bd (pu m) fun r => of (kidO 3 r)) a0))) (pu total)))) fun x => pu (.rt x)))) : SM (D) (Fl Unit Empty))
def m__law_sums_right : SM (List D) D := zbody (fun ts : List D => ((ts.getD 0 .none) : D)) (fun m : D => [m]) (m__law_sums_right_b )
def m_law (script : D) : SM (D × D) D := fin
  ((bd (bd (cP (u2 m__law_deck) (ac (op2 idxD (op2 addD (pu script) (opL lstD (ac (pu (.int 0)) a0))) (pu (.int 0))) (ac (pu (.int 0)) a0))) fun x => putG (fun (y : D) (m : D × D) => (y, m.2)) x) fun _ =>
  (bd (bd (zLst zN) fun x => putG (fun (y : D) (m : D × D) => (m.1, y)) x) fun _ =>
  (sq (bd (itR (ac (pu (.int 2)) a0)) fun xs => forS xs () fun k (s3 : Unit) =>
  (bd (cDl (fun m : D × D => m.1) (fun (y : D) (m : D × D) => (y, m.2)) (u0 m__law_kind) a0) fun kind =>
  (bd (bd (nr1 (pu [])) fun p => bd (nr1 (zTup (zT (pu kind) (zT (mkZ0 (u1 m_Summer_init) (zF (pu kind) zN)) (zT (opL lstD a0) (zT (opL lstD a0) (zT (pu (.bool false)) zN))))))) fun y => mdP (fun m : D × D => m.2) (fun (y : D) (m : D × D) => (m.1, y)) p fun r => appD r y) fun _ =>
  (pu (.nx ()))))) fun s3 =>
  (sq (bd (itS (op2 addD (SM.slice (pu script) (SM.part (pu (.int 1))) (SM.part (pu (.int 61)))) (opL lstD (ac (pu (.int 0)) a0)))) fun xs => forS xs () fun cell (s11 : Unit) =>
  (bd (bd (cP (u2 m__law_deck) (ac (pu cell) (ac (pu (.int 330)) a0))) fun x => putG (fun (y : D) (m : D × D) => (y, m.2)) x) fun _ =>
  (bd (tnot (SM.tr (cZ0 (u0 m__law_one_right) (zV (fun m : D × D => m.1) (fun (y : D) (m : D × D) => (y, m.2)) (zP (fun m : D × D => m.2) (fun (y : D) (m : D × D) => (m.1, y)) (bd (opL intD (ac (op2 eqD (cDl (fun m : D × D => m.1) (fun (y : D) (m : D × D) => (y, m.2)) (u1 m__law_pick) (ac (pu (.int 4)) a0)) (pu (.int 0))) a0)) fun x => ixP (fun m : D × D => m.2) [] x) zN))))) fun c => if c then
  (bd (pu (.bool false)) fun x => pu (.rt x))
  else
  (pu (.nx ()))))) fun s11 =>
  (bd (eand (cZ0 (u0 m__law_sums_right) (zP (fun m : D × D => m.2) (fun (y : D) (m : D × D) => (m.1, y)) (bd (pu []) fun p => ixP (fun m : D × D => m.2) p (.int ((0 : Nat) : Int))) zN)) (cZ0 (u0 m__law_sums_right) (zP (fun m : D × D => m.2) (fun (y : D) (m : D × D) => (m.1, y)) (bd (pu []) fun p => ixP (fun m : D × D => m.2) p (.int ((1 : Nat) : Int))) zN))) fun x => pu (.rt x)))))) : SM (D × D) (Fl Unit Empty))
def top (i : Nat) : Stmt := PySem.Challenge.pw_slackfigures_k39_summers_by_turns.main.body.getD i (.Pass ⟨0, 0, 0, 0⟩)
abbrev s_is_whole : Stmt := top 14
abbrev s_is_figure : Stmt := top 15
abbrev s_nearest_figure : Stmt := top 17
abbrev s_Summer_init : Stmt := inClass (top 18) 0
abbrev s_Summer_tell : Stmt := inClass (top 18) 1
abbrev s_Summer_put : Stmt := inClass (top 18) 2
abbrev s_Summer_end : Stmt := inClass (top 18) 3
abbrev s_Summer_refuse_behind_end : Stmt := inClass (top 18) 4
abbrev s_Summer_told : Stmt := inClass (top 18) 5
abbrev s__law_deck : Stmt := top 20
abbrev s__law_pick : Stmt := top 21
abbrev s__law_kind : Stmt := top 22
abbrev s__law_whole : Stmt := top 23
abbrev s__law_name_of : Stmt := top 24
abbrev s__law_thing : Stmt := top 25
abbrev s__law_worth : Stmt := top 26
abbrev s__law_is_figure : Stmt := top 27
abbrev s__law_tried : Stmt := top 28
abbrev s__law_pair : Stmt := top 29
abbrev s__law_one_right : Stmt := top 30
abbrev s__law_sums_right : Stmt := top 31
abbrev s_law : Stmt := top 32
theorem sc_is_whole : FnScope ["thing"] ["thing"] (defScope s_is_whole) := ⟨rfl, rfl, rfl, by decide +kernel, rfl, by decide +kernel, by decide +kernel⟩
theorem sc_is_figure : FnScope ["kind", "thing", "most"] ["kind", "thing"] (defScope s_is_figure) := ⟨rfl, rfl, rfl, by decide +kernel, rfl, by decide +kernel, by decide +kernel⟩
theorem sc_nearest_figure : FnScope ["kind", "number", "weight", "most"] ["kind", "number", "weight"] (defScope s_nearest_figure) := ⟨rfl, rfl, rfl, by decide +kernel, rfl, by decide +kernel, by decide +kernel⟩
theorem sc_Summer_init : FnScope ["self", "kind"] ["self", "kind"] (defScope s_Summer_init) := ⟨rfl, rfl, rfl, by decide +kernel, rfl, by decide +kernel, by decide +kernel⟩
theorem sc_Summer_tell : FnScope ["self", "weight", "figure"] ["self", "weight"] (defScope s_Summer_tell) := ⟨rfl, rfl, rfl, by decide +kernel, rfl, by decide +kernel, by decide +kernel⟩
theorem sc_Summer_put : FnScope ["self", "one", "other", "base"] ["self", "one", "other"] (defScope s_Summer_put) := ⟨rfl, rfl, rfl, by decide +kernel, rfl, by decide +kernel, by decide +kernel⟩
theorem sc_Summer_end : FnScope ["self"] ["self"] (defScope s_Summer_end) := ⟨rfl, rfl, rfl, by decide +kernel, rfl, by decide +kernel, by decide +kernel⟩
theorem sc_Summer_refuse_behind_end : FnScope ["self"] ["self"] (defScope s_Summer_refuse_behind_end) := ⟨rfl, rfl, rfl, by decide +kernel, rfl, by decide +kernel, by decide +kernel⟩
theorem sc_Summer_told : FnScope ["self"] ["self"] (defScope s_Summer_told) := ⟨rfl, rfl, rfl, by decide +kernel, rfl, by decide +kernel, by decide +kernel⟩
theorem sc__law_deck : FnScope ["cell", "turn"] ["cell", "turn"] (defScope s__law_deck) := ⟨rfl, rfl, rfl, by decide +kernel, rfl, by decide +kernel, by decide +kernel⟩
theorem sc__law_pick : FnScope ["deck", "many", "found", "number"] ["deck", "many"] (defScope s__law_pick) := ⟨rfl, rfl, rfl, by decide +kernel, rfl, by decide +kernel, by decide +kernel⟩
theorem sc__law_kind : FnScope ["deck", "base"] ["deck"] (defScope s__law_kind) := ⟨rfl, rfl, rfl, by decide +kernel, rfl, by decide +kernel, by decide +kernel⟩
theorem sc__law_whole : FnScope ["thing"] ["thing"] (defScope s__law_whole) := ⟨rfl, rfl, rfl, by decide +kernel, rfl, by decide +kernel, by decide +kernel⟩
theorem sc__law_name_of : FnScope ["e", "kinds", "names", "name", "kind"] ["e"] (defScope s__law_name_of) := ⟨rfl, rfl, rfl, by decide +kernel, rfl, by decide +kernel, by decide +kernel⟩
theorem sc__law_thing : FnScope ["deck", "deep", "kind", "far", "some", "k"] ["deck", "deep"] (defScope s__law_thing) := ⟨rfl, rfl, rfl, by decide +kernel, rfl, by decide +kernel, by decide +kernel⟩
theorem sc__law_worth : FnScope ["kind", "row", "total", "figure"] ["kind", "row"] (defScope s__law_worth) := ⟨rfl, rfl, rfl, by decide +kernel, rfl, by decide +kernel, by decide +kernel⟩
theorem sc__law_is_figure : FnScope ["kind", "thing"] ["kind", "thing"] (defScope s__law_is_figure) := ⟨rfl, rfl, rfl, by decide +kernel, rfl, by decide +kernel, by decide +kernel⟩
theorem sc__law_tried : FnScope ["summer", "pair", "told", "fault", "e"] ["summer", "pair"] (defScope s__law_tried) := ⟨rfl, rfl, rfl, by decide +kernel, rfl, by decide +kernel, by decide +kernel⟩
theorem sc__law_pair : FnScope ["deck", "kind", "pair", "odd", "k"] ["deck", "kind"] (defScope s__law_pair) := ⟨rfl, rfl, rfl, by decide +kernel, rfl, by decide +kernel, by decide +kernel⟩
theorem sc__law_one_right : FnScope ["deck", "own", "kind", "pair", "told", "fault", "due", "one"] ["deck", "own"] (defScope s__law_one_right) := ⟨rfl, rfl, rfl, by decide +kernel, rfl, by decide +kernel, by decide +kernel⟩
theorem sc__law_sums_right : FnScope ["own", "total", "k", "pair"] ["own"] (defScope s__law_sums_right) := ⟨rfl, rfl, rfl, by decide +kernel, rfl, by decide +kernel, by decide +kernel⟩
theorem sc_law : FnScope ["script", "deck", "both", "k", "kind", "cell"] ["script"] (defScope s_law) := ⟨rfl, rfl, rfl, by decide +kernel, rfl, by decide +kernel, by decide +kernel⟩
/-- what the top has left -/
structure Txt (K : PySem.W.Frag) (mg : Str → Option Value) where
  C_Summer : Addr
  c_Summer : Cls K C_Summer
  g_Summer : mg "Summer" = some (.ref C_Summer)
  n_Summer_kind : NoAttr K C_Summer "kind"
  n_Summer_short : NoAttr K C_Summer "short"
  n_Summer_figures : NoAttr K C_Summer "figures"
  n_Summer_pairs : NoAttr K C_Summer "pairs"
  n_Summer_ended : NoAttr K C_Summer "ended"
  C_NoFigure : Addr
  g_NoFigure : mg "NoFigure" = some (.ref C_NoFigure)
  C_NoMore : Addr
  g_NoMore : mg "NoMore" = some (.ref C_NoMore)
  C_NoLooks : Addr
  g_NoLooks : mg "NoLooks" = some (.ref C_NoLooks)
  C_NoRoom : Addr
  g_NoRoom : mg "NoRoom" = some (.ref C_NoRoom)
  C_NoRow : Addr
  g_NoRow : mg "NoRow" = some (.ref C_NoRow)
  C_NoTable : Addr
  g_NoTable : mg "NoTable" = some (.ref C_NoTable)
  C_NoText : Addr
  g_NoText : mg "NoText" = some (.ref C_NoText)
  C_Spoilt : Addr
  g_Spoilt : mg "Spoilt" = some (.ref C_Spoilt)
  C_NoWork : Addr
  g_NoWork : mg "NoWork" = some (.ref C_NoWork)
  C_NoCell : Addr
  g_NoCell : mg "NoCell" = some (.ref C_NoCell)
  C_NoDeed : Addr
  g_NoDeed : mg "NoDeed" = some (.ref C_NoDeed)
  C_SlackError : Addr
  g_SlackError : mg "SlackError" = some (.ref C_SlackError)
  xb_SlackError : PySem.W.subIn K (.ref C_SlackError) (.type "BaseException") = some true
  xd_SlackError : PySem.W.hasDictIn K C_SlackError = true
  xt_SlackError : PySem.W.typeIn K (.ref C_SlackError) = some (.type "type")
  xu_NoFigure_SlackError : PySem.W.subIn K (.ref C_NoFigure) (.ref C_SlackError) = some true
  xu_NoMore_SlackError : PySem.W.subIn K (.ref C_NoMore) (.ref C_SlackError) = some true
  kc_NoFigure : PySem.W.keepIn K (.ref C_NoFigure) = true
  eb_NoFigure : PySem.W.subIn K (.ref C_NoFigure) (.type "BaseException") = some true
  et_NoFigure : PySem.W.typeIn K (.ref C_NoFigure) = some (.type "type")
  ed_NoFigure : PySem.W.hasDictIn K C_NoFigure = true
  eg_NoFigure : PySem.W.findIn K (.ref C_NoFigure) "__getattribute__" = some (some (.builtin "BaseException.__getattribute__"))
  ek_NoFigure : PySem.W.findIn K (.ref C_NoFigure) "__getattr__" = some none
  ea_NoFigure : PySem.W.findIn K (.ref C_NoFigure) "__class__" = some (some (.builtin "object.__class__"))
  em_NoFigure : PySem.W.mroIn K C_NoFigure (.type "object") = some true
  xq_NoFigure : PySem.W.excIn K C_NoFigure [.type "ValueError", .type "Exception", .type "BaseException", .type "object"] "ValueError.__new__" = true
  ss_NoFigure : PySem.W.subIn K (.ref C_NoFigure) (.ref C_NoFigure) = some true
  ii_NoFigure_NoFigure : PySem.W.subIn K (.ref C_NoFigure) (.ref C_NoFigure) = some true
  ii_NoFigure_NoLooks : PySem.W.subIn K (.ref C_NoFigure) (.ref C_NoLooks) = some false
  ii_NoFigure_NoRoom : PySem.W.subIn K (.ref C_NoFigure) (.ref C_NoRoom) = some false
  ii_NoFigure_NoRow : PySem.W.subIn K (.ref C_NoFigure) (.ref C_NoRow) = some false
  ii_NoFigure_NoTable : PySem.W.subIn K (.ref C_NoFigure) (.ref C_NoTable) = some false
  ii_NoFigure_NoText : PySem.W.subIn K (.ref C_NoFigure) (.ref C_NoText) = some false
  ii_NoFigure_Spoilt : PySem.W.subIn K (.ref C_NoFigure) (.ref C_Spoilt) = some false
  ii_NoFigure_NoMore : PySem.W.subIn K (.ref C_NoFigure) (.ref C_NoMore) = some false
  ii_NoFigure_NoWork : PySem.W.subIn K (.ref C_NoFigure) (.ref C_NoWork) = some false
  ii_NoFigure_NoCell : PySem.W.subIn K (.ref C_NoFigure) (.ref C_NoCell) = some false
  ii_NoFigure_NoDeed : PySem.W.subIn K (.ref C_NoFigure) (.ref C_NoDeed) = some false
  ii_NoFigure_ValueError : PySem.W.subIn K (.ref C_NoFigure) (.type "ValueError") = some true
  kc_NoMore : PySem.W.keepIn K (.ref C_NoMore) = true
  eb_NoMore : PySem.W.subIn K (.ref C_NoMore) (.type "BaseException") = some true
  et_NoMore : PySem.W.typeIn K (.ref C_NoMore) = some (.type "type")
  ed_NoMore : PySem.W.hasDictIn K C_NoMore = true
  eg_NoMore : PySem.W.findIn K (.ref C_NoMore) "__getattribute__" = some (some (.builtin "BaseException.__getattribute__"))
  ek_NoMore : PySem.W.findIn K (.ref C_NoMore) "__getattr__" = some none
  ea_NoMore : PySem.W.findIn K (.ref C_NoMore) "__class__" = some (some (.builtin "object.__class__"))
  em_NoMore : PySem.W.mroIn K C_NoMore (.type "object") = some true
  xq_NoMore : PySem.W.excIn K C_NoMore [.type "ValueError", .type "Exception", .type "BaseException", .type "object"] "ValueError.__new__" = true
  ss_NoMore : PySem.W.subIn K (.ref C_NoMore) (.ref C_NoMore) = some true
  ii_NoMore_NoFigure : PySem.W.subIn K (.ref C_NoMore) (.ref C_NoFigure) = some false
  ii_NoMore_NoLooks : PySem.W.subIn K (.ref C_NoMore) (.ref C_NoLooks) = some false
  ii_NoMore_NoRoom : PySem.W.subIn K (.ref C_NoMore) (.ref C_NoRoom) = some false
  ii_NoMore_NoRow : PySem.W.subIn K (.ref C_NoMore) (.ref C_NoRow) = some false
  ii_NoMore_NoTable : PySem.W.subIn K (.ref C_NoMore) (.ref C_NoTable) = some false
  ii_NoMore_NoText : PySem.W.subIn K (.ref C_NoMore) (.ref C_NoText) = some false
  ii_NoMore_Spoilt : PySem.W.subIn K (.ref C_NoMore) (.ref C_Spoilt) = some false
  ii_NoMore_NoMore : PySem.W.subIn K (.ref C_NoMore) (.ref C_NoMore) = some true
  ii_NoMore_NoWork : PySem.W.subIn K (.ref C_NoMore) (.ref C_NoWork) = some false
  ii_NoMore_NoCell : PySem.W.subIn K (.ref C_NoMore) (.ref C_NoCell) = some false
  ii_NoMore_NoDeed : PySem.W.subIn K (.ref C_NoMore) (.ref C_NoDeed) = some false
  ii_NoMore_ValueError : PySem.W.subIn K (.ref C_NoMore) (.type "ValueError") = some true
  id_NoFigure : PySem.W.hasDictIn K C_NoFigure = true
  it_NoFigure : PySem.W.typeIn K (.ref C_NoFigure) = some (.type "type")
  id_NoLooks : PySem.W.hasDictIn K C_NoLooks = true
  it_NoLooks : PySem.W.typeIn K (.ref C_NoLooks) = some (.type "type")
  id_NoRoom : PySem.W.hasDictIn K C_NoRoom = true
  it_NoRoom : PySem.W.typeIn K (.ref C_NoRoom) = some (.type "type")
  id_NoRow : PySem.W.hasDictIn K C_NoRow = true
  it_NoRow : PySem.W.typeIn K (.ref C_NoRow) = some (.type "type")
  id_NoTable : PySem.W.hasDictIn K C_NoTable = true
  it_NoTable : PySem.W.typeIn K (.ref C_NoTable) = some (.type "type")
  id_NoText : PySem.W.hasDictIn K C_NoText = true
  it_NoText : PySem.W.typeIn K (.ref C_NoText) = some (.type "type")
  id_Spoilt : PySem.W.hasDictIn K C_Spoilt = true
  it_Spoilt : PySem.W.typeIn K (.ref C_Spoilt) = some (.type "type")
  id_NoMore : PySem.W.hasDictIn K C_NoMore = true
  it_NoMore : PySem.W.typeIn K (.ref C_NoMore) = some (.type "type")
  id_NoWork : PySem.W.hasDictIn K C_NoWork = true
  it_NoWork : PySem.W.typeIn K (.ref C_NoWork) = some (.type "type")
  id_NoCell : PySem.W.hasDictIn K C_NoCell = true
  it_NoCell : PySem.W.typeIn K (.ref C_NoCell) = some (.type "type")
  id_NoDeed : PySem.W.hasDictIn K C_NoDeed = true
  it_NoDeed : PySem.W.typeIn K (.ref C_NoDeed) = some (.type "type")
  e_n : PySem.W.specialIn K (.builtin "object.__class__") "__get__" = some (some (.builtin "getset_descriptor.__get__"))
  e_k : PySem.W.takesIn K (.builtin "object.__class__") = some true
  a_is_whole : Addr
  fd_is_whole : FuncData
  F_is_whole : Fun K "is_whole" "is_whole" s_is_whole a_is_whole fd_is_whole
  m_is_whole : mg "is_whole" = some (.ref a_is_whole)
  b_is_whole : Binds K fd_is_whole ["thing"] []
  a_is_figure : Addr
  fd_is_figure : FuncData
  F_is_figure : Fun K "is_figure" "is_figure" s_is_figure a_is_figure fd_is_figure
  m_is_figure : mg "is_figure" = some (.ref a_is_figure)
  b_is_figure : Binds K fd_is_figure ["kind", "thing"] []
  a_nearest_figure : Addr
  fd_nearest_figure : FuncData
  F_nearest_figure : Fun K "nearest_figure" "nearest_figure" s_nearest_figure a_nearest_figure fd_nearest_figure
  m_nearest_figure : mg "nearest_figure" = some (.ref a_nearest_figure)
  b_nearest_figure : Binds K fd_nearest_figure ["kind", "number", "weight"] []
  a_Summer_init : Addr
  fd_Summer_init : FuncData
  F_Summer_init : Fun K "__init__" "Summer.__init__" s_Summer_init a_Summer_init fd_Summer_init
  k_Summer : Mk K C_Summer a_Summer_init
  b_Summer_init : Binds K fd_Summer_init ["self", "kind"] []
  a_Summer_tell : Addr
  fd_Summer_tell : FuncData
  F_Summer_tell : Fun K "tell" "Summer.tell" s_Summer_tell a_Summer_tell fd_Summer_tell
  h_Summer_tell : Meth K C_Summer "tell" a_Summer_tell
  b_Summer_tell : Binds K fd_Summer_tell ["self", "weight"] []
  a_Summer_put : Addr
  fd_Summer_put : FuncData
  F_Summer_put : Fun K "put" "Summer.put" s_Summer_put a_Summer_put fd_Summer_put
  h_Summer_put : Meth K C_Summer "put" a_Summer_put
  b_Summer_put : Binds K fd_Summer_put ["self", "one", "other"] []
  a_Summer_end : Addr
  fd_Summer_end : FuncData
  F_Summer_end : Fun K "end" "Summer.end" s_Summer_end a_Summer_end fd_Summer_end
  h_Summer_end : Meth K C_Summer "end" a_Summer_end
  b_Summer_end : Binds K fd_Summer_end ["self"] []
  a_Summer_refuse_behind_end : Addr
  fd_Summer_refuse_behind_end : FuncData
  F_Summer_refuse_behind_end : Fun K "refuse_behind_end" "Summer.refuse_behind_end" s_Summer_refuse_behind_end a_Summer_refuse_behind_end fd_Summer_refuse_behind_end
  h_Summer_refuse_behind_end : Meth K C_Summer "refuse_behind_end" a_Summer_refuse_behind_end
  b_Summer_refuse_behind_end : Binds K fd_Summer_refuse_behind_end ["self"] []
  a_Summer_told : Addr
  fd_Summer_told : FuncData
  F_Summer_told : Fun K "told" "Summer.told" s_Summer_told a_Summer_told fd_Summer_told
  h_Summer_told : Meth K C_Summer "told" a_Summer_told
  b_Summer_told : Binds K fd_Summer_told ["self"] []
  a__law_deck : Addr
  fd__law_deck : FuncData
  F__law_deck : Fun K "_law_deck" "_law_deck" s__law_deck a__law_deck fd__law_deck
  m__law_deck : mg "_law_deck" = some (.ref a__law_deck)
  b__law_deck : Binds K fd__law_deck ["cell", "turn"] []
  a__law_pick : Addr
  fd__law_pick : FuncData
  F__law_pick : Fun K "_law_pick" "_law_pick" s__law_pick a__law_pick fd__law_pick
  m__law_pick : mg "_law_pick" = some (.ref a__law_pick)
  b__law_pick : Binds K fd__law_pick ["deck", "many"] []
  a__law_kind : Addr
  fd__law_kind : FuncData
  F__law_kind : Fun K "_law_kind" "_law_kind" s__law_kind a__law_kind fd__law_kind
  m__law_kind : mg "_law_kind" = some (.ref a__law_kind)
  b__law_kind : Binds K fd__law_kind ["deck"] []
  a__law_whole : Addr
  fd__law_whole : FuncData
  F__law_whole : Fun K "_law_whole" "_law_whole" s__law_whole a__law_whole fd__law_whole
  m__law_whole : mg "_law_whole" = some (.ref a__law_whole)
  b__law_whole : Binds K fd__law_whole ["thing"] []
  a__law_name_of : Addr
  fd__law_name_of : FuncData
  F__law_name_of : Fun K "_law_name_of" "_law_name_of" s__law_name_of a__law_name_of fd__law_name_of
  m__law_name_of : mg "_law_name_of" = some (.ref a__law_name_of)
  b__law_name_of : Binds K fd__law_name_of ["e"] []
  a__law_thing : Addr
  fd__law_thing : FuncData
  F__law_thing : Fun K "_law_thing" "_law_thing" s__law_thing a__law_thing fd__law_thing
  m__law_thing : mg "_law_thing" = some (.ref a__law_thing)
  b__law_thing : Binds K fd__law_thing ["deck", "deep"] []
  a__law_worth : Addr
  fd__law_worth : FuncData
  F__law_worth : Fun K "_law_worth" "_law_worth" s__law_worth a__law_worth fd__law_worth
  m__law_worth : mg "_law_worth" = some (.ref a__law_worth)
  b__law_worth : Binds K fd__law_worth ["kind", "row"] []
  a__law_is_figure : Addr
  fd__law_is_figure : FuncData
  F__law_is_figure : Fun K "_law_is_figure" "_law_is_figure" s__law_is_figure a__law_is_figure fd__law_is_figure
  m__law_is_figure : mg "_law_is_figure" = some (.ref a__law_is_figure)
  b__law_is_figure : Binds K fd__law_is_figure ["kind", "thing"] []
  a__law_tried : Addr
  fd__law_tried : FuncData
  F__law_tried : Fun K "_law_tried" "_law_tried" s__law_tried a__law_tried fd__law_tried
  m__law_tried : mg "_law_tried" = some (.ref a__law_tried)
  b__law_tried : Binds K fd__law_tried ["summer", "pair"] []
  a__law_pair : Addr
  fd__law_pair : FuncData
  F__law_pair : Fun K "_law_pair" "_law_pair" s__law_pair a__law_pair fd__law_pair
  m__law_pair : mg "_law_pair" = some (.ref a__law_pair)
  b__law_pair : Binds K fd__law_pair ["deck", "kind"] []
  a__law_one_right : Addr
  fd__law_one_right : FuncData
  F__law_one_right : Fun K "_law_one_right" "_law_one_right" s__law_one_right a__law_one_right fd__law_one_right
  m__law_one_right : mg "_law_one_right" = some (.ref a__law_one_right)
  b__law_one_right : Binds K fd__law_one_right ["deck", "own"] []
  a__law_sums_right : Addr
  fd__law_sums_right : FuncData
  F__law_sums_right : Fun K "_law_sums_right" "_law_sums_right" s__law_sums_right a__law_sums_right fd__law_sums_right
  m__law_sums_right : mg "_law_sums_right" = some (.ref a__law_sums_right)
  b__law_sums_right : Binds K fd__law_sums_right ["own"] []
  a_law : Addr
  fd_law : FuncData
  F_law : Fun K "law" "law" s_law a_law fd_law
  m_law : mg "law" = some (.ref a_law)
  b_law : Binds K fd_law ["script"] []
  z_isinstance : mg "isinstance" = none
  z_int : mg "int" = none
  z_bool : mg "bool" = none
  z_max : mg "max" = none
  z_min : mg "min" = none
  z_list : mg "list" = none
  z_ValueError : mg "ValueError" = none
  z_zip : mg "zip" = none
  z_range : mg "range" = none
  z_tuple : mg "tuple" = none
  z_sum : mg "sum" = none
  z_len : mg "len" = none
def Txt.exs {K : PySem.W.Frag} {mg : Str → Option Value} (T : Txt K mg) : List (Str × Addr) := [("NoFigure", T.C_NoFigure), ("NoMore", T.C_NoMore)]
theorem Txt.ec_NoFigure {K : PySem.W.Frag} {mg : Str → Option Value} (T : Txt K mg) : ExcC K T.C_NoFigure := ⟨T.eg_NoFigure, T.ek_NoFigure, T.eb_NoFigure, T.ed_NoFigure, T.ea_NoFigure, T.e_n, T.e_k, T.em_NoFigure⟩
theorem Txt.xf_NoFigure {K : PySem.W.Frag} {mg : Str → Option Value} (T : Txt K mg) : XfC K T.C_NoFigure := ⟨T.eg_NoFigure, T.ek_NoFigure, T.eb_NoFigure, T.ed_NoFigure⟩
theorem Txt.in_NoFigure {K : PySem.W.Frag} {mg : Str → Option Value} (T : Txt K mg) : (("NoFigure" : Str), T.C_NoFigure) ∈ T.exs := by unfold Txt.exs; simp
theorem Txt.ec_NoMore {K : PySem.W.Frag} {mg : Str → Option Value} (T : Txt K mg) : ExcC K T.C_NoMore := ⟨T.eg_NoMore, T.ek_NoMore, T.eb_NoMore, T.ed_NoMore, T.ea_NoMore, T.e_n, T.e_k, T.em_NoMore⟩
theorem Txt.xf_NoMore {K : PySem.W.Frag} {mg : Str → Option Value} (T : Txt K mg) : XfC K T.C_NoMore := ⟨T.eg_NoMore, T.ek_NoMore, T.eb_NoMore, T.ed_NoMore⟩
theorem Txt.in_NoMore {K : PySem.W.Frag} {mg : Str → Option Value} (T : Txt K mg) : (("NoMore" : Str), T.C_NoMore) ∈ T.exs := by unfold Txt.exs; simp
theorem Txt.isx_NoFigure {K : PySem.W.Frag} {mg : Str → Option Value} (T : Txt K mg) : ∀ n D, (n, D) ∈ T.exs → ExcC K D ∧ PySem.W.kitOne K (.ref D) (.ref T.C_NoFigure) = some (isq "NoFigure" n) := by
  intro n D h
  have h : (n = "NoFigure" ∧ D = T.C_NoFigure) ∨ (n = "NoMore" ∧ D = T.C_NoMore) := by
    unfold Txt.exs at h
    simpa using h
  rcases h with h | h
  · rw [h.1, h.2]; exact ⟨T.ec_NoFigure, (kit_ref T.id_NoFigure T.it_NoFigure T.ss_NoFigure T.ii_NoFigure_NoFigure).trans (by decide +kernel)⟩
  · rw [h.1, h.2]; exact ⟨T.ec_NoMore, (kit_ref T.id_NoFigure T.it_NoFigure T.ss_NoMore T.ii_NoMore_NoFigure).trans (by decide +kernel)⟩
theorem Txt.isx_NoLooks {K : PySem.W.Frag} {mg : Str → Option Value} (T : Txt K mg) : ∀ n D, (n, D) ∈ T.exs → ExcC K D ∧ PySem.W.kitOne K (.ref D) (.ref T.C_NoLooks) = some (isq "NoLooks" n) := by
  intro n D h
  have h : (n = "NoFigure" ∧ D = T.C_NoFigure) ∨ (n = "NoMore" ∧ D = T.C_NoMore) := by
    unfold Txt.exs at h
    simpa using h
  rcases h with h | h
  · rw [h.1, h.2]; exact ⟨T.ec_NoFigure, (kit_ref T.id_NoLooks T.it_NoLooks T.ss_NoFigure T.ii_NoFigure_NoLooks).trans (by decide +kernel)⟩
  · rw [h.1, h.2]; exact ⟨T.ec_NoMore, (kit_ref T.id_NoLooks T.it_NoLooks T.ss_NoMore T.ii_NoMore_NoLooks).trans (by decide +kernel)⟩
theorem Txt.isx_NoRoom {K : PySem.W.Frag} {mg : Str → Option Value} (T : Txt K mg) : ∀ n D, (n, D) ∈ T.exs → ExcC K D ∧ PySem.W.kitOne K (.ref D) (.ref T.C_NoRoom) = some (isq "NoRoom" n) := by
  intro n D h
  have h : (n = "NoFigure" ∧ D = T.C_NoFigure) ∨ (n = "NoMore" ∧ D = T.C_NoMore) := by
    unfold Txt.exs at h
    simpa using h
  rcases h with h | h
  · rw [h.1, h.2]; exact ⟨T.ec_NoFigure, (kit_ref T.id_NoRoom T.it_NoRoom T.ss_NoFigure T.ii_NoFigure_NoRoom).trans (by decide +kernel)⟩
  · rw [h.1, h.2]; exact ⟨T.ec_NoMore, (kit_ref T.id_NoRoom T.it_NoRoom T.ss_NoMore T.ii_NoMore_NoRoom).trans (by decide +kernel)⟩
theorem Txt.isx_NoRow {K : PySem.W.Frag} {mg : Str → Option Value} (T : Txt K mg) : ∀ n D, (n, D) ∈ T.exs → ExcC K D ∧ PySem.W.kitOne K (.ref D) (.ref T.C_NoRow) = some (isq "NoRow" n) := by
  intro n D h
  have h : (n = "NoFigure" ∧ D = T.C_NoFigure) ∨ (n = "NoMore" ∧ D = T.C_NoMore) := by
    unfold Txt.exs at h
    simpa using h
  rcases h with h | h
  · rw [h.1, h.2]; exact ⟨T.ec_NoFigure, (kit_ref T.id_NoRow T.it_NoRow T.ss_NoFigure T.ii_NoFigure_NoRow).trans (by decide +kernel)⟩
  · rw [h.1, h.2]; exact ⟨T.ec_NoMore, (kit_ref T.id_NoRow T.it_NoRow T.ss_NoMore T.ii_NoMore_NoRow).trans (by decide +kernel)⟩
theorem Txt.isx_NoTable {K : PySem.W.Frag} {mg : Str → Option Value} (T : Txt K mg) : ∀ n D, (n, D) ∈ T.exs → ExcC K D ∧ PySem.W.kitOne K (.ref D) (.ref T.C_NoTable) = some (isq "NoTable" n) := by
  intro n D h
  have h : (n = "NoFigure" ∧ D = T.C_NoFigure) ∨ (n = "NoMore" ∧ D = T.C_NoMore) := by
    unfold Txt.exs at h
    simpa using h
  rcases h with h | h
  · rw [h.1, h.2]; exact ⟨T.ec_NoFigure, (kit_ref T.id_NoTable T.it_NoTable T.ss_NoFigure T.ii_NoFigure_NoTable).trans (by decide +kernel)⟩
  · rw [h.1, h.2]; exact ⟨T.ec_NoMore, (kit_ref T.id_NoTable T.it_NoTable T.ss_NoMore T.ii_NoMore_NoTable).trans (by decide +kernel)⟩
theorem Txt.isx_NoText {K : PySem.W.Frag} {mg : Str → Option Value} (T : Txt K mg) : ∀ n D, (n, D) ∈ T.exs → ExcC K D ∧ PySem.W.kitOne K (.ref D) (.ref T.C_NoText) = some (isq "NoText" n) := by
  intro n D h
  have h : (n = "NoFigure" ∧ D = T.C_NoFigure) ∨ (n = "NoMore" ∧ D = T.C_NoMore) := by
    unfold Txt.exs at h
    simpa using h
  rcases h with h | h
  · rw [h.1, h.2]; exact ⟨T.ec_NoFigure, (kit_ref T.id_NoText T.it_NoText T.ss_NoFigure T.ii_NoFigure_NoText).trans (by decide +kernel)⟩
  · rw [h.1, h.2]; exact ⟨T.ec_NoMore, (kit_ref T.id_NoText T.it_NoText T.ss_NoMore T.ii_NoMore_NoText).trans (by decide +kernel)⟩
theorem Txt.isx_Spoilt {K : PySem.W.Frag} {mg : Str → Option Value} (T : Txt K mg) : ∀ n D, (n, D) ∈ T.exs → ExcC K D ∧ PySem.W.kitOne K (.ref D) (.ref T.C_Spoilt) = some (isq "Spoilt" n) := by
  intro n D h
  have h : (n = "NoFigure" ∧ D = T.C_NoFigure) ∨ (n = "NoMore" ∧ D = T.C_NoMore) := by
    unfold Txt.exs at h
    simpa using h
  rcases h with h | h
  · rw [h.1, h.2]; exact ⟨T.ec_NoFigure, (kit_ref T.id_Spoilt T.it_Spoilt T.ss_NoFigure T.ii_NoFigure_Spoilt).trans (by decide +kernel)⟩
  · rw [h.1, h.2]; exact ⟨T.ec_NoMore, (kit_ref T.id_Spoilt T.it_Spoilt T.ss_NoMore T.ii_NoMore_Spoilt).trans (by decide +kernel)⟩
theorem Txt.isx_NoMore {K : PySem.W.Frag} {mg : Str → Option Value} (T : Txt K mg) : ∀ n D, (n, D) ∈ T.exs → ExcC K D ∧ PySem.W.kitOne K (.ref D) (.ref T.C_NoMore) = some (isq "NoMore" n) := by
  intro n D h
  have h : (n = "NoFigure" ∧ D = T.C_NoFigure) ∨ (n = "NoMore" ∧ D = T.C_NoMore) := by
    unfold Txt.exs at h
    simpa using h
  rcases h with h | h
  · rw [h.1, h.2]; exact ⟨T.ec_NoFigure, (kit_ref T.id_NoMore T.it_NoMore T.ss_NoFigure T.ii_NoFigure_NoMore).trans (by decide +kernel)⟩
  · rw [h.1, h.2]; exact ⟨T.ec_NoMore, (kit_ref T.id_NoMore T.it_NoMore T.ss_NoMore T.ii_NoMore_NoMore).trans (by decide +kernel)⟩
theorem Txt.isx_NoWork {K : PySem.W.Frag} {mg : Str → Option Value} (T : Txt K mg) : ∀ n D, (n, D) ∈ T.exs → ExcC K D ∧ PySem.W.kitOne K (.ref D) (.ref T.C_NoWork) = some (isq "NoWork" n) := by
  intro n D h
  have h : (n = "NoFigure" ∧ D = T.C_NoFigure) ∨ (n = "NoMore" ∧ D = T.C_NoMore) := by
    unfold Txt.exs at h
    simpa using h
  rcases h with h | h
  · rw [h.1, h.2]; exact ⟨T.ec_NoFigure, (kit_ref T.id_NoWork T.it_NoWork T.ss_NoFigure T.ii_NoFigure_NoWork).trans (by decide +kernel)⟩
  · rw [h.1, h.2]; exact ⟨T.ec_NoMore, (kit_ref T.id_NoWork T.it_NoWork T.ss_NoMore T.ii_NoMore_NoWork).trans (by decide +kernel)⟩
theorem Txt.isx_NoCell {K : PySem.W.Frag} {mg : Str → Option Value} (T : Txt K mg) : ∀ n D, (n, D) ∈ T.exs → ExcC K D ∧ PySem.W.kitOne K (.ref D) (.ref T.C_NoCell) = some (isq "NoCell" n) := by
  intro n D h
  have h : (n = "NoFigure" ∧ D = T.C_NoFigure) ∨ (n = "NoMore" ∧ D = T.C_NoMore) := by
    unfold Txt.exs at h
    simpa using h
  rcases h with h | h
  · rw [h.1, h.2]; exact ⟨T.ec_NoFigure, (kit_ref T.id_NoCell T.it_NoCell T.ss_NoFigure T.ii_NoFigure_NoCell).trans (by decide +kernel)⟩
  · rw [h.1, h.2]; exact ⟨T.ec_NoMore, (kit_ref T.id_NoCell T.it_NoCell T.ss_NoMore T.ii_NoMore_NoCell).trans (by decide +kernel)⟩
theorem Txt.isx_NoDeed {K : PySem.W.Frag} {mg : Str → Option Value} (T : Txt K mg) : ∀ n D, (n, D) ∈ T.exs → ExcC K D ∧ PySem.W.kitOne K (.ref D) (.ref T.C_NoDeed) = some (isq "NoDeed" n) := by
  intro n D h
  have h : (n = "NoFigure" ∧ D = T.C_NoFigure) ∨ (n = "NoMore" ∧ D = T.C_NoMore) := by
    unfold Txt.exs at h
    simpa using h
  rcases h with h | h
  · rw [h.1, h.2]; exact ⟨T.ec_NoFigure, (kit_ref T.id_NoDeed T.it_NoDeed T.ss_NoFigure T.ii_NoFigure_NoDeed).trans (by decide +kernel)⟩
  · rw [h.1, h.2]; exact ⟨T.ec_NoMore, (kit_ref T.id_NoDeed T.it_NoDeed T.ss_NoMore T.ii_NoMore_NoDeed).trans (by decide +kernel)⟩
theorem Txt.isx_ValueError {K : PySem.W.Frag} {mg : Str → Option Value} (T : Txt K mg) : ∀ n D, (n, D) ∈ T.exs → ExcC K D ∧ PySem.W.kitOne K (.ref D) (.type "ValueError") = some (isa n) := by
  intro n D h
  have h : (n = "NoFigure" ∧ D = T.C_NoFigure) ∨ (n = "NoMore" ∧ D = T.C_NoMore) := by
    unfold Txt.exs at h
    simpa using h
  rcases h with h | h
  · rw [h.1, h.2]; exact ⟨T.ec_NoFigure, (kit_VE T.ii_NoFigure_ValueError).trans (by decide +kernel)⟩
  · rw [h.1, h.2]; exact ⟨T.ec_NoMore, (kit_VE T.ii_NoMore_ValueError).trans (by decide +kernel)⟩
theorem Txt.exm_SlackError {K : PySem.W.Frag} {mg : Str → Option Value} (T : Txt K mg) : ∀ n D is, (n, D) ∈ T.exs → PySem.W.exmOne K (.ref D) (.ref T.C_SlackError) = some (isa (nmX (exD n is))) := by
  intro n D is h
  have h : (n = "NoFigure" ∧ D = T.C_NoFigure) ∨ (n = "NoMore" ∧ D = T.C_NoMore) := by
    unfold Txt.exs at h
    simpa using h
  rcases h with h | h
  · rw [h.1, h.2]; exact (PySem.W.exm_ref T.xb_SlackError T.xd_SlackError T.xt_SlackError T.xu_NoFigure_SlackError).trans (by show _ = some (isa "NoFigure"); decide +kernel)
  · rw [h.1, h.2]; exact (PySem.W.exm_ref T.xb_SlackError T.xd_SlackError T.xt_SlackError T.xu_NoMore_SlackError).trans (by show _ = some (isa "NoMore"); decide +kernel)
section
variable {P : Program} {w : World} {K : PySem.W.Frag} {mg : Str → Option Value} {base : Heap}
set_option maxHeartbeats 0 in
theorem ok_is_whole (T : Txt K mg) : FnOk P w K mg base CX0 1 T.a_is_whole T.fd_is_whole ["thing"] (SpP K 1 (u1 m_is_whole)) := by
  refine T.F_is_whole.ok sc_is_whole (fun vs H Q E h => h.1) (fun cdv A outer s H vs Q E hr h => ?_)
  refine ⟨_, (pss_cons (ps_ret (pe_and (pe_callB call_isi (by rfl) T.z_isinstance (by decide +kernel) (pa_cons (pv 0) (pa_cons (pe_bltn (v := .ty "int") (u := .type "int") (by rfl) T.z_int (by decide +kernel) rfl) pa_nil))) (pe_one (pe_not (pe_callB call_isi (by rfl) T.z_isinstance (by decide +kernel) (pa_cons (pv 0) (pa_cons (pe_bltn (v := .ty "bool") (u := .type "bool") (by rfl) T.z_bool (by decide +kernel) rfl) pa_nil)))))))
      pss_nil), body_P h fun ds O hl => ?_⟩
  have h1 := h.1
  match vs, ds, h1, hl with
  | [v_0], [x_0], _, _ =>
  refine ⟨_, rfl, ?_⟩
  refine sv_st (σ' := [some v_0]) rfl ?_
  exact sv_ret sub0 (ev_and (ev_isi (ev_var rfl (.head _))) (ev_not (ev_isi (ev_var rfl (.head _)))))
set_option maxHeartbeats 0 in
theorem ok_is_figure (T : Txt K mg) : FnOk P w K mg base CX0 2 T.a_is_figure T.fd_is_figure ["kind", "thing"] (SpP K 2 (u2 m_is_figure)) := by
  refine T.F_is_figure.ok sc_is_figure (fun vs H Q E h => h.1) (fun cdv A outer s H vs Q E hr h => ?_)
  refine ⟨_, (pss_cons (ps_set (i := 2) sc_is_figure.nd rfl (Or.inl rfl) (pe_ix ix_seq (pv 0) pe_int (fun _ _ => rfl)))
      (pss_cons (ps_ret (pe_and (pe_call (ok_is_whole T) (hr.mono (by decide)) rfl T.m_is_whole T.F_is_whole.kp T.b_is_whole .nil pass0 (pa_cons (pv 1) pa_nil)) (pe_one (pe_chain op_le op_le (pe_un un_neg (pv 2)) (pv 1) (pv 2)))))
      pss_nil)), body_P h fun ds O hl => ?_⟩
  have h1 := h.1
  match vs, ds, h1, hl with
  | [v_0, v_1], [x_0, x_1], _, _ =>
  refine ⟨_, rfl, ?_⟩
  refine sv_st (σ' := [some v_0, some v_1, none]) rfl ?_
  refine sv_asg sub0 (ev_op os_idx (ev_var rfl (.head _)) ev_int) (σ' := (fun v1 => [some v_0, some v_1, some v1])) (fun _ => rfl) fun v1 x2 => ?_
  exact sv_ret sub0 (ev_and (ev_cP (fun _ => u1_len) (av_cons (ev_var rfl (.tail _ (.tail _ (.head _)))) av_nil)) (ev_chain os_le os_le (ev_un us_neg (ev_var rfl (.head _))) (ev_var rfl (.tail _ (.tail _ (.head _)))) (ev_var rfl (.head _))))
set_option maxHeartbeats 0 in
theorem ok_nearest_figure (T : Txt K mg) : FnOk P w K mg base CX0 1 T.a_nearest_figure T.fd_nearest_figure ["kind", "number", "weight"] (SpP K 3 (u3 m_nearest_figure)) := by
  refine T.F_nearest_figure.ok sc_nearest_figure (fun vs H Q E h => h.1) (fun cdv A outer s H vs Q E hr h => ?_)
  refine ⟨_, (pss_cons (ps_set (i := 3) sc_nearest_figure.nd rfl (Or.inl rfl) (pe_ix ix_seq (pv 0) pe_int (fun _ _ => rfl)))
      (pss_cons (ps_ret (pe_callB (call_maxU rfl) (by rfl) T.z_max (by decide +kernel) (pa_cons (pe_un un_neg (pv 3)) (pa_cons (pe_callB (call_min2 rfl) (by rfl) T.z_min (by decide +kernel) (pa_cons (pv 3) (pa_cons (pe_op op_fdivU (pe_op op_addU (pv 1) (pe_op op_fdivU (pv 2) pe_int)) (pv 2)) pa_nil))) pa_nil))))
      pss_nil)), body_P h fun ds O hl => ?_⟩
  have h1 := h.1
  match vs, ds, h1, hl with
  | [v_0, v_1, v_2], [x_0, x_1, x_2], _, _ =>
  refine ⟨_, rfl, ?_⟩
  refine sv_st (σ' := [some v_0, some v_1, some v_2, none]) rfl ?_
  refine sv_asg sub0 (ev_op os_idx (ev_var rfl (.head _)) ev_int) (σ' := (fun v1 => [some v_0, some v_1, some v_2, some v1])) (fun _ => rfl) fun v1 x2 => ?_
  exact sv_ret sub0 (ev_cb cs_max (av_cons (ev_un us_neg (ev_var rfl (.head _))) (av_cons (ev_cb cs_min (av_cons (ev_var rfl (.head _)) (av_cons (ev_op os_fdiv (ev_op os_add (ev_var rfl (.tail _ (.tail _ (.head _)))) (ev_op os_fdiv (ev_var rfl (.tail _ (.tail _ (.tail _ (.head _))))) ev_int)) (ev_var rfl (.tail _ (.tail _ (.tail _ (.head _)))))) av_nil))) av_nil)))
set_option maxHeartbeats 0 in
theorem ok_Summer_init (T : Txt K mg) : FnOk P w K mg base CX0 1 T.a_Summer_init T.fd_Summer_init ["self", "kind"] (SpIZ K noX T.C_Summer ns_Summer [.fr, .fr, (.ls .fr), .fr, .fr] [false] [] (u1 m_Summer_init)) := by
  refine T.F_Summer_init.ok sc_Summer_init (fun vs H Q E h => h.1) (fun cdv A outer s H vs Q E hr h => ?_)
  refine ⟨_, (pss_cons (ps_fld (pv 0) (pv 1) rfl)
      (pss_cons (ps_fld (pv 0) pe_int rfl)
      (pss_cons (ps_fld (pv 0) (pe_lst pa_nil) rfl)
      (pss_cons (ps_fld (pv 0) pe_int rfl)
      (pss_cons (ps_fld (pv 0) pe_bl rfl)
      pss_nil))))), body_IZ h (fun ts : List D => ((.tuple []) : D)) (fun m : D => m) fun a vs0 us ws ds O hv mx0 hl1 hl2 => ?_⟩
  subst hv
  obtain ⟨v_1, vs_1, us_1, rfl, rfl, mx1⟩ := mx0.fr_inv
  obtain ⟨rfl, rfl, rfl⟩ := mx1.nil_inv
  match ds, hl1 with
  | [x_1], _ =>
  refine ⟨(fun m : D => [rootS K tr_ (.nd (.obj T.C_Summer []) []) (.ref a) m]), (m_Summer_init_b x_1), rfl, (by intro ts ht; match ts, ht with | [], _ => rfl), ?_⟩
  refine sv_cp (Cp' := fun _ => []) rfl ?_
  refine sv_st (σ' := [some (.ref a), some v_1]) rfl ?_
  refine sv_fnewS (C2 := (fun m : D => [rootS K tr_ (.nd (.obj T.C_Summer ["kind"]) [.fr]) (.ref a) m])) (put := (fun (y : D) (_m : D) => y)) (fun _ => (List.nil_sublist _)) (fts_fr (ev_var rfl (.head _))) rfl (fun m => List.perm_middle (l₁ := []) (l₂ := [])) T.c_Summer T.n_Summer_kind (by decide +kernel) (by decide) (fun m d => (List.perm_middle (l₁ := []) (l₂ := [])).symm) ?_
  refine sv_fnewS (C2 := (fun m : D => [rootS K tr_ (.nd (.obj T.C_Summer ["kind", "short"]) [.fr, .fr]) (.ref a) m])) (put := (fun (y : D) (_m : D) => y)) (fun _ => (List.nil_sublist _)) (fts_fr ev_int) rfl (fun m => List.perm_middle (l₁ := []) (l₂ := [])) T.c_Summer T.n_Summer_short (by decide +kernel) (by decide) (fun m d => (List.perm_middle (l₁ := []) (l₂ := [])).symm) ?_
  refine sv_fnewS (C2 := (fun m : D => [rootS K tr_ (.nd (.obj T.C_Summer ["kind", "short", "figures"]) [.fr, .fr, (.ls .fr)]) (.ref a) m])) (put := (fun (y : D) (_m : D) => y)) (fun _ => (List.nil_sublist _)) (fts_weak (fts_fv (fv_lst av_nil)) (fun _ _ => trivial)) rfl (fun m => List.perm_middle (l₁ := []) (l₂ := [])) T.c_Summer T.n_Summer_figures (by decide +kernel) (by decide) (fun m d => (List.perm_middle (l₁ := []) (l₂ := [])).symm) ?_
  refine sv_fnewS (C2 := (fun m : D => [rootS K tr_ (.nd (.obj T.C_Summer ["kind", "short", "figures", "pairs"]) [.fr, .fr, (.ls .fr), .fr]) (.ref a) m])) (put := (fun (y : D) (_m : D) => y)) (fun _ => (List.nil_sublist _)) (fts_fr ev_int) rfl (fun m => List.perm_middle (l₁ := []) (l₂ := [])) T.c_Summer T.n_Summer_pairs (by decide +kernel) (by decide) (fun m d => (List.perm_middle (l₁ := []) (l₂ := [])).symm) ?_
  refine sv_fnewS (C2 := (fun m : D => [rootS K tr_ (.nd (.obj T.C_Summer ["kind", "short", "figures", "pairs", "ended"]) [.fr, .fr, (.ls .fr), .fr, .fr]) (.ref a) m])) (put := (fun (y : D) (_m : D) => y)) (fun _ => (List.nil_sublist _)) (fts_fr ev_bl) rfl (fun m => List.perm_middle (l₁ := []) (l₂ := [])) T.c_Summer T.n_Summer_ended (by decide +kernel) (by decide) (fun m d => (List.perm_middle (l₁ := []) (l₂ := [])).symm) ?_
  exact sv_nil (L2 := []) rfl lnil
set_option maxHeartbeats 0 in
theorem ok_Summer_tell (T : Txt K mg) : FnOk P w K mg base CX0 2 T.a_Summer_tell T.fd_Summer_tell ["self", "weight"] (SpZ K noX [true, false] [(.nd (.obj T.C_Summer ns_Summer) [.fr, .fr, (.ls .fr), .fr, .fr])] [true] .fr (qz (u1 m_Summer_tell))) := by
  refine T.F_Summer_tell.ok sc_Summer_tell (fun vs H Q E h => h.1) (fun cdv A outer s H vs Q E hr h => ?_)
  refine ⟨_, (pss_cons (ps_set (i := 2) sc_Summer_tell.nd rfl (Or.inl rfl) (pe_call (ok_nearest_figure T) (hr.mono (by decide)) rfl T.m_nearest_figure T.F_nearest_figure.kp T.b_nearest_figure .nil pass0 (pa_cons (pe_fld (pv 0) rfl) (pa_cons (pe_fld (pv 0) rfl) (pa_cons (pv 1) pa_nil)))))
      (pss_cons (ps_fldaug (pv 0) (pe_op op_mulU (pv 2) (pv 1)) ip_sub)
      (pss_cons (ps_expr (pe_bm PySem.F.plainAttrs_list PySem.F.slot_list_append PySem.F.type_list_append mt_append (pe_fld (pv 0) rfl) (pa_cons (pv 2) pa_nil)))
      (pss_cons (ps_ret (pv 2))
      pss_nil)))), body_Zq h (fun ts : List D => ((ts.getD 0 .none) : D)) (fun m : D => [m]) (fun _ => rfl) fun us ws ds O mx0 hl1 hl2 => ?_⟩
  obtain ⟨v_0, vs_0, ws_0, rfl, rfl, mx1⟩ := mx0.tr_inv
  obtain ⟨v_1, vs_1, us_1, rfl, rfl, mx2⟩ := mx1.fr_inv
  obtain ⟨rfl, rfl, rfl⟩ := mx2.nil_inv
  match ds, hl1 with
  | [x_1], _ =>
  refine ⟨(fun m : D => [rootS K tr_ (.nd (.obj T.C_Summer ns_Summer) [.fr, .fr, (.ls .fr), .fr, .fr]) v_0 m]), _, rfl, (by intro ts ht; match ts, ht with | [t_0], _ => rfl), ?_⟩
  refine sv_cp (Cp' := (fun m : D => [rootS K tr_ (.nd (.obj T.C_Summer ns_Summer) [.fr, .fr, (.ls .fr), .fr, .fr]) v_0 m])) rfl ?_
  refine sv_st (σ' := [some v_0, some v_1, none]) rfl ?_
  refine sv_asg (fun _ => (List.Sublist.cons₂ _ (List.nil_sublist _))) (ev_cP (fun _ => u3_len) (av_cons (ev_plfr (fun m => List.perm_middle (l₁ := []) (l₂ := [])) (pls_fld (i := 0) (pls_var rfl (fun m => List.perm_middle (l₁ := []) (l₂ := []))) T.c_Summer T.n_Summer_kind nd_Summer rfl rfl)) (av_cons (ev_plfr (fun m => List.perm_middle (l₁ := []) (l₂ := [])) (pls_fld (i := 1) (pls_var rfl (fun m => List.perm_middle (l₁ := []) (l₂ := []))) T.c_Summer T.n_Summer_short nd_Summer rfl rfl)) (av_cons (ev_var rfl (.head _)) av_nil)))) (σ' := (fun v1 => [some v_0, some v_1, some v1])) (fun _ => rfl) fun v1 x2 => ?_
  refine sv_faugS (i := 1) (C2 := (fun m : D => [rootS K tr_ (.nd (.obj T.C_Summer ns_Summer) [.fr, .fr, (.ls .fr), .fr, .fr]) v_0 m])) (put := (fun (y : D) (_m : D) => y)) (fun _ => (List.Sublist.cons₂ _ (List.nil_sublist _))) rfl (fun m => List.perm_middle (l₁ := []) (l₂ := [])) (fun m d => (List.perm_middle (l₁ := []) (l₂ := [])).symm) os_ips T.c_Summer T.n_Summer_short nd_Summer rfl (by decide) rfl (ev_op os_mul (ev_var rfl (.head _)) (ev_var rfl (.tail _ (.head _)))) ?_
  refine sv_appS (C2 := (fun m : D => [rootS K tr_ (.nd (.obj T.C_Summer ns_Summer) [.fr, .fr, (.ls .fr), .fr, .fr]) v_0 m])) (put := (fun (y : D) (_m : D) => y)) (pls_fld (i := 2) (pls_var rfl (fun m => List.perm_middle (l₁ := []) (l₂ := []))) T.c_Summer T.n_Summer_figures nd_Summer rfl rfl) (fts_fr (ev_var rfl (.head _))) (SM.pr_keep _) (fun m d => (List.perm_middle (l₁ := []) (l₂ := [])).symm) ?_
  exact sv_retS (fun _ => (List.Sublist.cons₂ _ (List.nil_sublist _))) (fts_fr (ev_var rfl (.head _)))
set_option maxHeartbeats 0 in
theorem ok_Summer_refuse_behind_end (T : Txt K mg) : FnOk P w K mg base (L2N.CX P w) 1 T.a_Summer_refuse_behind_end T.fd_Summer_refuse_behind_end ["self"] (SpZ K (rootX T.exs) [true] [(.nd (.obj T.C_Summer ns_Summer) [.fr, .fr, (.ls .fr), .fr, .fr])] [true] .fr (u0 m_Summer_refuse_behind_end)) := by
  refine okN T.F_Summer_refuse_behind_end sc_Summer_refuse_behind_end (fun vs H Q E h => h.1) (fun cdv A outer s H vs Q E hr h => ?_)
  refine ⟨_, (pss_cons (ps_if (pt_truth (pe_fld (pv 0) rfl) (by intro _; rfl)) (pss_cons (L2N.ps_raise rfl (L2N.takes_of rfl rfl rfl rfl) (L2N.pmk_own PySem.F.excBase_ValueError T.xq_NoMore T.g_NoMore T.kc_NoMore (raises_own T.eb_NoMore T.et_NoMore) rfl))
      pss_nil) pss_nil)
      pss_nil), body_Z h (fun ts : List D => ((ts.getD 0 .none) : D)) (fun m : D => [m]) (fun _ => rfl) fun us ws ds O mx0 hl1 hl2 => ?_⟩
  obtain ⟨v_0, vs_0, ws_0, rfl, rfl, mx1⟩ := mx0.tr_inv
  obtain ⟨rfl, rfl, rfl⟩ := mx1.nil_inv
  match ds, hl1 with
  | [], _ =>
  refine ⟨(fun m : D => [rootS K tr_ (.nd (.obj T.C_Summer ns_Summer) [.fr, .fr, (.ls .fr), .fr, .fr]) v_0 m]), _, rfl, (by intro ts ht; match ts, ht with | [t_0], _ => rfl), ?_⟩
  refine sv_cp (Cp' := (fun m : D => [rootS K tr_ (.nd (.obj T.C_Summer ns_Summer) [.fr, .fr, (.ls .fr), .fr, .fr]) v_0 m])) rfl ?_
  refine sv_st (σ' := [some v_0]) rfl ?_
  refine sv_if (fun _ => (List.Sublist.cons₂ _ (List.nil_sublist _))) (tv_tr (ev_plfr (fun m => List.perm_middle (l₁ := []) (l₂ := [])) (pls_fld (i := 4) (pls_var rfl (fun m => List.perm_middle (l₁ := []) (l₂ := []))) T.c_Summer T.n_Summer_ended nd_Summer rfl rfl))) ?_ ?_
  · refine sv_assoc ?_
    exact sv_raise0 (n := "NoMore") (fun _ => (List.Sublist.cons₂ _ (List.nil_sublist _))) rfl T.in_NoMore (by decide +kernel)
  · refine sv_skip ?_
    exact sv_nil (L2 := []) ⟨rfl, rfl⟩ lnil
set_option maxHeartbeats 0 in
theorem ok_Summer_put (T : Txt K mg) : FnOk P w K mg base (L2N.CX P w) 3 T.a_Summer_put T.fd_Summer_put ["self", "one", "other"] (SpZ K (rootX T.exs) [true, false, false] [(.nd (.obj T.C_Summer ns_Summer) [.fr, .fr, (.ls .fr), .fr, .fr])] [true] (.ls .fr) (u2 m_Summer_put)) := by
  refine okN T.F_Summer_put sc_Summer_put (fun vs H Q E h => h.1) (fun cdv A outer s H vs Q E hr h => ?_)
  refine ⟨_, (pss_cons (ps_expr (pe_meth0 (pv 0) T.c_Summer T.h_Summer_refuse_behind_end (ok_Summer_refuse_behind_end T) (hr.mono (by decide)) T.b_Summer_refuse_behind_end .nil (L2N.passes_call (L2N.takes_of rfl rfl rfl rfl) fun _ _ _ _ h => h)))
      (pss_cons (ps_if (PW.pt (pw_or (pt_not (pt_truth (pe_call (ok_is_figure T) (hr.mono (by decide)) rfl T.m_is_figure T.F_is_figure.kp T.b_is_figure .nil pass0 (pa_cons (pe_fld (pv 0) rfl) (pa_cons (pv 1) pa_nil))) (by intro _; rfl))) (pw_or1 (pt_not (pt_truth (pe_call (ok_is_figure T) (hr.mono (by decide)) rfl T.m_is_figure T.F_is_figure.kp T.b_is_figure .nil pass0 (pa_cons (pe_fld (pv 0) rfl) (pa_cons (pv 2) pa_nil))) (by intro _; rfl)))))) (pss_cons (L2N.ps_raise rfl (L2N.takes_of rfl rfl rfl rfl) (L2N.pmk_own PySem.F.excBase_ValueError T.xq_NoFigure T.g_NoFigure T.kc_NoFigure (raises_own T.eb_NoFigure T.et_NoFigure) rfl))
      pss_nil) pss_nil)
      (pss_cons (ps_set (i := 3) sc_Summer_put.nd rfl (Or.inl rfl) (pe_ix ix_seq (pe_fld (pv 0) rfl) pe_int (fun _ _ => rfl)))
      (pss_cons (ps_fld (pv 0) (pe_op op_addU (pe_op op_addU (pe_op op_mulU (pe_fld (pv 0) rfl) (pv 3)) (pv 1)) (pv 2)) rfl)
      (pss_cons (ps_fldaug (pv 0) pe_int ip_add)
      (pss_cons (ps_ret (pe_ifExp (pt_cmpR (op_eqD hr.units) (pe_fld (pv 0) rfl) pe_int (nomark _)) (pe_lst pa_nil) (pe_lst (pa_cons (pe_meth (pv 0) T.c_Summer T.h_Summer_tell (ok_Summer_tell T) (hr.mono (by decide)) T.b_Summer_tell .nil pass0 (pa_cons (pe_op op_mulU (pv 3) (pv 3)) pa_nil)) pa_nil))))
      pss_nil)))))), body_Z h (fun ts : List D => ((ts.getD 0 .none) : D)) (fun m : D => [m]) (fun _ => rfl) fun us ws ds O mx0 hl1 hl2 => ?_⟩
  obtain ⟨v_0, vs_0, ws_0, rfl, rfl, mx1⟩ := mx0.tr_inv
  obtain ⟨v_1, vs_1, us_1, rfl, rfl, mx2⟩ := mx1.fr_inv
  obtain ⟨v_2, vs_2, us_2, rfl, rfl, mx3⟩ := mx2.fr_inv
  obtain ⟨rfl, rfl, rfl⟩ := mx3.nil_inv
  match ds, hl1 with
  | [x_1, x_2], _ =>
  refine ⟨(fun m : D => [rootS K tr_ (.nd (.obj T.C_Summer ns_Summer) [.fr, .fr, (.ls .fr), .fr, .fr]) v_0 m]), _, rfl, (by intro ts ht; match ts, ht with | [t_0], _ => rfl), ?_⟩
  refine sv_cp (Cp' := (fun m : D => [rootS K tr_ (.nd (.obj T.C_Summer ns_Summer) [.fr, .fr, (.ls .fr), .fr, .fr]) v_0 m])) rfl ?_
  refine sv_st (σ' := [some v_0, some v_1, some v_2, none]) rfl ?_
  refine sv_exprS (fun _ => (List.Sublist.cons₂ _ (List.nil_sublist _))) (fts_meth (fts_cZ (fun _ _ => trivial) (as_rvar (get := (fun m : D => m)) (put := (fun (y : D) (_m : D) => y)) (m0 := "refuse_behind_end") rfl rfl nm_Summer_refuse_behind_end (fun m => List.perm_middle (l₁ := []) (l₂ := [])) as_nil (fun m => List.perm_middle (l₁ := []) (l₂ := [])) (fun m y => (List.perm_middle (l₁ := []) (l₂ := [])).symm)))) ?_
  refine sv_if (fun _ => (List.Sublist.cons₂ _ (List.nil_sublist _))) (tv_or (tv_not (tv_tr (ev_cP (fun _ => u2_len) (av_cons (ev_plfr (fun m => List.perm_middle (l₁ := []) (l₂ := [])) (pls_fld (i := 0) (pls_var rfl (fun m => List.perm_middle (l₁ := []) (l₂ := []))) T.c_Summer T.n_Summer_kind nd_Summer rfl rfl)) (av_cons (ev_var rfl (.head _)) av_nil))))) (tv_not (tv_tr (ev_cP (fun _ => u2_len) (av_cons (ev_plfr (fun m => List.perm_middle (l₁ := []) (l₂ := [])) (pls_fld (i := 0) (pls_var rfl (fun m => List.perm_middle (l₁ := []) (l₂ := []))) T.c_Summer T.n_Summer_kind nd_Summer rfl rfl)) (av_cons (ev_var rfl (.tail _ (.head _))) av_nil)))))) ?_ ?_
  · refine sv_assoc ?_
    exact sv_raise0 (n := "NoFigure") (fun _ => (List.Sublist.cons₂ _ (List.nil_sublist _))) rfl T.in_NoFigure (by decide +kernel)
  · refine sv_skip ?_
    refine sv_asg (fun _ => (List.Sublist.cons₂ _ (List.nil_sublist _))) (ev_op os_idx (ev_plfr (fun m => List.perm_middle (l₁ := []) (l₂ := [])) (pls_fld (i := 0) (pls_var rfl (fun m => List.perm_middle (l₁ := []) (l₂ := []))) T.c_Summer T.n_Summer_kind nd_Summer rfl rfl)) ev_int) (σ' := (fun v1 => [some v_0, some v_1, some v_2, some v1])) (fun _ => rfl) fun v1 x2 => ?_
    refine sv_fsetS (i := 1) (C2 := (fun m : D => [rootS K tr_ (.nd (.obj T.C_Summer ns_Summer) [.fr, .fr, (.ls .fr), .fr, .fr]) v_0 m])) (put := (fun (y : D) (_m : D) => y)) (fun _ => (List.Sublist.cons₂ _ (List.nil_sublist _))) (fts_fr (ev_op os_add (ev_op os_add (ev_op os_mul (ev_plfr (fun m => List.perm_middle (l₁ := []) (l₂ := [])) (pls_fld (i := 1) (pls_var rfl (fun m => List.perm_middle (l₁ := []) (l₂ := []))) T.c_Summer T.n_Summer_short nd_Summer rfl rfl)) (ev_var rfl (.head _))) (ev_var rfl (.tail _ (.head _)))) (ev_var rfl (.tail _ (.tail _ (.head _)))))) (pls_var rfl (fun m => List.perm_middle (l₁ := []) (l₂ := []))) T.c_Summer T.n_Summer_short nd_Summer rfl (by decide) rfl (fun m d => (List.perm_middle (l₁ := []) (l₂ := [])).symm) ?_
    refine sv_faugS (i := 3) (C2 := (fun m : D => [rootS K tr_ (.nd (.obj T.C_Summer ns_Summer) [.fr, .fr, (.ls .fr), .fr, .fr]) v_0 m])) (put := (fun (y : D) (_m : D) => y)) (fun _ => (List.Sublist.cons₂ _ (List.nil_sublist _))) rfl (fun m => List.perm_middle (l₁ := []) (l₂ := [])) (fun m d => (List.perm_middle (l₁ := []) (l₂ := [])).symm) os_ipa T.c_Summer T.n_Summer_pairs nd_Summer rfl (by decide) rfl ev_int ?_
    exact sv_retS (fun _ => (List.Sublist.cons₂ _ (List.nil_sublist _))) (fts_if (fun _ => List.Sublist.refl _) (tv_test (ev_op os_eq (ev_plfr (fun m => List.perm_middle (l₁ := []) (l₂ := [])) (pls_fld (i := 3) (pls_var rfl (fun m => List.perm_middle (l₁ := []) (l₂ := []))) T.c_Summer T.n_Summer_pairs nd_Summer rfl rfl)) ev_int)) (fts_fv (fv_lst av_nil)) (fts_fv (fv_lst (av_cons (ev_fts rfl (fts_meth (fts_cZq (fun _ _ => trivial) (as_rvar (get := (fun m : D => m)) (put := (fun (y : D) (_m : D) => y)) (m0 := "tell") rfl rfl nm_Summer_tell (fun m => List.perm_middle (l₁ := []) (l₂ := [])) (as_fr (fun _ => List.Sublist.refl _) (ev_op os_mul (ev_var rfl (.head _)) (ev_var rfl (.head _))) as_nil) (fun m => List.perm_middle (l₁ := []) (l₂ := [])) (fun m y => (List.perm_middle (l₁ := []) (l₂ := [])).symm))))) av_nil))))
set_option maxHeartbeats 0 in
theorem ok_Summer_end (T : Txt K mg) : FnOk P w K mg base (L2N.CX P w) 3 T.a_Summer_end T.fd_Summer_end ["self"] (SpZ K (rootX T.exs) [true] [(.nd (.obj T.C_Summer ns_Summer) [.fr, .fr, (.ls .fr), .fr, .fr])] [true] (.ls .fr) (u0 m_Summer_end)) := by
  refine okN T.F_Summer_end sc_Summer_end (fun vs H Q E h => h.1) (fun cdv A outer s H vs Q E hr h => ?_)
  refine ⟨_, (pss_cons (ps_expr (pe_meth0 (pv 0) T.c_Summer T.h_Summer_refuse_behind_end (ok_Summer_refuse_behind_end T) (hr.mono (by decide)) T.b_Summer_refuse_behind_end .nil (L2N.passes_call (L2N.takes_of rfl rfl rfl rfl) fun _ _ _ _ h => h)))
      (pss_cons (ps_fld (pv 0) pe_bl rfl)
      (pss_cons (ps_if (pt_cmpR (op_eqD hr.units) (pe_fld (pv 0) rfl) pe_int (nomark _)) (pss_cons (ps_ret (pe_lst (pa_cons (pe_meth (pv 0) T.c_Summer T.h_Summer_tell (ok_Summer_tell T) (hr.mono (by decide)) T.b_Summer_tell .nil pass0 (pa_cons pe_int pa_nil)) pa_nil)))
      pss_nil) pss_nil)
      (pss_cons (ps_ret (pe_lst (pa_cons (pe_meth (pv 0) T.c_Summer T.h_Summer_tell (ok_Summer_tell T) (hr.mono (by decide)) T.b_Summer_tell .nil pass0 (pa_cons (pe_ix ix_seq (pe_fld (pv 0) rfl) pe_int (fun _ _ => rfl)) pa_nil)) (pa_cons (pe_meth (pv 0) T.c_Summer T.h_Summer_tell (ok_Summer_tell T) (hr.mono (by decide)) T.b_Summer_tell .nil pass0 (pa_cons pe_int pa_nil)) pa_nil))))
      pss_nil)))), body_Z h (fun ts : List D => ((ts.getD 0 .none) : D)) (fun m : D => [m]) (fun _ => rfl) fun us ws ds O mx0 hl1 hl2 => ?_⟩
  obtain ⟨v_0, vs_0, ws_0, rfl, rfl, mx1⟩ := mx0.tr_inv
  obtain ⟨rfl, rfl, rfl⟩ := mx1.nil_inv
  match ds, hl1 with
  | [], _ =>
  refine ⟨(fun m : D => [rootS K tr_ (.nd (.obj T.C_Summer ns_Summer) [.fr, .fr, (.ls .fr), .fr, .fr]) v_0 m]), _, rfl, (by intro ts ht; match ts, ht with | [t_0], _ => rfl), ?_⟩
  refine sv_cp (Cp' := (fun m : D => [rootS K tr_ (.nd (.obj T.C_Summer ns_Summer) [.fr, .fr, (.ls .fr), .fr, .fr]) v_0 m])) rfl ?_
  refine sv_st (σ' := [some v_0]) rfl ?_
  refine sv_exprS (fun _ => (List.Sublist.cons₂ _ (List.nil_sublist _))) (fts_meth (fts_cZ (fun _ _ => trivial) (as_rvar (get := (fun m : D => m)) (put := (fun (y : D) (_m : D) => y)) (m0 := "refuse_behind_end") rfl rfl nm_Summer_refuse_behind_end (fun m => List.perm_middle (l₁ := []) (l₂ := [])) as_nil (fun m => List.perm_middle (l₁ := []) (l₂ := [])) (fun m y => (List.perm_middle (l₁ := []) (l₂ := [])).symm)))) ?_
  refine sv_fsetS (i := 4) (C2 := (fun m : D => [rootS K tr_ (.nd (.obj T.C_Summer ns_Summer) [.fr, .fr, (.ls .fr), .fr, .fr]) v_0 m])) (put := (fun (y : D) (_m : D) => y)) (fun _ => (List.Sublist.cons₂ _ (List.nil_sublist _))) (fts_fr ev_bl) (pls_var rfl (fun m => List.perm_middle (l₁ := []) (l₂ := []))) T.c_Summer T.n_Summer_ended nd_Summer rfl (by decide) rfl (fun m d => (List.perm_middle (l₁ := []) (l₂ := [])).symm) ?_
  refine sv_if (fun _ => (List.Sublist.cons₂ _ (List.nil_sublist _))) (tv_test (ev_op os_eq (ev_plfr (fun m => List.perm_middle (l₁ := []) (l₂ := [])) (pls_fld (i := 3) (pls_var rfl (fun m => List.perm_middle (l₁ := []) (l₂ := []))) T.c_Summer T.n_Summer_pairs nd_Summer rfl rfl)) ev_int)) ?_ ?_
  · refine sv_assoc ?_
    exact sv_retS (fun _ => (List.Sublist.cons₂ _ (List.nil_sublist _))) (fts_fv (fv_lst (av_cons (ev_fts rfl (fts_meth (fts_cZq (fun _ _ => trivial) (as_rvar (get := (fun m : D => m)) (put := (fun (y : D) (_m : D) => y)) (m0 := "tell") rfl rfl nm_Summer_tell (fun m => List.perm_middle (l₁ := []) (l₂ := [])) (as_fr (fun _ => List.Sublist.refl _) ev_int as_nil) (fun m => List.perm_middle (l₁ := []) (l₂ := [])) (fun m y => (List.perm_middle (l₁ := []) (l₂ := [])).symm))))) av_nil)))
  · refine sv_skip ?_
    exact sv_retS (fun _ => (List.Sublist.cons₂ _ (List.nil_sublist _))) (fts_fv (fv_lst (av_cons (ev_fts rfl (fts_meth (fts_cZq (fun _ _ => trivial) (as_rvar (get := (fun m : D => m)) (put := (fun (y : D) (_m : D) => y)) (m0 := "tell") rfl rfl nm_Summer_tell (fun m => List.perm_middle (l₁ := []) (l₂ := [])) (as_fr (fun _ => List.Sublist.refl _) (ev_op os_idx (ev_plfr (fun m => List.perm_middle (l₁ := []) (l₂ := [])) (pls_fld (i := 0) (pls_var rfl (fun m => List.perm_middle (l₁ := []) (l₂ := []))) T.c_Summer T.n_Summer_kind nd_Summer rfl rfl)) ev_int) as_nil) (fun m => List.perm_middle (l₁ := []) (l₂ := [])) (fun m y => (List.perm_middle (l₁ := []) (l₂ := [])).symm))))) (av_cons (ev_fts rfl (fts_meth (fts_cZq (fun _ _ => trivial) (as_rvar (get := (fun m : D => m)) (put := (fun (y : D) (_m : D) => y)) (m0 := "tell") rfl rfl nm_Summer_tell (fun m => List.perm_middle (l₁ := []) (l₂ := [])) (as_fr (fun _ => List.Sublist.refl _) ev_int as_nil) (fun m => List.perm_middle (l₁ := []) (l₂ := [])) (fun m y => (List.perm_middle (l₁ := []) (l₂ := [])).symm))))) av_nil))))
set_option maxHeartbeats 0 in
theorem ok_Summer_told (T : Txt K mg) : FnOk P w K mg base CX0 1 T.a_Summer_told T.fd_Summer_told ["self"] (SpZ K noX [true] [(.nd (.obj T.C_Summer ns_Summer) [.fr, .fr, (.ls .fr), .fr, .fr])] [true] (.ls .fr) (qz (u0 m_Summer_told))) := by
  refine T.F_Summer_told.ok sc_Summer_told (fun vs H Q E h => h.1) (fun cdv A outer s H vs Q E hr h => ?_)
  refine ⟨_, (pss_cons (ps_ret (pe_callTy call_list_of (by rfl) T.z_list (by decide +kernel) (pa_cons (pe_fld (pv 0) rfl) pa_nil)))
      pss_nil), body_Zq h (fun ts : List D => ((ts.getD 0 .none) : D)) (fun m : D => [m]) (fun _ => rfl) fun us ws ds O mx0 hl1 hl2 => ?_⟩
  obtain ⟨v_0, vs_0, ws_0, rfl, rfl, mx1⟩ := mx0.tr_inv
  obtain ⟨rfl, rfl, rfl⟩ := mx1.nil_inv
  match ds, hl1 with
  | [], _ =>
  refine ⟨(fun m : D => [rootS K tr_ (.nd (.obj T.C_Summer ns_Summer) [.fr, .fr, (.ls .fr), .fr, .fr]) v_0 m]), _, rfl, (by intro ts ht; match ts, ht with | [t_0], _ => rfl), ?_⟩
  refine sv_cp (Cp' := (fun m : D => [rootS K tr_ (.nd (.obj T.C_Summer ns_Summer) [.fr, .fr, (.ls .fr), .fr, .fr]) v_0 m])) rfl ?_
  refine sv_st (σ' := [some v_0]) rfl ?_
  exact sv_retS (fun _ => (List.Sublist.cons₂ _ (List.nil_sublist _))) (fts_listpl (fun m => List.perm_middle (l₁ := []) (l₂ := [])) (pls_fld (i := 2) (pls_var rfl (fun m => List.perm_middle (l₁ := []) (l₂ := []))) T.c_Summer T.n_Summer_figures nd_Summer rfl rfl))
set_option maxHeartbeats 0 in
theorem ok__law_deck (T : Txt K mg) : FnOk P w K mg base CX0 1 T.a__law_deck T.fd__law_deck ["cell", "turn"] (SpN K 2 (u2 m__law_deck)) := by
  refine T.F__law_deck.ok sc__law_deck (fun vs H Q E h => h.1) (fun cdv A outer s H vs Q E hr h => ?_)
  refine ⟨_, (pss_cons (ps_if (pt_cmpR op_ge (pv 0) (pe_op op_pow pe_int pe_int) (nomark _)) (pss_cons (ps_ret (pe_lst (pa_cons (pe_op op_sub (pv 0) (pe_op op_pow pe_int pe_int)) (pa_cons (pe_op op_mod (pv 0) pe_int) (pa_cons (pv 1) pa_nil)))))
      pss_nil) pss_nil)
      (pss_cons (ps_ret (pe_lst (pa_cons pe_int (pa_cons (pe_op op_mod (pv 0) pe_int) (pa_cons (pv 1) pa_nil)))))
      pss_nil)), body_N h fun ds O hl => ?_⟩
  have h1 := h.1
  match vs, ds, h1, hl with
  | [v_0, v_1], [x_0, x_1], _, _ =>
  refine ⟨_, rfl, ?_⟩
  refine nv_st (σ' := [some v_0, some v_1]) rfl ?_
  refine nv_if (tv_test (ev_op os_ge (ev_var rfl (.head _)) (ev_op os_pow ev_int ev_int))) ?_ ?_
  · refine nv_assoc ?_
    exact nv_ret (av_cons (ev_op os_sub (ev_var rfl (.head _)) (ev_op os_pow ev_int ev_int)) (av_cons (ev_op os_mod (ev_var rfl (.head _)) ev_int) (av_cons (ev_var rfl (.tail _ (.head _))) av_nil)))
  · refine nv_skip ?_
    exact nv_ret (av_cons ev_int (av_cons (ev_op os_mod (ev_var rfl (.head _)) ev_int) (av_cons (ev_var rfl (.tail _ (.head _))) av_nil)))
set_option maxHeartbeats 0 in
theorem ok__law_pick (T : Txt K mg) : FnOk P w K mg base CX0 1 T.a__law_pick T.fd__law_pick ["deck", "many"] (SpD K 1 (u1 m__law_pick)) := by
  refine T.F__law_pick.ok sc__law_pick (fun vs H Q E h => h.1) (fun cdv A outer s H vs Q E hr h => ?_)
  refine ⟨_, (pss_cons (ps_if (pt_cmpR op_gt (pe_ix ix_seq (pv 0) pe_int (fun _ _ => rfl)) pe_int (nomark _)) (pss_cons (ps_set (i := 2) sc__law_pick.nd rfl (Or.inl rfl) (pe_op op_mod (pe_ix ix_seq (pv 0) pe_int (fun _ _ => rfl)) (pv 1)))
      (pss_cons (ps_asg (pe_op op_fdivU (pe_ix ix_seq (pv 0) pe_int (fun _ _ => rfl)) (pv 1)) (pg_sub (pv 0) pe_int set_list))
      (pss_cons (ps_ret (pv 2))
      pss_nil))) pss_nil)
      (pss_cons (ps_asg (pe_op op_addU (pe_ix ix_seq (pv 0) pe_int (fun _ _ => rfl)) pe_int) (pg_sub (pv 0) pe_int set_list))
      (pss_cons (ps_set (i := 3) sc__law_pick.nd rfl (Or.inl rfl) (pe_op op_mod (pe_op op_pow (pe_op op_addU (pe_ix ix_seq (pv 0) pe_int (fun _ _ => rfl)) (pe_op op_mulU pe_int (pe_ix ix_seq (pv 0) pe_int (fun _ _ => rfl)))) pe_int) pe_int))
      (pss_cons (ps_set (i := 2) sc__law_pick.nd rfl (Or.inl rfl) (pe_op op_fdivU (pe_op op_mod (pe_op op_pow (pe_op op_addU (pv 3) (pe_op op_mulU pe_int (pe_ix ix_seq (pv 0) pe_int (fun _ _ => rfl)))) pe_int) pe_int) pe_int))
      (pss_cons (ps_if (pt_cmpR op_gt (pv 1) pe_int (nomark _)) (pss_cons (ps_ret (pe_op op_mod (pe_op op_addU (pe_op op_mulU (pv 2) pe_int) (pv 3)) (pv 1)))
      pss_nil) pss_nil)
      (pss_cons (ps_ret (pe_op op_mod (pv 2) (pv 1)))
      pss_nil)))))), body_D h fun a us ds O hv hl => ?_⟩
  have h1 := h.1
  subst hv
  match us, ds, h1, hl with
  | [v_1], [x_1], _, _ =>
  refine ⟨_, rfl, ?_⟩
  refine sv_st (σ' := [some (.ref a), some v_1, none, none]) rfl ?_
  refine sv_if sub1 (tv_test (ev_op os_gt (ev_sidx rfl ev_int) ev_int)) ?_ ?_
  · refine sv_assoc ?_
    refine sv_asg sub1 (ev_op os_mod (ev_sidx rfl ev_int) (ev_var rfl (.head _))) (σ' := (fun v1 => [some (.ref a), some v_1, some v1, none])) (fun _ => rfl) fun v1 x2 => ?_
    refine sv_assoc ?_
    refine sv_sset sub1 rfl (ev_op os_fdiv (ev_sidx rfl ev_int) (ev_var rfl (.tail _ (.head _)))) ev_int ?_
    refine sv_assoc ?_
    exact sv_ret sub1 (ev_var rfl (.head _))
  · refine sv_skip ?_
    refine sv_sset sub1 rfl (ev_op os_add (ev_sidx rfl ev_int) ev_int) ev_int ?_
    refine sv_asg sub1 (ev_op os_mod (ev_op os_pow (ev_op os_add (ev_sidx rfl ev_int) (ev_op os_mul ev_int (ev_sidx rfl ev_int))) ev_int) ev_int) (σ' := (fun v3 => [some (.ref a), some v_1, none, some v3])) (fun _ => rfl) fun v3 x6 => ?_
    refine sv_asg sub1 (ev_op os_fdiv (ev_op os_mod (ev_op os_pow (ev_op os_add (ev_var rfl (.head _)) (ev_op os_mul ev_int (ev_sidx rfl ev_int))) ev_int) ev_int) ev_int) (σ' := (fun v4 => [some (.ref a), some v_1, some v4, some v3])) (fun _ => rfl) fun v4 x5 => ?_
    refine sv_if sub1 (tv_test (ev_op os_gt (ev_var rfl (.tail _ (.tail _ (.head _)))) ev_int)) ?_ ?_
    · refine sv_assoc ?_
      exact sv_ret sub1 (ev_op os_mod (ev_op os_add (ev_op os_mul (ev_var rfl (.head _)) ev_int) (ev_var rfl (.tail _ (.head _)))) (ev_var rfl (.tail _ (.tail _ (.head _)))))
    · refine sv_skip ?_
      exact sv_ret sub1 (ev_op os_mod (ev_var rfl (.head _)) (ev_var rfl (.tail _ (.tail _ (.head _)))))
set_option maxHeartbeats 0 in
theorem ok__law_kind (T : Txt K mg) : FnOk P w K mg base CX0 2 T.a__law_kind T.fd__law_kind ["deck"] (SpD K 0 (u0 m__law_kind)) := by
  refine T.F__law_kind.ok sc__law_kind (fun vs H Q E h => h.1) (fun cdv A outer s H vs Q E hr h => ?_)
  refine ⟨_, (pss_cons (ps_set (i := 1) sc__law_kind.nd rfl (Or.inl rfl) (pe_ix ix_seq (pe_lst (pa_cons pe_int (pa_cons pe_int (pa_cons pe_int (pa_cons pe_int (pa_cons pe_int pa_nil)))))) (pe_call (ok__law_pick T) (hr.mono (by decide)) rfl T.m__law_pick T.F__law_pick.kp T.b__law_pick .nil pass0 (pa_cons (pv 0) (pa_cons pe_int pa_nil))) (fun _ _ => rfl)))
      (pss_cons (ps_ret (pe_tup (pa_cons (pv 1) (pa_cons (pe_op op_addU (pe_op op_fdivU (pv 1) pe_int) (pe_call (ok__law_pick T) (hr.mono (by decide)) rfl T.m__law_pick T.F__law_pick.kp T.b__law_pick .nil pass0 (pa_cons (pv 0) (pa_cons (pe_op op_sub (pv 1) (pe_op op_fdivU (pv 1) pe_int)) pa_nil)))) pa_nil))))
      pss_nil)), body_D h fun a us ds O hv hl => ?_⟩
  have h1 := h.1
  subst hv
  match us, ds, h1, hl with
  | [], [], _, _ =>
  refine ⟨_, rfl, ?_⟩
  refine sv_st (σ' := [some (.ref a), none]) rfl ?_
  refine sv_asg sub1 (ev_op os_idx (ev_lst (av_cons ev_int (av_cons ev_int (av_cons ev_int (av_cons ev_int (av_cons ev_int av_nil)))))) (ev_cD rfl (fun _ _ => u1_len) (av_cons ev_int av_nil))) (σ' := (fun v1 => [some (.ref a), some v1])) (fun _ => rfl) fun v1 x2 => ?_
  exact sv_ret sub1 (ev_tup (av_cons (ev_var rfl (.head _)) (av_cons (ev_op os_add (ev_op os_fdiv (ev_var rfl (.head _)) ev_int) (ev_cD rfl (fun _ _ => u1_len) (av_cons (ev_op os_sub (ev_var rfl (.head _)) (ev_op os_fdiv (ev_var rfl (.head _)) ev_int)) av_nil))) av_nil)))
set_option maxHeartbeats 0 in
theorem ok__law_whole (T : Txt K mg) : FnOk P w K mg base CX0 1 T.a__law_whole T.fd__law_whole ["thing"] (SpP K 1 (u1 m__law_whole)) := by
  refine T.F__law_whole.ok sc__law_whole (fun vs H Q E h => h.1) (fun cdv A outer s H vs Q E hr h => ?_)
  refine ⟨_, (pss_cons (ps_ret (pe_and (pe_callB call_isi (by rfl) T.z_isinstance (by decide +kernel) (pa_cons (pv 0) (pa_cons (pe_bltn (v := .ty "int") (u := .type "int") (by rfl) T.z_int (by decide +kernel) rfl) pa_nil))) (pe_one (pe_not (pe_callB call_isi (by rfl) T.z_isinstance (by decide +kernel) (pa_cons (pv 0) (pa_cons (pe_bltn (v := .ty "bool") (u := .type "bool") (by rfl) T.z_bool (by decide +kernel) rfl) pa_nil)))))))
      pss_nil), body_P h fun ds O hl => ?_⟩
  have h1 := h.1
  match vs, ds, h1, hl with
  | [v_0], [x_0], _, _ =>
  refine ⟨_, rfl, ?_⟩
  refine sv_st (σ' := [some v_0]) rfl ?_
  exact sv_ret sub0 (ev_and (ev_isi (ev_var rfl (.head _))) (ev_not (ev_isi (ev_var rfl (.head _)))))
set_option maxHeartbeats 0 in
theorem ok__law_name_of (T : Txt K mg) : FnX P w K mg base CX0 1 T.a__law_name_of T.fd__law_name_of ["e"] (SpE K (rootX T.exs) m__law_name_of) := by
  refine okFX T.F__law_name_of sc__law_name_of (fun a cls d vs H Q E h => h.1) (fun cdv A outer s H vs Q E p cls d hot hz hr h => ?_)
  have hf : ∃ vs, p.2.data = .fields vs := hot.2.imp fun _ h => h.1
  refine ⟨_, (pss_cons (ps_set (i := 1) sc__law_name_of.nd rfl (Or.inl rfl) (pe_lst (pa_cons (pe_callB (show CallR _ (.builtin "isinstance") (rIsX K cls d p.1) from call_isX (pa := p.1) (po := p.2) (.head _) hz hf) (by rfl) T.z_isinstance (by decide +kernel) (pa_cons (pv 0) (pa_cons (pe_glob (v := .ref T.C_NoFigure) (by exact rfl) T.g_NoFigure (by exact rfl)) pa_nil))) (pa_cons (pe_callB (show CallR _ (.builtin "isinstance") (rIsX K cls d p.1) from call_isX (pa := p.1) (po := p.2) (.head _) hz hf) (by rfl) T.z_isinstance (by decide +kernel) (pa_cons (pv 0) (pa_cons (pe_glob (v := .ref T.C_NoLooks) (by exact rfl) T.g_NoLooks (by exact rfl)) pa_nil))) (pa_cons (pe_callB (show CallR _ (.builtin "isinstance") (rIsX K cls d p.1) from call_isX (pa := p.1) (po := p.2) (.head _) hz hf) (by rfl) T.z_isinstance (by decide +kernel) (pa_cons (pv 0) (pa_cons (pe_glob (v := .ref T.C_NoRoom) (by exact rfl) T.g_NoRoom (by exact rfl)) pa_nil))) (pa_cons (pe_callB (show CallR _ (.builtin "isinstance") (rIsX K cls d p.1) from call_isX (pa := p.1) (po := p.2) (.head _) hz hf) (by rfl) T.z_isinstance (by decide +kernel) (pa_cons (pv 0) (pa_cons (pe_glob (v := .ref T.C_NoRow) (by exact rfl) T.g_NoRow (by exact rfl)) pa_nil))) pa_nil))))))
      (pss_cons (ps_set (i := 1) sc__law_name_of.nd rfl (Or.inl rfl) (pe_op op_addU (pv 1) (pe_lst (pa_cons (pe_callB (show CallR _ (.builtin "isinstance") (rIsX K cls d p.1) from call_isX (pa := p.1) (po := p.2) (.head _) hz hf) (by rfl) T.z_isinstance (by decide +kernel) (pa_cons (pv 0) (pa_cons (pe_glob (v := .ref T.C_NoTable) (by exact rfl) T.g_NoTable (by exact rfl)) pa_nil))) (pa_cons (pe_callB (show CallR _ (.builtin "isinstance") (rIsX K cls d p.1) from call_isX (pa := p.1) (po := p.2) (.head _) hz hf) (by rfl) T.z_isinstance (by decide +kernel) (pa_cons (pv 0) (pa_cons (pe_glob (v := .ref T.C_NoText) (by exact rfl) T.g_NoText (by exact rfl)) pa_nil))) (pa_cons (pe_callB (show CallR _ (.builtin "isinstance") (rIsX K cls d p.1) from call_isX (pa := p.1) (po := p.2) (.head _) hz hf) (by rfl) T.z_isinstance (by decide +kernel) (pa_cons (pv 0) (pa_cons (pe_glob (v := .ref T.C_Spoilt) (by exact rfl) T.g_Spoilt (by exact rfl)) pa_nil))) (pa_cons (pe_callB (show CallR _ (.builtin "isinstance") (rIsX K cls d p.1) from call_isX (pa := p.1) (po := p.2) (.head _) hz hf) (by rfl) T.z_isinstance (by decide +kernel) (pa_cons (pv 0) (pa_cons (pe_glob (v := .ref T.C_NoMore) (by exact rfl) T.g_NoMore (by exact rfl)) pa_nil))) pa_nil)))))))
      (pss_cons (ps_set (i := 1) sc__law_name_of.nd rfl (Or.inl rfl) (pe_op op_addU (pv 1) (pe_lst (pa_cons (pe_callB (show CallR _ (.builtin "isinstance") (rIsX K cls d p.1) from call_isX (pa := p.1) (po := p.2) (.head _) hz hf) (by rfl) T.z_isinstance (by decide +kernel) (pa_cons (pv 0) (pa_cons (pe_glob (v := .ref T.C_NoWork) (by exact rfl) T.g_NoWork (by exact rfl)) pa_nil))) (pa_cons (pe_callB (show CallR _ (.builtin "isinstance") (rIsX K cls d p.1) from call_isX (pa := p.1) (po := p.2) (.head _) hz hf) (by rfl) T.z_isinstance (by decide +kernel) (pa_cons (pv 0) (pa_cons (pe_glob (v := .ref T.C_NoCell) (by exact rfl) T.g_NoCell (by exact rfl)) pa_nil))) (pa_cons (pe_callB (show CallR _ (.builtin "isinstance") (rIsX K cls d p.1) from call_isX (pa := p.1) (po := p.2) (.head _) hz hf) (by rfl) T.z_isinstance (by decide +kernel) (pa_cons (pv 0) (pa_cons (pe_glob (v := .ref T.C_NoDeed) (by exact rfl) T.g_NoDeed (by exact rfl)) pa_nil))) (pa_cons (pe_callB (show CallR _ (.builtin "isinstance") (rIsX K cls d p.1) from call_isX (pa := p.1) (po := p.2) (.head _) hz hf) (by rfl) T.z_isinstance (by decide +kernel) (pa_cons (pv 0) (pa_cons (pe_bltn (v := .ty "ValueError") (u := .type "ValueError") (by rfl) T.z_ValueError (by decide +kernel) (by exact rfl)) pa_nil))) pa_nil)))))))
      (pss_cons (ps_set (i := 2) sc__law_name_of.nd rfl (Or.inl rfl) (pe_lst (pa_cons pe_str (pa_cons pe_str (pa_cons pe_str (pa_cons pe_str (pa_cons pe_str (pa_cons pe_str (pa_cons pe_str (pa_cons pe_str (pa_cons pe_str (pa_cons pe_str pa_nil))))))))))))
      (pss_cons (ps_ret (pe_join pe_str (pe_lcS (own := [("name", 3), ("kind", 4)]) (g := (gTup K 2 (gCons (gName 3) (gCons (gName 4) gNil)))) ⟨p, hot, .head _⟩ sc__law_name_of.nd (pi_zipS (by rfl) T.z_zip (pa_cons (pe_op op_addU (pv 2) (pe_lst (pa_cons pe_str (pa_cons pe_str pa_nil)))) (pa_cons (pv 1) pa_nil))) (blkOk_by (own := [("name", 3), ("kind", 4)]) (N := ["e", "kinds", "names", "name", "kind"]) (sc := defScope s__law_name_of) (by decide +kernel)) (fun _ _ _ _ _ hS => (pg_tupS hS (pgs_cons (pg_name (i := 3) sc__law_name_of.nd rfl (Or.inl rfl)) (pgs_cons (pg_name (i := 4) sc__law_name_of.nd rfl (Or.inl rfl)) pgs_nil)))) (fun _ _ _ _ _ => (pts_one (show PT _ _ (tTru K _) from pt_truth (pv 4) (by intro _; rfl)))) (fun _ _ _ _ _ => (pv 3)))))
      pss_nil))))), body_E h fun e O => ?_⟩
  refine ⟨_, rfl, ?_⟩
  refine sv_st (σ' := [some (.ref p.1), none, none, none, none]) rfl ?_
  refine sv_asg sub1 (ev_lst (av_cons (ev_isX rfl (fun _ h => h) T.isx_NoFigure) (av_cons (ev_isX rfl (fun _ h => h) T.isx_NoLooks) (av_cons (ev_isX rfl (fun _ h => h) T.isx_NoRoom) (av_cons (ev_isX rfl (fun _ h => h) T.isx_NoRow) av_nil))))) (σ' := (fun v1 => [some (.ref p.1), some v1, none, none, none])) (fun _ => rfl) fun v1 x12 => ?_
  refine sv_asg sub1 (ev_op os_add (ev_var rfl (.head _)) (ev_lst (av_cons (ev_isX rfl (fun _ h => h) T.isx_NoTable) (av_cons (ev_isX rfl (fun _ h => h) T.isx_NoText) (av_cons (ev_isX rfl (fun _ h => h) T.isx_Spoilt) (av_cons (ev_isX rfl (fun _ h => h) T.isx_NoMore) av_nil)))))) (σ' := (fun v2 => [some (.ref p.1), some v2, none, none, none])) (fun _ => rfl) fun v2 x11 => ?_
  refine sv_asg sub1 (ev_op os_add (ev_var rfl (.head _)) (ev_lst (av_cons (ev_isX rfl (fun _ h => h) T.isx_NoWork) (av_cons (ev_isX rfl (fun _ h => h) T.isx_NoCell) (av_cons (ev_isX rfl (fun _ h => h) T.isx_NoDeed) (av_cons (ev_isX rfl (fun _ h => h) T.isx_ValueError) av_nil)))))) (σ' := (fun v3 => [some (.ref p.1), some v3, none, none, none])) (fun _ => rfl) fun v3 x10 => ?_
  refine sv_asg sub1 (ev_lst (av_cons ev_str (av_cons ev_str (av_cons ev_str (av_cons ev_str (av_cons ev_str (av_cons ev_str (av_cons ev_str (av_cons ev_str (av_cons ev_str (av_cons ev_str av_nil))))))))))) (σ' := (fun v4 => [some (.ref p.1), some v3, some v4, none, none])) (fun _ => rfl) fun v4 x9 => ?_
  exact sv_ret sub1 (ev_join ev_str (ev_lc2 (σ2 := fun v5 v6 => [some (.ref p.1), some v3, some v4, some v5, some v6]) (iv_zipL (av_cons (ev_op os_add (ev_var rfl (.head _)) (ev_lst (av_cons ev_str (av_cons ev_str av_nil)))) (av_cons (ev_var rfl (.tail _ (.head _))) av_nil))) (fun _ _ => rfl) (fun _ _ => rfl) (fun v5 v6 x7 x8 => (tv_tr (ev_var rfl (.tail _ (.head _))))) (fun v5 v6 x7 x8 => (ev_var rfl (.head _)))))
set_option maxHeartbeats 0 in
theorem ok__law_thing_s (T : Txt K mg) (fu : Nat) (IH : FnOk P w K mg base CX0 (fu + 2) T.a__law_thing T.fd__law_thing ["deck", "deep"] (SpD K 1 (u1 (m__law_thing_r fu)))) : FnOk P w K mg base CX0 (fu + 1 + 2) T.a__law_thing T.fd__law_thing ["deck", "deep"] (SpD K 1 (u1 (m__law_thing_r (fu + 1)))) := by
  refine T.F__law_thing.ok sc__law_thing (fun vs H Q E h => h.1) (fun cdv A outer s H vs Q E hr h => ?_)
  refine ⟨_, (pss_cons (ps_set (i := 2) sc__law_thing.nd rfl (Or.inl rfl) (pe_call (ok__law_pick T) (hr.mono (by omega)) rfl T.m__law_pick T.F__law_pick.kp T.b__law_pick .nil pass0 (pa_cons (pv 0) (pa_cons pe_int pa_nil))))
      (pss_cons (ps_set (i := 3) sc__law_thing.nd rfl (Or.inl rfl) (pe_ix ix_seq (pe_lst (pa_cons (pe_op op_sub (pe_call (ok__law_pick T) (hr.mono (by omega)) rfl T.m__law_pick T.F__law_pick.kp T.b__law_pick .nil pass0 (pa_cons (pv 0) (pa_cons pe_int pa_nil))) pe_int) (pa_cons (pe_op op_sub (pe_call (ok__law_pick T) (hr.mono (by omega)) rfl T.m__law_pick T.F__law_pick.kp T.b__law_pick .nil pass0 (pa_cons (pv 0) (pa_cons (pe_op op_pow pe_int pe_int) pa_nil))) (pe_op op_pow pe_int pe_int)) (pa_cons (pe_op op_sub pe_int (pe_op op_pow pe_int pe_int)) pa_nil)))) (pe_call (ok__law_pick T) (hr.mono (by omega)) rfl T.m__law_pick T.F__law_pick.kp T.b__law_pick .nil pass0 (pa_cons (pv 0) (pa_cons pe_int pa_nil))) (fun _ _ => rfl)))
      (pss_cons (ps_if (pt_cmpR op_lt (pv 2) pe_int (nomark _)) (pss_cons (ps_ret (pv 3))
      pss_nil) pss_nil)
      (pss_cons (ps_if (pt_cmpR op_lt (pv 2) pe_int (nomark _)) (pss_cons (ps_ret (pe_ix ix_seq (pe_lst (pa_cons pe_bl (pa_cons pe_bl (pa_cons pe_non pa_nil)))) (pe_op op_sub (pv 2) pe_int) (fun _ _ => rfl)))
      pss_nil) pss_nil)
      (pss_cons (ps_if (pt_cmpR op_lt (pv 2) pe_int (nomark _)) (pss_cons (ps_ret (pe_ix ix_seq (pe_lst (pa_cons pe_str (pa_cons pe_str (pa_cons pe_str (pa_cons pe_str (pa_cons pe_str (pa_cons pe_str pa_nil))))))) (pe_call (ok__law_pick T) (hr.mono (by omega)) rfl T.m__law_pick T.F__law_pick.kp T.b__law_pick .nil pass0 (pa_cons (pv 0) (pa_cons pe_int pa_nil))) (fun _ _ => rfl)))
      pss_nil) pss_nil)
      (pss_cons (ps_setLc (i := 4) (own := [("k", 5)]) (g := (gName 5)) (tt := tYes) rfl sc__law_thing.nd rfl rfl (sw_true rfl rfl rfl (by decide +kernel)) (pi_range1 (by rfl) T.z_range (pa_cons (pe_op op_mulU (pe_call (ok__law_pick T) (hr.mono (by omega)) rfl T.m__law_pick T.F__law_pick.kp T.b__law_pick .nil pass0 (pa_cons (pv 0) (pa_cons pe_int pa_nil))) (pe_callTy call_int1 (by rfl) T.z_int (by decide +kernel) (pa_cons (pe_cmpR op_gt (pv 1) pe_int (nomark _)) pa_nil))) pa_nil)) (blkOk_by (own := [("k", 5)]) (N := ["deck", "deep", "kind", "far", "some", "k"]) (sc := defScope s__law_thing) (by decide +kernel)) (fun _ _ _ _ _ => (pg_name (i := 5) sc__law_thing.nd rfl (Or.inl rfl))) (fun _ _ _ _ _ => pts_nil) (fun _ _ _ _ _ => (pe_call IH (hr.mono (by omega)) (by exact rfl) T.m__law_thing T.F__law_thing.kp T.b__law_thing .nil pass0 (pa_cons (pv 0) (pa_cons (pe_op op_sub (pv 1) pe_int) pa_nil)))))
      (pss_cons (ps_ret (pe_ifExp (pt_cmpR (op_eqD hr.units) (pv 2) pe_int (nomark _)) (pv 4) (pe_callTy call_tuple_of (by rfl) T.z_tuple (by decide +kernel) (pa_cons (pv 4) pa_nil))))
      pss_nil))))))), body_D h fun a us ds O hv hl => ?_⟩
  have h1 := h.1
  subst hv
  match us, ds, h1, hl with
  | [v_1], [x_1], _, _ =>
  refine ⟨_, rfl, ?_⟩
  refine sv_st (σ' := [some (.ref a), some v_1, none, none, none, none]) rfl ?_
  refine sv_asg sub1 (ev_cD rfl (fun _ _ => u1_len) (av_cons ev_int av_nil)) (σ' := (fun v1 => [some (.ref a), some v_1, some v1, none, none, none])) (fun _ => rfl) fun v1 x36 => ?_
  refine sv_asg sub1 (ev_op os_idx (ev_lst (av_cons (ev_op os_sub (ev_cD rfl (fun _ _ => u1_len) (av_cons ev_int av_nil)) ev_int) (av_cons (ev_op os_sub (ev_cD rfl (fun _ _ => u1_len) (av_cons (ev_op os_pow ev_int ev_int) av_nil)) (ev_op os_pow ev_int ev_int)) (av_cons (ev_op os_sub ev_int (ev_op os_pow ev_int ev_int)) av_nil)))) (ev_cD rfl (fun _ _ => u1_len) (av_cons ev_int av_nil))) (σ' := (fun v2 => [some (.ref a), some v_1, some v1, some v2, none, none])) (fun _ => rfl) fun v2 x35 => ?_
  refine sv_if sub1 (tv_test (ev_op os_lt (ev_var rfl (.tail _ (.head _))) ev_int)) ?_ ?_
  · refine sv_assoc ?_
    exact sv_ret sub1 (ev_var rfl (.head _))
  · refine sv_skip ?_
    refine sv_if sub1 (tv_test (ev_op os_lt (ev_var rfl (.tail _ (.head _))) ev_int)) ?_ ?_
    · refine sv_assoc ?_
      exact sv_ret sub1 (ev_op os_idx (ev_lst (av_cons ev_bl (av_cons ev_bl (av_cons ev_non av_nil)))) (ev_op os_sub (ev_var rfl (.tail _ (.head _))) ev_int))
    · refine sv_skip ?_
      refine sv_if sub1 (tv_test (ev_op os_lt (ev_var rfl (.tail _ (.head _))) ev_int)) ?_ ?_
      · refine sv_assoc ?_
        exact sv_ret sub1 (ev_op os_idx (ev_lst (av_cons ev_str (av_cons ev_str (av_cons ev_str (av_cons ev_str (av_cons ev_str (av_cons ev_str av_nil))))))) (ev_cD rfl (fun _ _ => u1_len) (av_cons ev_int av_nil)))
      · refine sv_skip ?_
        refine sv_asg sub1 (ev_lc1 (σ2 := fun v3 => [some (.ref a), some v_1, some v1, some v2, none, some v3]) (iv_rng1 (av_cons (ev_op os_mul (ev_cD rfl (fun _ _ => u1_len) (av_cons ev_int av_nil)) (ev_cb cs_int (av_cons (ev_op os_gt (ev_var rfl (.tail _ (.tail _ (.head _)))) ev_int) av_nil))) av_nil)) (fun _ => rfl) (fun _ => rfl) (fun v3 x4 => tv_yes) (fun v3 x4 => (ev_cD rfl (fun _ _ => u1_len) (av_cons (ev_op os_sub (ev_var rfl (.tail _ (.tail _ (.tail _ (.head _))))) ev_int) av_nil)))) (σ' := (fun v5 => [some (.ref a), some v_1, some v1, some v2, some v5, none])) (fun _ => rfl) fun v5 x6 => ?_
        exact sv_ret sub1 (ev_if (tv_test (ev_op os_eq (ev_var rfl (.tail _ (.tail _ (.head _)))) ev_int)) (ev_var rfl (.head _)) (ev_cb cs_tuple (av_cons (ev_var rfl (.head _)) av_nil)))
theorem ok__law_thing_r (T : Txt K mg) : ∀ fu : Nat, FnOk P w K mg base CX0 (fu + 2) T.a__law_thing T.fd__law_thing ["deck", "deep"] (SpD K 1 (u1 (m__law_thing_r fu)))
  | 0 => ⟨fun vs H Q E h => (spD_bad (fun ds m => by unfold u1; split <;> rfl) h).elim, fun A outer s H args us vs Q E _ _ _ _ h => (spD_bad (fun ds m => by unfold u1; split <;> rfl) h).elim⟩
  | fu + 1 => ok__law_thing_s T fu (ok__law_thing_r T fu)
theorem ok__law_thing (T : Txt K mg) : FnOk P w K mg base CX0 8 T.a__law_thing T.fd__law_thing ["deck", "deep"] (SpD K 1 (u1 m__law_thing)) := ok__law_thing_r T 6
set_option maxHeartbeats 0 in
theorem ok__law_worth (T : Txt K mg) : FnOk P w K mg base CX0 1 T.a__law_worth T.fd__law_worth ["kind", "row"] (SpP K 2 (u2 m__law_worth)) := by
  refine T.F__law_worth.ok sc__law_worth (fun vs H Q E h => h.1) (fun cdv A outer s H vs Q E hr h => ?_)
  refine ⟨_, (pss_cons (ps_set (i := 2) sc__law_worth.nd rfl (Or.inl rfl) pe_int)
      (pss_cons (ps_for PassesOwn.never rfl (pi_seq (pv 1)) (pg_name (i := 3) sc__law_worth.nd rfl (Or.inl rfl)) (pss_cons (ps_set (i := 2) sc__law_worth.nd rfl (Or.inl rfl) (pe_op op_addU (pe_op op_mulU (pv 2) (pe_ix ix_seq (pv 0) pe_int (fun _ _ => rfl))) (pv 3)))
      pss_nil))
      (pss_cons (ps_ret (pv 2))
      pss_nil))), body_P h fun ds O hl => ?_⟩
  have h1 := h.1
  match vs, ds, h1, hl with
  | [v_0, v_1], [x_0, x_1], _, _ =>
  refine ⟨_, rfl, ?_⟩
  refine sv_st (σ' := [some v_0, some v_1, none, none]) rfl ?_
  refine sv_asg sub0 ev_int (σ' := (fun v1 => [some v_0, some v_1, some v1, none])) (fun _ => rfl) fun v1 x9 => ?_
  refine sv_seq (J1 := (fun (s2 : D) σ' L2 C2 => ∃ (v3 : V) (o4 : Option V), σ' = [some v_0, some v_1, some v3, o4] ∧ L2 = ([(v3, s2)] : List (V × D)) ∧ C2 = (fun _ => []))) (sv_for sub0 (iv_seq (ev_var rfl (.tail _ (.tail _ (.head _))))) ⟨v1, none, rfl, rfl, rfl⟩ (lcons (.head _) lnil) (by intro s2 _ _ _ hJ; obtain ⟨v3, o4, rfl, rfl, rfl⟩ := hJ; exact sub0) ?_) ?_
  · intro s2 _ _ _ hJ v5 x6
    obtain ⟨v3, o4, rfl, rfl, rfl⟩ := hJ
    refine tg_name (σ' := [some v_0, some v_1, some v3, some v5]) rfl (?_)
    refine sv_asg sub0 (ev_op os_add (ev_op os_mul (ev_var rfl (.tail _ (.head _))) (ev_op os_idx (ev_var rfl (.tail _ (.tail _ (.tail _ (.head _))))) ev_int)) (ev_var rfl (.head _))) (σ' := (fun v7 => [some v_0, some v_1, some v7, some v5])) (fun _ => rfl) fun v7 x8 => ?_
    exact sv_nil ⟨v7, (some v5), rfl, rfl, rfl⟩ (lcons (.head _) lnil)
  · intro s2 _ _ _ hJ
    obtain ⟨v3, o4, rfl, rfl, rfl⟩ := hJ
    exact sv_ret sub0 (ev_var rfl (.head _))
set_option maxHeartbeats 0 in
theorem ok__law_is_figure (T : Txt K mg) : FnOk P w K mg base CX0 2 T.a__law_is_figure T.fd__law_is_figure ["kind", "thing"] (SpP K 2 (u2 m__law_is_figure)) := by
  refine T.F__law_is_figure.ok sc__law_is_figure (fun vs H Q E h => h.1) (fun cdv A outer s H vs Q E hr h => ?_)
  refine ⟨_, (pss_cons (ps_ret (pe_and (pe_call (ok__law_whole T) (hr.mono (by decide)) rfl T.m__law_whole T.F__law_whole.kp T.b__law_whole .nil pass0 (pa_cons (pv 1) pa_nil)) (pe_one (pe_chain op_le op_le (pe_op op_sub pe_int (pe_ix ix_seq (pv 0) pe_int (fun _ _ => rfl))) (pv 1) (pe_ix ix_seq (pv 0) pe_int (fun _ _ => rfl))))))
      pss_nil), body_P h fun ds O hl => ?_⟩
  have h1 := h.1
  match vs, ds, h1, hl with
  | [v_0, v_1], [x_0, x_1], _, _ =>
  refine ⟨_, rfl, ?_⟩
  refine sv_st (σ' := [some v_0, some v_1]) rfl ?_
  exact sv_ret sub0 (ev_and (ev_cP (fun _ => u1_len) (av_cons (ev_var rfl (.tail _ (.head _))) av_nil)) (ev_chain os_le os_le (ev_op os_sub ev_int (ev_op os_idx (ev_var rfl (.head _)) ev_int)) (ev_var rfl (.tail _ (.head _))) (ev_op os_idx (ev_var rfl (.head _)) ev_int)))
set_option maxHeartbeats 0 in
theorem ok__law_tried (T : Txt K mg) : FnOk P w K mg base CX0 4 T.a__law_tried T.fd__law_tried ["summer", "pair"] (SpZ K noX [true, false] [(.nd (.obj T.C_Summer ns_Summer) [.fr, .fr, (.ls .fr), .fr, .fr])] [true] .fr (qz (u1 m__law_tried))) := by
  refine T.F__law_tried.ok sc__law_tried (fun vs H Q E h => h.1) (fun cdv A outer s H vs Q E hr h => ?_)
  refine ⟨_, (pss_cons (ps_set (i := 2) sc__law_tried.nd rfl (Or.inl rfl) pe_non)
      (pss_cons (ps_set (i := 3) sc__law_tried.nd rfl (Or.inl rfl) pe_str)
      (pss_cons (ps_tryA (i := 4) rfl rfl sc__law_tried.nd rfl rfl ⟨rfl, by decide, .inl T.g_SlackError⟩ takes0N (fun W pn xe tk pa => (pss_cons (ps_set (i := 2) sc__law_tried.nd rfl (Or.inl rfl) (pe_ifExp (pt_cmpR op_isU (pv 1) pe_non (nomark _)) (pe_methT0 (pv 0) T.c_Summer T.h_Summer_end (ok_Summer_end T) (hr.mono (by decide)) T.b_Summer_end (fun σ => passAtN tk σ)) (pe_methT (pv 0) T.c_Summer T.h_Summer_put (ok_Summer_put T) (hr.mono (by decide)) T.b_Summer_put (fun σ => passAtN tk σ) (pa_cons (pe_ix (show IxR _ (rIx K) from ix_seq) (pv 1) pe_int (fun _ _ => rfl)) (pa_cons (pe_ix (show IxR _ (rIx K) from ix_seq) (pv 1) pe_int (fun _ _ => rfl)) pa_nil)))))
      pss_nil)) (fun a oe cls d pn hz hf => (pss_cons (ps_set (i := 3) sc__law_tried.nd rfl (Or.inl rfl) (pe_callX (pa := a) (po := oe) ⟨by exact rfl, hf.imp fun _ h => ⟨h, hz.2.2 _ h⟩⟩ (.head _) hz.zc (ok__law_name_of T) (roomH_mk hr (by decide)) (by exact rfl) T.m__law_name_of T.F__law_name_of.kp T.b__law_name_of passS0 (pa_cons (pv 4) pa_nil)))
      pss_nil)))
      (pss_cons (ps_ret (pe_tup (pa_cons (pv 2) (pa_cons (pv 3) pa_nil))))
      pss_nil)))), body_Zq h (fun ts : List D => ((ts.getD 0 .none) : D)) (fun m : D => [m]) (fun _ => rfl) fun us ws ds O mx0 hl1 hl2 => ?_⟩
  obtain ⟨v_0, vs_0, ws_0, rfl, rfl, mx1⟩ := mx0.tr_inv
  obtain ⟨v_1, vs_1, us_1, rfl, rfl, mx2⟩ := mx1.fr_inv
  obtain ⟨rfl, rfl, rfl⟩ := mx2.nil_inv
  match ds, hl1 with
  | [x_1], _ =>
  refine ⟨(fun m : D => [rootS K tr_ (.nd (.obj T.C_Summer ns_Summer) [.fr, .fr, (.ls .fr), .fr, .fr]) v_0 m]), _, rfl, (by intro ts ht; match ts, ht with | [t_0], _ => rfl), ?_⟩
  refine sv_cp (Cp' := (fun m : D => [rootS K tr_ (.nd (.obj T.C_Summer ns_Summer) [.fr, .fr, (.ls .fr), .fr, .fr]) v_0 m])) rfl ?_
  refine sv_st (σ' := [some v_0, some v_1, none, none, none]) rfl ?_
  refine sv_asg (fun _ => (List.Sublist.cons₂ _ (List.nil_sublist _))) ev_non (σ' := (fun v1 => [some v_0, some v_1, some v1, none, none])) (fun _ => rfl) fun v1 x11 => ?_
  refine sv_asg (fun _ => (List.Sublist.cons₂ _ (List.nil_sublist _))) ev_str (σ' := (fun v2 => [some v_0, some v_1, some v1, some v2, none])) (fun _ => rfl) fun v2 x10 => ?_
  refine sv_seq (J1 := (fun (s3 : D × D) σ' L2 C2 => ∃ (v4 : V) (v5 : V), σ' = [some v_0, some v_1, some v4, some v5, none] ∧ L2 = ([(v4, s3.1), (v5, s3.2)] : List (V × D)) ∧ C2 = (fun m : D => [rootS K tr_ (.nd (.obj T.C_Summer ns_Summer) [.fr, .fr, (.ls .fr), .fr, .fr]) v_0 m]))) (sv_try (i := 4) (cl := T.exs) (mt := fun e => isa (nmX e)) (fun _ => (List.Sublist.cons₂ _ (List.nil_sublist _))) (.inr rfl) T.exm_SlackError (fun W => ?_) (fun a cls d e he => ?_)) ?_
  · refine sv_asg (fun _ => (List.Sublist.cons₂ _ (List.nil_sublist _))) (ev_if (tv_test (ev_op os_is (ev_var rfl (.tail _ (.tail _ (.head _)))) ev_non)) (ev_fts rfl (fts_methT (fts_cZS (fun _ _ _ h => h) (fun _ _ => trivial) (as_rvar (get := (fun m : D => m)) (put := (fun (y : D) (_m : D) => y)) (m0 := "end") rfl rfl nm_Summer_end (fun m => List.perm_middle (l₁ := []) (l₂ := [])) as_nil (fun m => List.perm_middle (l₁ := []) (l₂ := [])) (fun m y => (List.perm_middle (l₁ := []) (l₂ := [])).symm))))) (ev_fts rfl (fts_methT (fts_cZS (fun _ _ _ h => h) (fun _ _ => trivial) (as_rvar (get := (fun m : D => m)) (put := (fun (y : D) (_m : D) => y)) (m0 := "put") rfl rfl nm_Summer_put (fun m => List.perm_middle (l₁ := []) (l₂ := [])) (as_fr (fun _ => List.Sublist.refl _) (ev_op os_idx (ev_var rfl (.tail _ (.tail _ (.head _)))) ev_int) (as_fr (fun _ => List.Sublist.refl _) (ev_op os_idx (ev_var rfl (.tail _ (.tail _ (.head _)))) ev_int) as_nil)) (fun m => List.perm_middle (l₁ := []) (l₂ := [])) (fun m y => (List.perm_middle (l₁ := []) (l₂ := [])).symm)))))) (σ' := (fun v6 => [some v_0, some v_1, some v6, some v2, none])) (fun _ => rfl) fun v6 x7 => ?_
    exact sv_nil ⟨v6, v2, rfl, rfl, rfl⟩ (lcons (.head _) (lcons (.tail _ (.head _)) lnil))
  · refine sv_st (σ' := [some v_0, some v_1, some v1, some v2, some (.ref a)]) rfl ?_
    refine sv_asg (fun _ => (List.Sublist.cons _ (List.Sublist.cons₂ _ (List.nil_sublist _)))) (ev_cE rfl) (σ' := (fun v8 => [some v_0, some v_1, some v1, some v8, some (.ref a)])) (fun _ => rfl) fun v8 x9 => ?_
    refine sv_drop (C' := (fun m : D => [rootS K tr_ (.nd (.obj T.C_Summer ns_Summer) [.fr, .fr, (.ls .fr), .fr, .fr]) v_0 m])) (fun _ => List.sublist_cons_self _ _) ?_
    exact sv_nil ⟨v1, v8, rfl, rfl, rfl⟩ (lcons (.tail _ (.tail _ (.head _))) (lcons (.head _) lnil))
  · intro s3 _ _ _ hJ
    obtain ⟨v4, v5, rfl, rfl, rfl⟩ := hJ
    exact sv_retS (fun _ => (List.Sublist.cons₂ _ (List.nil_sublist _))) (fts_fr (ev_tup (av_cons (ev_var rfl (.head _)) (av_cons (ev_var rfl (.tail _ (.head _))) av_nil))))
set_option maxHeartbeats 0 in
theorem ok__law_pair (T : Txt K mg) : FnOk P w K mg base CX0 9 T.a__law_pair T.fd__law_pair ["deck", "kind"] (SpD K 1 (u1 m__law_pair)) := by
  refine T.F__law_pair.ok sc__law_pair (fun vs H Q E h => h.1) (fun cdv A outer s H vs Q E hr h => ?_)
  refine ⟨_, (pss_cons (ps_setLc (i := 2) (own := [("k", 4)]) (g := (gName 4)) (tt := tYes) rfl sc__law_pair.nd rfl rfl (sw_true rfl rfl rfl (by decide +kernel)) (pi_range1 (by rfl) T.z_range (pa_cons pe_int pa_nil)) (blkOk_by (own := [("k", 4)]) (N := ["deck", "kind", "pair", "odd", "k"]) (sc := defScope s__law_pair) (by decide +kernel)) (fun _ _ _ _ _ => (pg_name (i := 4) sc__law_pair.nd rfl (Or.inl rfl))) (fun _ _ _ _ _ => pts_nil) (fun _ _ _ _ _ => (pe_op op_sub (pe_call (ok__law_pick T) (hr.mono (by decide)) (by exact rfl) T.m__law_pick T.F__law_pick.kp T.b__law_pick .nil pass0 (pa_cons (pv 0) (pa_cons (pe_op (show OpR _ _ (rAddU K) from op_addU) (pe_op op_mulU pe_int (pe_ix (show IxR _ (rIx K) from ix_seq) (pv 1) pe_int (fun _ _ => rfl))) pe_int) pa_nil))) (pe_ix (show IxR _ (rIx K) from ix_seq) (pv 1) pe_int (fun _ _ => rfl)))))
      (pss_cons (ps_if (pt_cmpR (op_eqD hr.units) (pe_call (ok__law_pick T) (hr.mono (by decide)) rfl T.m__law_pick T.F__law_pick.kp T.b__law_pick .nil pass0 (pa_cons (pv 0) (pa_cons pe_int pa_nil))) pe_int (nomark _)) (pss_cons (ps_set (i := 3) sc__law_pair.nd rfl (Or.inl rfl) (pe_lst (pa_cons (pe_op op_addU (pe_ix ix_seq (pv 1) pe_int (fun _ _ => rfl)) pe_int) (pa_cons (pe_op op_sub (pe_op op_sub pe_int (pe_ix ix_seq (pv 1) pe_int (fun _ _ => rfl))) pe_int) (pa_cons pe_bl (pa_cons pe_str (pa_cons pe_non (pa_cons (pe_tup (pa_cons pe_int pa_nil)) (pa_cons (pe_ix ix_seq (pv 1) pe_int (fun _ _ => rfl)) (pa_cons (pe_call (ok__law_thing T) (hr.mono (by decide)) rfl T.m__law_thing T.F__law_thing.kp T.b__law_thing .nil pass0 (pa_cons (pv 0) (pa_cons pe_int pa_nil))) pa_nil))))))))))
      (pss_cons (ps_asg (pe_ix ix_seq (pv 3) (pe_call (ok__law_pick T) (hr.mono (by decide)) rfl T.m__law_pick T.F__law_pick.kp T.b__law_pick .nil pass0 (pa_cons (pv 0) (pa_cons pe_int pa_nil))) (fun _ _ => rfl)) (pg_sub (pv 2) (pe_call (ok__law_pick T) (hr.mono (by decide)) rfl T.m__law_pick T.F__law_pick.kp T.b__law_pick .nil pass0 (pa_cons (pv 0) (pa_cons pe_int pa_nil))) set_list))
      pss_nil)) pss_nil)
      (pss_cons (ps_ret (pe_ifExp (pt_cmpR (op_eqD hr.units) (pe_call (ok__law_pick T) (hr.mono (by decide)) rfl T.m__law_pick T.F__law_pick.kp T.b__law_pick .nil pass0 (pa_cons (pv 0) (pa_cons pe_int pa_nil))) pe_int (nomark _)) pe_non (pv 2)))
      pss_nil))), body_D h fun a us ds O hv hl => ?_⟩
  have h1 := h.1
  subst hv
  match us, ds, h1, hl with
  | [v_1], [x_1], _, _ =>
  refine ⟨_, rfl, ?_⟩
  refine sv_st (σ' := [some (.ref a), some v_1, none, none, none]) rfl ?_
  refine sv_newF sub1 (fv_lc1 (σ2 := fun v1 => [some (.ref a), some v_1, none, none, some v1]) (iv_rng1 (av_cons ev_int av_nil)) (fun _ => rfl) (fun _ => rfl) (fun v1 x2 => tv_yes) (fun v1 x2 => (ev_op os_sub (ev_cD rfl (fun _ _ => u1_len) (av_cons (ev_op os_add (ev_op os_mul ev_int (ev_op os_idx (ev_var rfl (.tail _ (.head _))) ev_int)) ev_int) av_nil)) (ev_op os_idx (ev_var rfl (.tail _ (.head _))) ev_int)))) (σ' := fun v4 => [some (.ref a), some v_1, some v4, none, none]) (fun _ => rfl) (C' := fun p3 pair m => [rootL K a m, rootL K p3 pair]) (fun p3 pair m => (List.perm_append_singleton _ [rootL K a m]).symm) fun p3 pair hp3 => ?_
  refine sv_seq (J1 := (fun (s5 : D) σ' L2 C2 => ∃ (o6 : Option V), σ' = [some (.ref a), some v_1, some (.ref p3), o6, none] ∧ L2 = ([] : List (V × D)) ∧ C2 = (fun m => rootL K a m :: [rootL K p3 s5]))) (sv_if1 sub1 (tv_test (ev_op os_eq (ev_cD rfl (fun _ _ => u1_len) (av_cons ev_int av_nil)) ev_int)) ?_ ?_) ?_
  · refine sv_asg sub1 (ev_lst (av_cons (ev_op os_add (ev_op os_idx (ev_var rfl (.head _)) ev_int) ev_int) (av_cons (ev_op os_sub (ev_op os_sub ev_int (ev_op os_idx (ev_var rfl (.head _)) ev_int)) ev_int) (av_cons ev_bl (av_cons ev_str (av_cons ev_non (av_cons (ev_tup (av_cons ev_int av_nil)) (av_cons (ev_op os_idx (ev_var rfl (.head _)) ev_int) (av_cons (ev_cD rfl (fun _ _ => u1_len) (av_cons ev_int av_nil)) av_nil))))))))) (σ' := (fun v7 => [some (.ref a), some v_1, some (.ref p3), some v7, none])) (fun _ => rfl) fun v7 x8 => ?_
    refine sv_rset sub1 rfl (ev_op os_idx (ev_var rfl (.head _)) (ev_cD rfl (fun _ _ => u1_len) (av_cons ev_int av_nil))) (ev_cD rfl (fun _ _ => u1_len) (av_cons ev_int av_nil)) (Z := fun m => [rootL K a m]) (fun m => List.perm_middle (l₁ := [rootL K a m]) (l₂ := [])) (C' := fun d m => [rootL K a m, rootL K p3 d]) (fun d m => (List.perm_middle (l₁ := [rootL K a m]) (l₂ := [])).symm) fun pair1 => ?_
    exact sv_nil ⟨(some v7), rfl, rfl, rfl⟩ lnil
  · exact sv_nil ⟨none, rfl, rfl, rfl⟩ lnil
  · intro s5 _ _ _ hJ
    obtain ⟨o6, rfl, rfl, rfl⟩ := hJ
    refine sv_freeze (C' := fun m => [rootL K a m]) (fun m => List.perm_middle (l₁ := [rootL K a m]) (l₂ := [])) hp3 ?_
    exact sv_ret sub1 (ev_if (tv_test (ev_op os_eq (ev_cD rfl (fun _ _ => u1_len) (av_cons ev_int av_nil)) ev_int)) ev_non (ev_var rfl (.head _)))
set_option maxHeartbeats 0 in
theorem ok__law_one_right (T : Txt K mg) : FnOk P w K mg base CX0 10 T.a__law_one_right T.fd__law_one_right ["deck", "own"] (SpZ K noX [true, true] [(.ls .fr), (.nd (.rc ["kind", "summer", "rows", "figures", "ended"]) [.fr, (.nd (.obj T.C_Summer ns_Summer) [.fr, .fr, (.ls .fr), .fr, .fr]), (.ls .fr), .fr, .fr])] [true, true] .fr (qz (u0 m__law_one_right))) := by
  refine T.F__law_one_right.ok sc__law_one_right (fun vs H Q E h => h.1) (fun cdv A outer s H vs Q E hr h => ?_)
  refine ⟨_, (pss_cons (ps_set (i := 2) sc__law_one_right.nd rfl (Or.inr rfl) (pe_dget hr.units1 (pv 1) pe_str (fun _ _ => rfl)))
      (pss_cons (ps_set (i := 3) sc__law_one_right.nd rfl (Or.inl rfl) (pe_call (ok__law_pair T) (hr.mono (by decide)) rfl T.m__law_pair T.F__law_pair.kp T.b__law_pair .nil pass0 (pa_cons (pv 0) (pa_cons (pv 2) pa_nil))))
      (pss_cons (ps_asg (pe_call (ok__law_tried T) (hr.mono (by decide)) rfl T.m__law_tried T.F__law_tried.kp T.b__law_tried .nil pass0 (pa_cons (pe_dget hr.units1 (pv 1) pe_str (fun _ _ => rfl)) (pa_cons (pv 3) pa_nil))) (pg_tup rfl (pgs_cons (pg_name (i := 4) sc__law_one_right.nd rfl (Or.inl rfl)) (pgs_cons (pg_name (i := 5) sc__law_one_right.nd rfl (Or.inl rfl)) pgs_nil))))
      (pss_cons (ps_set (i := 6) sc__law_one_right.nd rfl (Or.inl rfl) pe_str)
      (pss_cons (ps_if (pt_truth (pe_dget hr.units1 (pv 1) pe_str (fun _ _ => rfl)) (by intro _; rfl)) (pss_cons (ps_set (i := 6) sc__law_one_right.nd rfl (Or.inl rfl) pe_str)
      pss_nil) (pss_cons (ps_if (PW.pt (pw_and (pt_cmpR op_isntU (pv 3) pe_non (nomark _)) (pw_and1 (pt_cmpR (op_neD hr.units) (pe_lc (own := [("one", 7)]) (g := (gName 7)) rfl sc__law_one_right.nd (pi_seq (pv 3)) (blkOk_by (own := [("one", 7)]) (N := ["deck", "own", "kind", "pair", "told", "fault", "due", "one"]) (sc := defScope s__law_one_right) (by decide +kernel)) (fun _ _ _ _ _ => (pg_name (i := 7) sc__law_one_right.nd rfl (Or.inl rfl))) (fun _ _ _ _ _ => (pts_one (pt_not (show PT _ _ (tTru K _) from pt_truth (pe_call (ok__law_is_figure T) (hr.mono (by decide)) (by exact rfl) T.m__law_is_figure T.F__law_is_figure.kp T.b__law_is_figure .nil pass0 (pa_cons (pv 2) (pa_cons (pv 7) pa_nil))) (by intro _; rfl))))) (fun _ _ _ _ _ => (pv 7))) (pe_lst pa_nil) (nomark _))))) (pss_cons (ps_set (i := 6) sc__law_one_right.nd rfl (Or.inl rfl) pe_str)
      pss_nil) pss_nil)
      pss_nil))
      (pss_cons (ps_if (PW.pt (pw_or (pt_cmpR (op_neD hr.units) (pv 5) (pv 6) (nomark _)) (pw_or1 (pt_cmpR (op_neD hr.units) (pe_cmpR op_isU (pv 4) pe_non (nomark _)) (pe_cmpR (op_neD hr.units) (pv 6) pe_str (nomark _)) (nomark _))))) (pss_cons (ps_ret pe_bl)
      pss_nil) pss_nil)
      (pss_cons (ps_if (pt_cmpR (op_eqD hr.units) (pv 6) pe_str (nomark _)) (pss_cons (ps_dput hr.units1 (pv 1) pe_str (pe_op op_addU (pe_dget hr.units1 (pv 1) pe_str (fun _ _ => rfl)) (pv 4)) rfl)
      (pss_cons (ps_if (pt_cmpR op_isU (pv 3) pe_non (nomark _)) (pss_cons (ps_dput hr.units1 (pv 1) pe_str pe_bl rfl)
      pss_nil) (pss_cons (ps_expr (pe_bm PySem.F.plainAttrs_list PySem.F.slot_list_append PySem.F.type_list_append mt_append (pe_dget hr.units1 (pv 1) pe_str (fun _ _ => rfl)) (pa_cons (pv 3) pa_nil)))
      pss_nil))
      pss_nil)) pss_nil)
      (pss_cons (ps_ret (pe_cmpR (op_eqD hr.units) (pe_meth0 (pe_dget hr.units1 (pv 1) pe_str (fun _ _ => rfl)) T.c_Summer T.h_Summer_told (ok_Summer_told T) (hr.mono (by decide)) T.b_Summer_told .nil pass0) (pe_dget hr.units1 (pv 1) pe_str (fun _ _ => rfl)) (nomark _)))
      pss_nil)))))))), body_Zq h (fun ts : List D => (((ts.getD 0 .none), (ts.getD 1 .none)) : D × D)) (fun m : D × D => [m.1, m.2]) (fun _ => rfl) fun us ws ds O mx0 hl1 hl2 => ?_⟩
  obtain ⟨v_0, vs_0, ws_0, rfl, rfl, mx1⟩ := mx0.tr_inv
  obtain ⟨v_1, vs_1, ws_1, rfl, rfl, mx2⟩ := mx1.tr_inv
  obtain ⟨rfl, rfl, rfl⟩ := mx2.nil_inv
  match ds, hl1 with
  | [], _ =>
  refine ⟨(fun m : D × D => [rootS K tr_ (.ls .fr) v_0 m.1, rootS K tr_ (.nd (.rc ["kind", "summer", "rows", "figures", "ended"]) [.fr, (.nd (.obj T.C_Summer ns_Summer) [.fr, .fr, (.ls .fr), .fr, .fr]), (.ls .fr), .fr, .fr]) v_1 m.2]), _, rfl, (by intro ts ht; match ts, ht with | [t_0, t_1], _ => rfl), ?_⟩
  refine sv_cp (Cp' := (fun m : D × D => [rootS K tr_ (.ls .fr) v_0 m.1, rootS K tr_ (.nd (.rc ["kind", "summer", "rows", "figures", "ended"]) [.fr, (.nd (.obj T.C_Summer ns_Summer) [.fr, .fr, (.ls .fr), .fr, .fr]), (.ls .fr), .fr, .fr]) v_1 m.2])) rfl ?_
  refine sv_st (σ' := [some v_0, some v_1, none, none, none, none, none, none]) rfl ?_
  refine sv_asg (fun _ => (List.Sublist.cons₂ _ (List.Sublist.cons₂ _ (List.nil_sublist _)))) (ev_plfr (fun m => List.perm_middle (l₁ := [rootS K tr_ (.ls .fr) v_0 m.1]) (l₂ := [])) (pls_key (i := 0) (pls_var rfl (fun m => List.perm_middle (l₁ := [rootS K tr_ (.ls .fr) v_0 m.1]) (l₂ := []))) (by decide +kernel) rfl rfl)) (σ' := (fun v1 => [some v_0, some v_1, some v1, none, none, none, none, none])) (fun _ => rfl) fun v1 x23 => ?_
  refine sv_asg (fun _ => (List.Sublist.cons₂ _ (List.Sublist.cons₂ _ (List.nil_sublist _)))) (ev_cDS (get := (fun m : D × D => m.1)) (put := (fun (y : D) (m : D × D) => (y, m.2))) rfl (fun _ _ => u1_len) (av_cons (ev_var rfl (.head _)) av_nil) (fun m => List.perm_middle (l₁ := []) (l₂ := [rootS K tr_ (.nd (.rc ["kind", "summer", "rows", "figures", "ended"]) [.fr, (.nd (.obj T.C_Summer ns_Summer) [.fr, .fr, (.ls .fr), .fr, .fr]), (.ls .fr), .fr, .fr]) v_1 m.2])) (fun m d => (List.perm_middle (l₁ := []) (l₂ := [rootS K tr_ (.nd (.rc ["kind", "summer", "rows", "figures", "ended"]) [.fr, (.nd (.obj T.C_Summer ns_Summer) [.fr, .fr, (.ls .fr), .fr, .fr]), (.ls .fr), .fr, .fr]) v_1 m.2])).symm)) (σ' := (fun v2 => [some v_0, some v_1, some v1, some v2, none, none, none, none])) (fun _ => rfl) fun v2 x22 => ?_
  refine sv_asgT (fun _ => (List.Sublist.cons₂ _ (List.Sublist.cons₂ _ (List.nil_sublist _)))) (ev_fts rfl (fts_cZq (fun _ _ => trivial) (as_pl (put := (fun (y : D) (m : D × D) => (m.1, y))) (pls_key (i := 1) (pls_var rfl (fun m => List.perm_middle (l₁ := [rootS K tr_ (.ls .fr) v_0 m.1]) (l₂ := []))) (by decide +kernel) rfl rfl) (as_fr (fun _ => List.Sublist.refl _) (ev_var rfl (.head _)) as_nil) (fun m y => (List.perm_middle (l₁ := [rootS K tr_ (.ls .fr) v_0 m.1]) (l₂ := [])).symm)))) fun v3 x21 => tg_tup2 (.head _) fun v5 v6 x7 x8 => tgs_cons (tg_name (σ' := [some v_0, some v_1, some v1, some v2, some v5, none, none, none]) rfl (tgs_cons (tg_name (σ' := [some v_0, some v_1, some v1, some v2, some v5, some v6, none, none]) rfl (tgs_nil (?_)))))
  refine sv_asg (fun _ => (List.Sublist.cons₂ _ (List.Sublist.cons₂ _ (List.nil_sublist _)))) ev_str (σ' := (fun v9 => [some v_0, some v_1, some v1, some v2, some v5, some v6, some v9, none])) (fun _ => rfl) fun v9 x20 => ?_
  refine sv_seq (J1 := (fun (s10 : D) σ' L2 C2 => ∃ (v11 : V), σ' = [some v_0, some v_1, some v1, some v2, some v5, some v6, some v11, none] ∧ L2 = ([(v11, s10)] : List (V × D)) ∧ C2 = (fun m : D × D => [rootS K tr_ (.ls .fr) v_0 m.1, rootS K tr_ (.nd (.rc ["kind", "summer", "rows", "figures", "ended"]) [.fr, (.nd (.obj T.C_Summer ns_Summer) [.fr, .fr, (.ls .fr), .fr, .fr]), (.ls .fr), .fr, .fr]) v_1 m.2]))) (sv_if1 (fun _ => (List.Sublist.cons₂ _ (List.Sublist.cons₂ _ (List.nil_sublist _)))) (tv_tr (ev_plfr (fun m => List.perm_middle (l₁ := [rootS K tr_ (.ls .fr) v_0 m.1]) (l₂ := [])) (pls_key (i := 4) (pls_var rfl (fun m => List.perm_middle (l₁ := [rootS K tr_ (.ls .fr) v_0 m.1]) (l₂ := []))) (by decide +kernel) rfl rfl))) ?_ ?_) ?_
  · refine sv_asg (fun _ => (List.Sublist.cons₂ _ (List.Sublist.cons₂ _ (List.nil_sublist _)))) ev_str (σ' := (fun v12 => [some v_0, some v_1, some v1, some v2, some v5, some v6, some v12, none])) (fun _ => rfl) fun v12 x13 => ?_
    exact sv_nil ⟨v12, rfl, rfl, rfl⟩ (lcons (.head _) lnil)
  · refine sv_if (fun _ => (List.Sublist.cons₂ _ (List.Sublist.cons₂ _ (List.nil_sublist _)))) (tv_and (tv_test (ev_op os_isnt (ev_var rfl (.tail _ (.tail _ (.tail _ (.tail _ (.head _)))))) ev_non)) (tv_test (ev_op os_ne (ev_lc1 (σ2 := fun v14 => [some v_0, some v_1, some v1, some v2, some v5, some v6, some v9, some v14]) (iv_seq (ev_var rfl (.tail _ (.tail _ (.tail _ (.tail _ (.head _))))))) (fun _ => rfl) (fun _ => rfl) (fun v14 x15 => (tv_not (tv_tr (ev_cP (fun _ => u2_len) (av_cons (ev_var rfl (.tail _ (.tail _ (.tail _ (.tail _ (.tail _ (.tail _ (.head _)))))))) (av_cons (ev_var rfl (.head _)) av_nil)))))) (fun v14 x15 => (ev_var rfl (.head _)))) (ev_lst av_nil)))) ?_ ?_
    · refine sv_assoc ?_
      refine sv_asg (fun _ => (List.Sublist.cons₂ _ (List.Sublist.cons₂ _ (List.nil_sublist _)))) ev_str (σ' := (fun v16 => [some v_0, some v_1, some v1, some v2, some v5, some v6, some v16, none])) (fun _ => rfl) fun v16 x17 => ?_
      refine sv_skip ?_
      exact sv_nil ⟨v16, rfl, rfl, rfl⟩ (lcons (.head _) lnil)
    · refine sv_skip ?_
      exact sv_nil ⟨v9, rfl, rfl, rfl⟩ (lcons (.head _) lnil)
  · intro s10 _ _ _ hJ
    obtain ⟨v11, rfl, rfl, rfl⟩ := hJ
    refine sv_if (fun _ => (List.Sublist.cons₂ _ (List.Sublist.cons₂ _ (List.nil_sublist _)))) (tv_or (tv_test (ev_op os_ne (ev_var rfl (.tail _ (.tail _ (.tail _ (.head _))))) (ev_var rfl (.head _)))) (tv_test (ev_op os_ne (ev_op os_is (ev_var rfl (.tail _ (.tail _ (.head _)))) ev_non) (ev_op os_ne (ev_var rfl (.head _)) ev_str)))) ?_ ?_
    · refine sv_assoc ?_
      exact sv_retS (fun _ => (List.Sublist.cons₂ _ (List.Sublist.cons₂ _ (List.nil_sublist _)))) (fts_fr ev_bl)
    · refine sv_skip ?_
      refine sv_seq (J1 := (fun (s18 : Unit) σ' L2 C2 => σ' = [some v_0, some v_1, some v1, some v2, some v5, some v6, some v11, none] ∧ L2 = ([] : List (V × D)) ∧ C2 = (fun m : D × D => [rootS K tr_ (.ls .fr) v_0 m.1, rootS K tr_ (.nd (.rc ["kind", "summer", "rows", "figures", "ended"]) [.fr, (.nd (.obj T.C_Summer ns_Summer) [.fr, .fr, (.ls .fr), .fr, .fr]), (.ls .fr), .fr, .fr]) v_1 m.2]))) (sv_if1 (fun _ => (List.Sublist.cons₂ _ (List.Sublist.cons₂ _ (List.nil_sublist _)))) (tv_test (ev_op os_eq (ev_var rfl (.head _)) ev_str)) ?_ ?_) ?_
      · refine sv_ksetS (i := 3) (C2 := (fun m : D × D => [rootS K tr_ (.ls .fr) v_0 m.1, rootS K tr_ (.nd (.rc ["kind", "summer", "rows", "figures", "ended"]) [.fr, (.nd (.obj T.C_Summer ns_Summer) [.fr, .fr, (.ls .fr), .fr, .fr]), (.ls .fr), .fr, .fr]) v_1 m.2])) (put := (fun (y : D) (m : D × D) => (m.1, y))) (fun _ => (List.Sublist.cons₂ _ (List.Sublist.cons₂ _ (List.nil_sublist _)))) (fts_fr (ev_op os_add (ev_plfr (fun m => List.perm_middle (l₁ := [rootS K tr_ (.ls .fr) v_0 m.1]) (l₂ := [])) (pls_key (i := 3) (pls_var rfl (fun m => List.perm_middle (l₁ := [rootS K tr_ (.ls .fr) v_0 m.1]) (l₂ := []))) (by decide +kernel) rfl rfl)) (ev_var rfl (.tail _ (.tail _ (.head _)))))) (pls_var rfl (fun m => List.perm_middle (l₁ := [rootS K tr_ (.ls .fr) v_0 m.1]) (l₂ := []))) (by decide +kernel) rfl (by decide) rfl (fun m d => (List.perm_middle (l₁ := [rootS K tr_ (.ls .fr) v_0 m.1]) (l₂ := [])).symm) ?_
        refine sv_if (fun _ => (List.Sublist.cons₂ _ (List.Sublist.cons₂ _ (List.nil_sublist _)))) (tv_test (ev_op os_is (ev_var rfl (.tail _ (.tail _ (.tail _ (.tail _ (.tail _ (.head _))))))) ev_non)) ?_ ?_
        · refine sv_assoc ?_
          refine sv_ksetS (i := 4) (C2 := (fun m : D × D => [rootS K tr_ (.ls .fr) v_0 m.1, rootS K tr_ (.nd (.rc ["kind", "summer", "rows", "figures", "ended"]) [.fr, (.nd (.obj T.C_Summer ns_Summer) [.fr, .fr, (.ls .fr), .fr, .fr]), (.ls .fr), .fr, .fr]) v_1 m.2])) (put := (fun (y : D) (m : D × D) => (m.1, y))) (fun _ => (List.Sublist.cons₂ _ (List.Sublist.cons₂ _ (List.nil_sublist _)))) (fts_fr ev_bl) (pls_var rfl (fun m => List.perm_middle (l₁ := [rootS K tr_ (.ls .fr) v_0 m.1]) (l₂ := []))) (by decide +kernel) rfl (by decide) rfl (fun m d => (List.perm_middle (l₁ := [rootS K tr_ (.ls .fr) v_0 m.1]) (l₂ := [])).symm) ?_
          refine sv_skip ?_
          exact sv_nil ⟨rfl, rfl, rfl⟩ lnil
        · refine sv_assoc ?_
          refine sv_appS (C2 := (fun m : D × D => [rootS K tr_ (.ls .fr) v_0 m.1, rootS K tr_ (.nd (.rc ["kind", "summer", "rows", "figures", "ended"]) [.fr, (.nd (.obj T.C_Summer ns_Summer) [.fr, .fr, (.ls .fr), .fr, .fr]), (.ls .fr), .fr, .fr]) v_1 m.2])) (put := (fun (y : D) (m : D × D) => (m.1, y))) (pls_key (i := 2) (pls_var rfl (fun m => List.perm_middle (l₁ := [rootS K tr_ (.ls .fr) v_0 m.1]) (l₂ := []))) (by decide +kernel) rfl rfl) (fts_fr (ev_var rfl (.tail _ (.tail _ (.tail _ (.tail _ (.tail _ (.head _)))))))) (SM.pr_keep _) (fun m d => (List.perm_middle (l₁ := [rootS K tr_ (.ls .fr) v_0 m.1]) (l₂ := [])).symm) ?_
          refine sv_skip ?_
          exact sv_nil ⟨rfl, rfl, rfl⟩ lnil
      · exact sv_nil ⟨rfl, rfl, rfl⟩ lnil
      · intro s18 _ _ _ hJ
        obtain ⟨rfl, rfl, rfl⟩ := hJ
        exact sv_retS (fun _ => (List.Sublist.cons₂ _ (List.Sublist.cons₂ _ (List.nil_sublist _)))) (fts_fr (ev_op os_eq (ev_fts rfl (fts_meth (fts_cZq (fun _ _ => trivial) (as_rpl (put := (fun (y : D) (m : D × D) => (m.1, y))) (m0 := "told") nm_Summer_told (pls_key (i := 1) (pls_var rfl (fun m => List.perm_middle (l₁ := [rootS K tr_ (.ls .fr) v_0 m.1]) (l₂ := []))) (by decide +kernel) rfl rfl) as_nil (fun m y => (List.perm_middle (l₁ := [rootS K tr_ (.ls .fr) v_0 m.1]) (l₂ := [])).symm))))) (ev_plfr (fun m => List.perm_middle (l₁ := [rootS K tr_ (.ls .fr) v_0 m.1]) (l₂ := [])) (pls_key (i := 3) (pls_var rfl (fun m => List.perm_middle (l₁ := [rootS K tr_ (.ls .fr) v_0 m.1]) (l₂ := []))) (by decide +kernel) rfl rfl))))
set_option maxHeartbeats 0 in
theorem ok__law_sums_right (T : Txt K mg) : FnOk P w K mg base (L2N.CX P w) 4 T.a__law_sums_right T.fd__law_sums_right ["own"] (SpZ K (rootX T.exs) [true] [(.nd (.rc ["kind", "summer", "rows", "figures", "ended"]) [.fr, (.nd (.obj T.C_Summer ns_Summer) [.fr, .fr, (.ls .fr), .fr, .fr]), (.ls .fr), .fr, .fr])] [true] .fr (u0 m__law_sums_right)) := by
  refine okN T.F__law_sums_right sc__law_sums_right (fun vs H Q E h => h.1) (fun cdv A outer s H vs Q E hr h => ?_)
  refine ⟨_, (pss_cons (ps_if (pt_not (pt_truth (pe_dget hr.units1 (pv 0) pe_str (fun _ _ => rfl)) (by intro _; rfl))) (pss_cons (ps_dput hr.units1 (pv 0) pe_str (pe_op op_addU (pe_dget hr.units1 (pv 0) pe_str (fun _ _ => rfl)) (pe_meth0 (pe_dget hr.units1 (pv 0) pe_str (fun _ _ => rfl)) T.c_Summer T.h_Summer_end (ok_Summer_end T) (hr.mono (by decide)) T.b_Summer_end .nil (L2N.passes_call (L2N.takes_of rfl rfl rfl rfl) fun _ _ _ _ h => h))) rfl)
      pss_nil) pss_nil)
      (pss_cons (ps_set (i := 1) sc__law_sums_right.nd rfl (Or.inl rfl) (pe_callB (cr_sum rfl) (by rfl) T.z_sum (by decide +kernel) (pa_cons (pe_lc (own := [("k", 2)]) (g := (gName 2)) (tt := tYes) rfl sc__law_sums_right.nd (pi_range1 (by rfl) T.z_range (pa_cons pe_int pa_nil)) (blkOk_by (own := [("k", 2)]) (N := ["own", "total", "k", "pair"]) (sc := defScope s__law_sums_right) (by decide +kernel)) (fun _ _ _ _ _ => (pg_name (i := 2) sc__law_sums_right.nd rfl (Or.inr rfl))) (fun _ _ _ _ _ => pts_nil) (fun _ _ _ _ _ => (pe_call (ok__law_worth T) (hr.mono (by decide)) (by exact rfl) T.m__law_worth T.F__law_worth.kp T.b__law_worth .nil pass0 (pa_cons (pe_dget hr.units1 (pv 0) pe_str (fun _ _ => rfl)) (pa_cons (pe_lc (own := [("pair", 3)]) (g := (gName 3)) (tt := tYes) rfl sc__law_sums_right.nd (show PI _ _ _ (iSeq K _) from pi_seq (pe_dget hr.units1 (pv 0) pe_str (fun _ _ => rfl))) (blkOk_by (own := [("pair", 3)]) (N := ["own", "total", "k", "pair"]) (sc := { kind := PySem.ScopeKind.function, names := [ (PySem.Str.ofString ".0", PySem.NameKind.local), (PySem.Str.ofString "k", PySem.NameKind.cell), (PySem.Str.ofString "_law_worth", PySem.NameKind.globalImplicit), (PySem.Str.ofString "own", PySem.NameKind.cell)], isGenerator := false, isCoroutine := false, more := [] : PySem.Scope }) (by decide +kernel)) (fun _ _ _ _ _ => (pg_name (i := 3) sc__law_sums_right.nd rfl (Or.inl rfl))) (fun _ _ _ _ _ => pts_nil) (fun _ _ _ _ _ => (pe_ix (show IxR _ (rIx K) from ix_seq) (pv 3) (pv 2) (fun _ _ => rfl)))) pa_nil))))) pa_nil)))
      (pss_cons (ps_ret (pe_and (pe_cmpR (op_eqD hr.units) (pe_callB call_len (by rfl) T.z_len (by decide +kernel) (pa_cons (pe_dget hr.units1 (pv 0) pe_str (fun _ _ => rfl)) pa_nil)) (pe_op op_addU (pe_callB call_len (by rfl) T.z_len (by decide +kernel) (pa_cons (pe_dget hr.units1 (pv 0) pe_str (fun _ _ => rfl)) pa_nil)) pe_int) (nomark _)) (pe_one (pe_cmpR (op_eqD hr.units) (pe_call (ok__law_worth T) (hr.mono (by decide)) rfl T.m__law_worth T.F__law_worth.kp T.b__law_worth .nil pass0 (pa_cons (pe_dget hr.units1 (pv 0) pe_str (fun _ _ => rfl)) (pa_cons (pe_dget hr.units1 (pv 0) pe_str (fun _ _ => rfl)) pa_nil))) (pv 1) (nomark _)))))
      pss_nil))), body_Z h (fun ts : List D => ((ts.getD 0 .none) : D)) (fun m : D => [m]) (fun _ => rfl) fun us ws ds O mx0 hl1 hl2 => ?_⟩
  obtain ⟨v_0, vs_0, ws_0, rfl, rfl, mx1⟩ := mx0.tr_inv
  obtain ⟨rfl, rfl, rfl⟩ := mx1.nil_inv
  match ds, hl1 with
  | [], _ =>
  refine ⟨(fun m : D => [rootS K tr_ (.nd (.rc ["kind", "summer", "rows", "figures", "ended"]) [.fr, (.nd (.obj T.C_Summer ns_Summer) [.fr, .fr, (.ls .fr), .fr, .fr]), (.ls .fr), .fr, .fr]) v_0 m]), _, rfl, (by intro ts ht; match ts, ht with | [t_0], _ => rfl), ?_⟩
  refine sv_cp (Cp' := (fun m : D => [rootS K tr_ (.nd (.rc ["kind", "summer", "rows", "figures", "ended"]) [.fr, (.nd (.obj T.C_Summer ns_Summer) [.fr, .fr, (.ls .fr), .fr, .fr]), (.ls .fr), .fr, .fr]) v_0 m])) rfl ?_
  refine sv_st (σ' := [some v_0, none, none, none]) rfl ?_
  refine sv_seq (J1 := (fun (s1 : Unit) σ' L2 C2 => σ' = [some v_0, none, none, none] ∧ L2 = ([] : List (V × D)) ∧ C2 = (fun m : D => [rootS K tr_ (.nd (.rc ["kind", "summer", "rows", "figures", "ended"]) [.fr, (.nd (.obj T.C_Summer ns_Summer) [.fr, .fr, (.ls .fr), .fr, .fr]), (.ls .fr), .fr, .fr]) v_0 m]))) (sv_if1 (fun _ => (List.Sublist.cons₂ _ (List.nil_sublist _))) (tv_not (tv_tr (ev_plfr (fun m => List.perm_middle (l₁ := []) (l₂ := [])) (pls_key (i := 4) (pls_var rfl (fun m => List.perm_middle (l₁ := []) (l₂ := []))) (by decide +kernel) rfl rfl)))) ?_ ?_) ?_
  · refine sv_ksetS (i := 3) (C2 := (fun m : D => [rootS K tr_ (.nd (.rc ["kind", "summer", "rows", "figures", "ended"]) [.fr, (.nd (.obj T.C_Summer ns_Summer) [.fr, .fr, (.ls .fr), .fr, .fr]), (.ls .fr), .fr, .fr]) v_0 m])) (put := (fun (y : D) (_m : D) => y)) (fun _ => (List.Sublist.cons₂ _ (List.nil_sublist _))) (fts_fr (ev_op os_add (ev_plfr (fun m => List.perm_middle (l₁ := []) (l₂ := [])) (pls_key (i := 3) (pls_var rfl (fun m => List.perm_middle (l₁ := []) (l₂ := []))) (by decide +kernel) rfl rfl)) (ev_fts rfl (fts_meth (fts_cZ (fun _ _ => trivial) (as_rpl (put := (fun (y : D) (_m : D) => y)) (m0 := "end") nm_Summer_end (pls_key (i := 1) (pls_var rfl (fun m => List.perm_middle (l₁ := []) (l₂ := []))) (by decide +kernel) rfl rfl) as_nil (fun m y => (List.perm_middle (l₁ := []) (l₂ := [])).symm))))))) (pls_var rfl (fun m => List.perm_middle (l₁ := []) (l₂ := []))) (by decide +kernel) rfl (by decide) rfl (fun m d => (List.perm_middle (l₁ := []) (l₂ := [])).symm) ?_
    exact sv_nil ⟨rfl, rfl, rfl⟩ lnil
  · exact sv_nil ⟨rfl, rfl, rfl⟩ lnil
  · intro s1 _ _ _ hJ
    obtain ⟨rfl, rfl, rfl⟩ := hJ
    refine sv_asg (fun _ => (List.Sublist.cons₂ _ (List.nil_sublist _))) (ev_rdr (A := (fun m : D => [rootS K tr_ (.nd (.rc ["kind", "summer", "rows", "figures", "ended"]) [.fr, (.nd (.obj T.C_Summer ns_Summer) [.fr, .fr, (.ls .fr), .fr, .fr]), (.ls .fr), .fr, .fr]) v_0 m])) (Z := (fun m : D => [])) (CF := fun m : D => [rootF K (.nd (.rc ["kind", "summer", "rows", "figures", "ended"]) [.fr, (.nd (.obj T.C_Summer ns_Summer) [.fr, .fr, (.ls .fr), .fr, .fr]), (.ls .fr), .fr, .fr]) v_0 m]) (fun m => (.refl _)) (fun m => (.cons .nil)) (fun m O' => (ev_cb cs_sum (av_cons (ev_lc1 (σ2 := fun v2 => [some v_0, none, some v2, none]) (iv_rng1 (av_cons ev_int av_nil)) (fun _ => rfl) (fun _ => rfl) (fun v2 x5 => tv_yes) (fun v2 x5 => (ev_cP (fun _ => u2_len) (av_cons (ev_pf rfl (pf_key (i := 0) (pf_var rfl (fun _ => (.head _))) (by decide +kernel) rfl rfl)) (av_cons (ev_lc1 (σ2 := fun v3 => [some v_0, none, some v2, some v3]) (iv_seq (ev_pf rfl (pf_key (i := 2) (pf_var rfl (fun _ => (.head _))) (by decide +kernel) rfl rfl))) (fun _ => rfl) (fun _ => rfl) (fun v3 x4 => tv_yes) (fun v3 x4 => (ev_op os_idx (ev_var rfl (.head _)) (ev_var rfl (.tail _ (.head _)))))) av_nil))))) av_nil)))) (σ' := (fun v6 => [some v_0, some v6, none, none])) (fun _ => rfl) fun v6 x7 => ?_
    exact sv_retS (fun _ => (List.Sublist.cons₂ _ (List.nil_sublist _))) (fts_fr (ev_rdr (A := (fun m : D => [rootS K tr_ (.nd (.rc ["kind", "summer", "rows", "figures", "ended"]) [.fr, (.nd (.obj T.C_Summer ns_Summer) [.fr, .fr, (.ls .fr), .fr, .fr]), (.ls .fr), .fr, .fr]) v_0 m])) (Z := (fun m : D => [])) (CF := fun m : D => [rootF K (.nd (.rc ["kind", "summer", "rows", "figures", "ended"]) [.fr, (.nd (.obj T.C_Summer ns_Summer) [.fr, .fr, (.ls .fr), .fr, .fr]), (.ls .fr), .fr, .fr]) v_0 m]) (fun m => (.refl _)) (fun m => (.cons .nil)) (fun m O' => (ev_and (ev_op os_eq (ev_cb cs_len (av_cons (ev_pf rfl (pf_key (i := 3) (pf_var rfl (fun _ => (.head _))) (by decide +kernel) rfl rfl)) av_nil)) (ev_op os_add (ev_cb cs_len (av_cons (ev_pf rfl (pf_key (i := 2) (pf_var rfl (fun _ => (.head _))) (by decide +kernel) rfl rfl)) av_nil)) ev_int)) (ev_op os_eq (ev_cP (fun _ => u2_len) (av_cons (ev_pf rfl (pf_key (i := 0) (pf_var rfl (fun _ => (.head _))) (by decide +kernel) rfl rfl)) (av_cons (ev_pf rfl (pf_key (i := 3) (pf_var rfl (fun _ => (.head _))) (by decide +kernel) rfl rfl)) av_nil))) (ev_var rfl (.head _)))))))
set_option maxHeartbeats 0 in
theorem ok_law_of (T : Txt K mg) (hm : ∀ ns : List Int, ns.length ≤ 63 → (∀ z ∈ ns, Builtin.Int.intBits z ≤ 1048576) → ∃ m', m_law (scrD (ns.map .int)) (.none, .none) = .ok (.bool true) m') : FnOk P w K mg base CX0 11 T.a_law T.fd_law ["script"] (sp_law K) := by
  refine T.F_law.ok sc_law (fun vs H Q E h => by obtain ⟨a, ns, rfl, _⟩ := h; rfl) (fun cdv A outer s H vs Q E hr h => ?_)
  refine ⟨_, (pss_cons (ps_set (i := 1) sc_law.nd rfl (Or.inl rfl) (pe_call (ok__law_deck T) (hr.mono (by decide)) rfl T.m__law_deck T.F__law_deck.kp T.b__law_deck .nil pass0 (pa_cons (pe_ix ix_seq (pe_op op_addU (pv 0) (pe_lst (pa_cons pe_int pa_nil))) pe_int (fun _ _ => rfl)) (pa_cons pe_int pa_nil))))
      (pss_cons (ps_set (i := 2) sc_law.nd rfl (Or.inl rfl) (pe_lst pa_nil))
      (pss_cons (ps_for PassesOwn.never rfl (pi_range1 (by rfl) T.z_range (pa_cons pe_int pa_nil)) (pg_name (i := 3) sc_law.nd rfl (Or.inl rfl)) (pss_cons (ps_set (i := 4) sc_law.nd rfl (Or.inl rfl) (pe_call (ok__law_kind T) (hr.mono (by decide)) rfl T.m__law_kind T.F__law_kind.kp T.b__law_kind .nil pass0 (pa_cons (pv 1) pa_nil)))
      (pss_cons (ps_expr (pe_bm PySem.F.plainAttrs_list PySem.F.slot_list_append PySem.F.type_list_append mt_append (pv 2) (pa_cons (pe_disp (pps_cons pe_str (pv 4) (pps_cons pe_str (pe_make T.k_Summer (ok_Summer_init T) (hr.mono (by decide)) rfl T.g_Summer T.b_Summer_init .nil pass0 (pa_cons (pv 4) pa_nil)) (pps_cons pe_str (pe_lst pa_nil) (pps_cons pe_str (pe_lst pa_nil) (pps_cons pe_str pe_bl pps_nil))))) rfl rfl (by simp) (by decide)) pa_nil)))
      pss_nil)))
      (pss_cons (ps_for PassesOwn.never rfl (pi_seq (pe_op op_addU (pe_slice sl_u (pv 0) (po_some pe_int) (po_some pe_int)) (pe_lst (pa_cons pe_int pa_nil)))) (pg_name (i := 5) sc_law.nd rfl (Or.inl rfl)) (pss_cons (ps_set (i := 1) sc_law.nd rfl (Or.inl rfl) (pe_call (ok__law_deck T) (hr.mono (by decide)) rfl T.m__law_deck T.F__law_deck.kp T.b__law_deck .nil pass0 (pa_cons (pv 5) (pa_cons pe_int pa_nil))))
      (pss_cons (ps_if (pt_not (pt_truth (pe_call (ok__law_one_right T) (hr.mono (by decide)) rfl T.m__law_one_right T.F__law_one_right.kp T.b__law_one_right .nil pass0 (pa_cons (pv 1) (pa_cons (pe_ix ix_seq (pv 2) (pe_callTy call_int1 (by rfl) T.z_int (by decide +kernel) (pa_cons (pe_cmpR (op_eqD hr.units) (pe_call (ok__law_pick T) (hr.mono (by decide)) rfl T.m__law_pick T.F__law_pick.kp T.b__law_pick .nil pass0 (pa_cons (pv 1) (pa_cons pe_int pa_nil))) pe_int (nomark _)) pa_nil)) (fun _ _ => rfl)) pa_nil))) (by intro _; rfl))) (pss_cons (ps_ret pe_bl)
      pss_nil) pss_nil)
      pss_nil)))
      (pss_cons (ps_ret (pe_and (pe_call (ok__law_sums_right T) (hr.mono (by decide)) rfl T.m__law_sums_right T.F__law_sums_right.kp T.b__law_sums_right .nil passN0 (pa_cons (pe_ix ix_seq (pv 2) pe_int (fun _ _ => rfl)) pa_nil)) (pe_one (pe_call (ok__law_sums_right T) (hr.mono (by decide)) rfl T.m__law_sums_right T.F__law_sums_right.kp T.b__law_sums_right .nil passN0 (pa_cons (pe_ix ix_seq (pv 2) pe_int (fun _ _ => rfl)) pa_nil)))))
      pss_nil))))), body_lawZ m_law (.none, .none) h hm fun v_0 x_0 O hv => ?_⟩
  subst hv
  refine ⟨_, rfl, ?_⟩
  refine sv_st (σ' := [some v_0, none, none, none, none, none]) rfl ?_
  refine sv_asgS (put := (fun (y : D) (m : D × D) => (y, m.2))) (C2 := fun v1 => (fun m : D × D => [rootS K (fun q => q ∉ O.fp) (.ls .fr) v1 m.1])) (fun _ => (List.nil_sublist _)) (fts_fv (fv_call (fun _ => u2_len) (av_cons (ev_op os_idx (ev_op os_add (ev_var rfl (.head _)) (ev_lst (av_cons ev_int av_nil))) ev_int) (av_cons ev_int av_nil)))) (σ' := fun v1 => [some v_0, some v1, none, none, none, none]) (fun _ => rfl) (fun v1 x m => (List.perm_append_singleton _ []).symm) fun v1 => ?_
  refine sv_asgS (put := (fun (y : D) (m : D × D) => (m.1, y))) (C2 := fun v2 => (fun m : D × D => [rootS K (fun q => q ∉ O.fp) (.ls .fr) v1 m.1, rootS K (fun q => q ∉ O.fp) (.ls (.nd (.rc ["kind", "summer", "rows", "figures", "ended"]) [.fr, (.nd (.obj T.C_Summer ns_Summer) [.fr, .fr, (.ls .fr), .fr, .fr]), (.ls .fr), .fr, .fr])) v2 m.2])) (fun _ => (List.nil_sublist _)) (fts_ls (by simp) (by simp) (by decide) rfl (fun _ h => h) as_nil) (σ' := fun v2 => [some v_0, some v1, some v2, none, none, none]) (fun _ => rfl) (fun v2 x m => (List.perm_append_singleton _ [rootS K (fun q => q ∉ O.fp) (.ls .fr) v1 m.1]).symm) fun v2 => ?_
  refine sv_seq (J1 := (fun (s3 : Unit) σ' L2 C2 => ∃ (v4 : V) (o5 : Option V) (o6 : Option V), σ' = [some v_0, some v1, some v4, o6, o5, none] ∧ L2 = ([] : List (V × D)) ∧ C2 = (fun m : D × D => [rootS K (fun q => q ∉ O.fp) (.ls .fr) v1 m.1, rootS K (fun q => q ∉ O.fp) (.ls (.nd (.rc ["kind", "summer", "rows", "figures", "ended"]) [.fr, (.nd (.obj T.C_Summer ns_Summer) [.fr, .fr, (.ls .fr), .fr, .fr]), (.ls .fr), .fr, .fr])) v4 m.2]))) (sv_for (fun _ => (List.nil_sublist _)) (iv_rng1 (av_cons ev_int av_nil)) ⟨v2, none, none, rfl, rfl, rfl⟩ lnil (by intro s3 _ _ _ hJ; obtain ⟨v4, o5, o6, rfl, rfl, rfl⟩ := hJ; exact (fun _ => (List.nil_sublist _))) ?_) ?_
  · intro s3 _ _ _ hJ v7 x8
    obtain ⟨v4, o5, o6, rfl, rfl, rfl⟩ := hJ
    refine tg_name (σ' := [some v_0, some v1, some v4, some v7, o5, none]) rfl (?_)
    refine sv_asg (fun _ => (List.nil_sublist _)) (ev_cDS (get := (fun m : D × D => m.1)) (put := (fun (y : D) (m : D × D) => (y, m.2))) rfl (fun _ _ => u0_len) av_nil (fun m => List.perm_middle (l₁ := []) (l₂ := [rootS K (fun q => q ∉ O.fp) (.ls (.nd (.rc ["kind", "summer", "rows", "figures", "ended"]) [.fr, (.nd (.obj T.C_Summer ns_Summer) [.fr, .fr, (.ls .fr), .fr, .fr]), (.ls .fr), .fr, .fr])) v4 m.2])) (fun m d => (List.perm_middle (l₁ := []) (l₂ := [rootS K (fun q => q ∉ O.fp) (.ls (.nd (.rc ["kind", "summer", "rows", "figures", "ended"]) [.fr, (.nd (.obj T.C_Summer ns_Summer) [.fr, .fr, (.ls .fr), .fr, .fr]), (.ls .fr), .fr, .fr])) v4 m.2])).symm)) (σ' := (fun v9 => [some v_0, some v1, some v4, some v7, some v9, none])) (fun _ => rfl) fun v9 x10 => ?_
    refine sv_appS (C2 := (fun m : D × D => [rootS K (fun q => q ∉ O.fp) (.ls .fr) v1 m.1, rootS K (fun q => q ∉ O.fp) (.ls (.nd (.rc ["kind", "summer", "rows", "figures", "ended"]) [.fr, (.nd (.obj T.C_Summer ns_Summer) [.fr, .fr, (.ls .fr), .fr, .fr]), (.ls .fr), .fr, .fr])) v4 m.2])) (put := (fun (y : D) (m : D × D) => (m.1, y))) (pls_var rfl (fun m => List.perm_middle (l₁ := [rootS K (fun q => q ∉ O.fp) (.ls .fr) v1 m.1]) (l₂ := []))) (fts_rc (ks := ["kind", "summer", "rows", "figures", "ended"]) (es := [_, _, _, _, _]) rfl rfl (by simp) (by simp) rfl (by decide) (by decide +kernel) (fun _ h => h) (as_ft (bb := false) (fun _ => List.Sublist.refl _) (fts_fr (ev_var rfl (.head _))) (as_ft (bb := false) (fun _ => List.Sublist.refl _) (fts_mkZ0 (fun _ h => h) (by simp) (as_fr (fun _ => List.Sublist.refl _) (ev_var rfl (.head _)) as_nil)) (as_ft (bb := false) (fun _ => List.Sublist.refl _) (fts_fv (fv_lst av_nil)) (as_ft (bb := false) (fun _ => List.Sublist.refl _) (fts_fr (ev_lst av_nil)) (as_ft (bb := false) (fun _ => List.Sublist.refl _) (fts_fr ev_bl) as_nil))))) (fun _ => List.Sublist.refl _)) (SM.pr_keep _) (fun m d => (List.perm_middle (l₁ := [rootS K (fun q => q ∉ O.fp) (.ls .fr) v1 m.1]) (l₂ := [])).symm) ?_
    exact sv_nil ⟨v4, (some v9), (some v7), rfl, rfl, rfl⟩ lnil
  · intro s3 _ _ _ hJ
    obtain ⟨v4, o5, o6, rfl, rfl, rfl⟩ := hJ
    refine sv_seq (J1 := (fun (s11 : Unit) σ' L2 C2 => ∃ (v12 : V) (o13 : Option V), σ' = [some v_0, some v12, some v4, o6, o5, o13] ∧ L2 = ([] : List (V × D)) ∧ C2 = (fun m : D × D => [rootS K (fun q => q ∉ O.fp) (.ls .fr) v12 m.1, rootS K (fun q => q ∉ O.fp) (.ls (.nd (.rc ["kind", "summer", "rows", "figures", "ended"]) [.fr, (.nd (.obj T.C_Summer ns_Summer) [.fr, .fr, (.ls .fr), .fr, .fr]), (.ls .fr), .fr, .fr])) v4 m.2]))) (sv_for (fun _ => (List.nil_sublist _)) (iv_seq (ev_op os_add (ev_slice (ev_var rfl (.head _)) (pv_some ev_int) (pv_some ev_int)) (ev_lst (av_cons ev_int av_nil)))) ⟨v1, none, rfl, rfl, rfl⟩ lnil (by intro s11 _ _ _ hJ; obtain ⟨v12, o13, rfl, rfl, rfl⟩ := hJ; exact (fun _ => (List.nil_sublist _))) ?_) ?_
    · intro s11 _ _ _ hJ v14 x15
      obtain ⟨v12, o13, rfl, rfl, rfl⟩ := hJ
      refine tg_name (σ' := [some v_0, some v12, some v4, o6, o5, some v14]) rfl (?_)
      refine sv_asgS (put := (fun (y : D) (m : D × D) => (y, m.2))) (C2 := fun v16 => (fun m : D × D => [rootS K (fun q => q ∉ O.fp) (.ls (.nd (.rc ["kind", "summer", "rows", "figures", "ended"]) [.fr, (.nd (.obj T.C_Summer ns_Summer) [.fr, .fr, (.ls .fr), .fr, .fr]), (.ls .fr), .fr, .fr])) v4 m.2, rootS K (fun q => q ∉ O.fp) (.ls .fr) v16 m.1])) (fun _ => (List.nil_sublist _)) (fts_drop (fts_fv (fv_call (fun _ => u2_len) (av_cons (ev_var rfl (.head _)) (av_cons ev_int av_nil)))) (fun m => (.cons _ (.cons₂ _ .slnil)))) (σ' := fun v16 => [some v_0, some v16, some v4, o6, o5, some v14]) (fun _ => rfl) (fun v16 x m => (List.perm_append_singleton _ [rootS K (fun q => q ∉ O.fp) (.ls (.nd (.rc ["kind", "summer", "rows", "figures", "ended"]) [.fr, (.nd (.obj T.C_Summer ns_Summer) [.fr, .fr, (.ls .fr), .fr, .fr]), (.ls .fr), .fr, .fr])) v4 m.2]).symm) fun v16 => ?_
      refine sv_if (fun _ => (List.nil_sublist _)) (tv_not (tv_tr (ev_fts rfl (fts_cZq (fun _ h => h) (as_var (get := (fun m : D × D => m.1)) (put := (fun (y : D) (m : D × D) => (y, m.2))) rfl (as_pl (put := (fun (y : D) (m : D × D) => (m.1, y))) (pls_ixv rfl (fun m => List.perm_middle (l₁ := []) (l₂ := [rootS K (fun q => q ∉ O.fp) (.ls .fr) v16 m.1])) (ev_cb cs_int (av_cons (ev_op os_eq (ev_cDS (get := (fun m : D × D => m.1)) (put := (fun (y : D) (m : D × D) => (y, m.2))) rfl (fun _ _ => u1_len) (av_cons ev_int av_nil) (fun m => List.perm_middle (l₁ := [rootS K (fun q => q ∉ O.fp) (.ls (.nd (.rc ["kind", "summer", "rows", "figures", "ended"]) [.fr, (.nd (.obj T.C_Summer ns_Summer) [.fr, .fr, (.ls .fr), .fr, .fr]), (.ls .fr), .fr, .fr])) v4 m.2]) (l₂ := [])) (fun m d => (List.perm_middle (l₁ := [rootS K (fun q => q ∉ O.fp) (.ls (.nd (.rc ["kind", "summer", "rows", "figures", "ended"]) [.fr, (.nd (.obj T.C_Summer ns_Summer) [.fr, .fr, (.ls .fr), .fr, .fr]), (.ls .fr), .fr, .fr])) v4 m.2]) (l₂ := [])).symm)) ev_int) av_nil))) as_nil (fun m y => (List.perm_middle (l₁ := []) (l₂ := [rootS K (fun q => q ∉ O.fp) (.ls .fr) v16 m.1])).symm)) (fun m => List.perm_middle (l₁ := []) (l₂ := [])) (fun m y => (List.perm_middle (l₁ := []) (l₂ := [])).symm)))))) ?_ ?_
      · refine sv_assoc ?_
        exact sv_ret (fun _ => (List.nil_sublist _)) ev_bl
      · refine sv_skip ?_
        refine sv_drop (C' := (fun m : D × D => [rootS K (fun q => q ∉ O.fp) (.ls (.nd (.rc ["kind", "summer", "rows", "figures", "ended"]) [.fr, (.nd (.obj T.C_Summer ns_Summer) [.fr, .fr, (.ls .fr), .fr, .fr]), (.ls .fr), .fr, .fr])) v4 m.2, rootS K (fun q => q ∉ O.fp) (.ls .fr) v16 m.1])) (fun _ => List.Sublist.refl _) ?_
        refine sv_perm (C' := (fun m : D × D => [rootS K (fun q => q ∉ O.fp) (.ls .fr) v16 m.1, rootS K (fun q => q ∉ O.fp) (.ls (.nd (.rc ["kind", "summer", "rows", "figures", "ended"]) [.fr, (.nd (.obj T.C_Summer ns_Summer) [.fr, .fr, (.ls .fr), .fr, .fr]), (.ls .fr), .fr, .fr])) v4 m.2])) (fun m => ((List.perm_middle (l₁ := [rootS K (fun q => q ∉ O.fp) (.ls (.nd (.rc ["kind", "summer", "rows", "figures", "ended"]) [.fr, (.nd (.obj T.C_Summer ns_Summer) [.fr, .fr, (.ls .fr), .fr, .fr]), (.ls .fr), .fr, .fr])) v4 m.2]) (l₂ := [])).trans (List.Perm.cons _ (.refl _)))) ?_
        exact sv_nil ⟨v16, (some v14), rfl, rfl, rfl⟩ lnil
    · intro s11 _ _ _ hJ
      obtain ⟨v12, o13, rfl, rfl, rfl⟩ := hJ
      exact sv_ret (fun _ => (List.nil_sublist _)) (ev_and (ev_fts rfl (fts_cZ0 (fun _ h => h) (as_pl (put := (fun (y : D) (m : D × D) => (m.1, y))) (pls_ixc (c := 0) (pls_var rfl (fun m => List.perm_middle (l₁ := [rootS K (fun q => q ∉ O.fp) (.ls .fr) v12 m.1]) (l₂ := []))) rfl rfl) as_nil (fun m y => (List.perm_middle (l₁ := [rootS K (fun q => q ∉ O.fp) (.ls .fr) v12 m.1]) (l₂ := [])).symm)))) (ev_fts rfl (fts_cZ0 (fun _ h => h) (as_pl (put := (fun (y : D) (m : D × D) => (m.1, y))) (pls_ixc (c := 1) (pls_var rfl (fun m => List.perm_middle (l₁ := [rootS K (fun q => q ∉ O.fp) (.ls .fr) v12 m.1]) (l₂ := []))) rfl rfl) as_nil (fun m y => (List.perm_middle (l₁ := [rootS K (fun q => q ∉ O.fp) (.ls .fr) v12 m.1]) (l₂ := [])).symm)))))
end
/-! ### reckoning with mirrors -/
/-- a proof that simp does not take for rfl -/
theorem nr {α : Type} {a b : α} (h : a = b) : a = b := h
theorem r_bd {μ α β : Type} (a : α) (f : α → SM μ β) : bd (pu a) f = f a := nr rfl
theorem r_as {μ α β γ : Type} (x : SM μ α) (f : α → SM μ β) (g : β → SM μ γ) : bd (bd x f) g = bd x fun a => bd (f a) g := bd_assoc x f g
theorem r_op2 {μ : Type} {f : D → D → Option D} (a b : D) : (op2 f (pu a) (pu b) : SM μ D) = of (f a b) := nr rfl
theorem r_op1 {μ : Type} {f : D → Option D} (a : D) : (op1 f (pu a) : SM μ D) = of (f a) := nr rfl
theorem r_opL {μ : Type} {f : List D → Option D} (l : List D) : (opL f (pu l) : SM μ D) = of (f l) := nr rfl
theorem r_ac {μ : Type} (a : D) (l : List D) : (ac (pu a) (pu l) : SM μ (List D)) = pu (a :: l) := nr rfl
theorem r_a0 {μ : Type} : (a0 : SM μ (List D)) = pu [] := nr rfl
theorem r_of {μ α : Type} (a : α) : (of (some a) : SM μ α) = pu a := nr rfl
theorem r_cP {μ : Type} {mf : List D → SM Unit D} (l : List D) : (cP mf (pu l) : SM μ D) = px (mf l) := nr rfl
theorem r_cPX {μ : Type} {mf : List D → SM Unit D} (l : List D) : (cPX mf (pu l) : SM μ D) = p0 (mf l) := nr rfl
theorem r_p0 {μ α : Type} (a : α) : (p0 (pu a) : SM μ α) = pu a := nr rfl
theorem r_p0r {μ α : Type} (e : D) : (p0 (raise e) : SM μ α) = raise e := nr rfl
theorem r_rbd {μ α β : Type} (e : D) (f : α → SM μ β) : bd (raise e : SM μ α) f = raise e := nr rfl
theorem r_cD {μ : Type} {mf : List D → SM μ D} (l : List D) : cD mf (pu l) = qx (mf l) := nr rfl
theorem r_px {μ α : Type} (a : α) : (px (pu a) : SM μ α) = pu a := nr rfl
theorem r_qx {μ α : Type} (a : α) : (qx (pu a) : SM μ α) = pu a := nr rfl
theorem r_tb {μ : Type} (b : Bool) : (SM.tb (pu (.bool b)) : SM μ Bool) = pu b := nr rfl
theorem r_tr {μ : Type} (a : D) : (SM.tr (pu a) : SM μ Bool) = of (truD a) := nr rfl
theorem r_tand {μ : Type} (b : Bool) (x : SM μ Bool) : tand (pu b) x = if b then x else pu false := nr rfl
theorem r_tor {μ : Type} (b : Bool) (x : SM μ Bool) : tor (pu b) x = if b then pu true else x := nr rfl
theorem r_tnot {μ : Type} (b : Bool) : (tnot (pu b) : SM μ Bool) = pu (!b) := nr rfl
theorem r_eand {μ : Type} (b : Bool) (x : SM μ D) : eand (pu (.bool b)) x = if b then x else pu (.bool false) := nr rfl
theorem r_eor {μ : Type} (b : Bool) (x : SM μ D) : eor (pu (.bool b)) x = if b then pu (.bool true) else x := nr rfl
theorem r_enot {μ : Type} (b : Bool) : (enot (pu (.bool b)) : SM μ D) = pu (.bool (!b)) := nr rfl
theorem r_eif {μ : Type} (b : Bool) (x y : SM μ D) : eif (pu b) x y = if b then x else y := nr rfl
theorem r_chain {μ : Type} {f g : D → D → Option D} (a b : D) (z : SM μ D) : SM.chain f g (pu a) (pu b) z = bd (SM.tb (of (f a b))) fun c => if c then bd z fun z => of (g b z) else pu (.bool false) := nr rfl
theorem r_fin {μ α ρ : Type} (x : SM μ α) (k : α → SM μ (Fl Unit ρ)) : fin (bd x k) = bd x fun a => fin (k a) := bd_assoc _ _ _
theorem r_rt {μ ρ : Type} (d : D) : fin (pu (.rt d) : SM μ (Fl Unit ρ)) = pu d := nr rfl
theorem r_nx {μ ρ : Type} : fin (pu (.nx ()) : SM μ (Fl Unit ρ)) = pu .none := nr rfl
theorem r_sq {μ τ ρ ρ' : Type} (s : τ) (k : τ → SM μ (Fl ρ' ρ)) : sq (pu (.nx s)) k = k s := nr rfl
theorem r_sqr {μ τ ρ ρ' : Type} (d : D) (k : τ → SM μ (Fl ρ' ρ)) : sq (pu (.rt d)) k = pu (.rt d) := nr rfl
theorem r_sqb {μ τ ρ ρ' α : Type} (x : SM μ α) (f : α → SM μ (Fl τ ρ)) (k : τ → SM μ (Fl ρ' ρ)) : sq (bd x f) k = bd x fun a => sq (f a) k := bd_assoc _ _ _
theorem r_unp2 {μ β : Type} (a b : D) (k : D → D → SM μ β) : unp2 (.tuple [a, b]) k = k a b := nr rfl
theorem r_unp3 {μ β : Type} (a b c : D) (k : D → D → D → SM μ β) : unp3 (.tuple [a, b, c]) k = k a b c := nr rfl
theorem r_unp4 {μ β : Type} (a b c d : D) (k : D → D → D → D → SM μ β) : unp4 (.tuple [a, b, c, d]) k = k a b c d := nr rfl
theorem r_par2 {μ β : Type} (a b : D) (k : D → D → SM μ β) : par2 [a, b] k = k a b := nr rfl
theorem r_part0 {μ : Type} : (part0 : SM μ (Option Int)) = pu none := nr rfl
theorem r_part {μ : Type} (i : Int) : (SM.part (pu (.int i)) : SM μ (Option Int)) = pu (some i) := nr rfl
theorem r_slice {μ : Type} (a : D) (l h : Option Int) : (SM.slice (pu a) (pu l) (pu h) : SM μ D) = of (sliD a l h) := nr rfl
theorem r_itS {μ : Type} (a : D) : (itS (pu a) : SM μ (List D)) = of (seqD a) := nr rfl
theorem r_itR {μ : Type} (l : List D) : (itR (pu l) : SM μ (List D)) = of (rngD l) := nr rfl
theorem r_u0 {μ : Type} {f : SM μ D} : u0 f [] = f := nr rfl
theorem r_u1 {μ : Type} {f : D → SM μ D} {a : D} : u1 f [a] = f a := nr rfl
theorem r_u2 {μ : Type} {f : D → D → SM μ D} {a b : D} : u2 f [a, b] = f a b := nr rfl
theorem r_u3 {μ : Type} {f : D → D → D → SM μ D} {a b c : D} : u3 f [a, b, c] = f a b c := nr rfl
theorem r_u4 {μ : Type} {f : D → D → D → D → SM μ D} {a b c d : D} : u4 f [a, b, c, d] = f a b c d := nr rfl
theorem r_u5 {μ : Type} {f : D → D → D → D → D → SM μ D} {a b c d e : D} : u5 f [a, b, c, d, e] = f a b c d e := nr rfl
theorem r_u6 {μ : Type} {f : D → D → D → D → D → D → SM μ D} {a b c d e g : D} : u6 f [a, b, c, d, e, g] = f a b c d e g := nr rfl
theorem r_u7 {μ : Type} {f : D → D → D → D → D → D → D → SM μ D} {a b c d e g h : D} : u7 f [a, b, c, d, e, g, h] = f a b c d e g h := nr rfl
theorem r_ift {α : Type} (x y : α) : (if true = true then x else y) = x := nr rfl
theorem r_iff {α : Type} (x y : α) : (if false = true then x else y) = y := nr rfl
theorem d_add (a b : Int) : addD (.int a) (.int b) = some (.int (a + b)) := rfl
theorem d_addI (a b : Int) : addI (.int a) (.int b) = some (.int (a + b)) := rfl
theorem d_subI (a b : Int) : subI (.int a) (.int b) = some (.int (a - b)) := rfl
theorem d_sub (a b : Int) : subD (.int a) (.int b) = some (.int (a - b)) := rfl
theorem d_neg (a : Int) : negD (.int a) = some (.int (-a)) := rfl
theorem d_lt (a b : Int) : ltD (.int a) (.int b) = some (.bool (decide (a < b))) := rfl
theorem d_le (a b : Int) : leD (.int a) (.int b) = some (.bool (decide (a ≤ b))) := rfl
theorem d_gt (a b : Int) : gtD (.int a) (.int b) = some (.bool (decide (b < a))) := rfl
theorem d_ge (a b : Int) : geD (.int a) (.int b) = some (.bool (decide (b ≤ a))) := rfl
theorem d_isN (d : D) : isD d .none = some (.bool (isNone d)) := by cases d <;> rfl
theorem d_isntN (d : D) : isntD d .none = some (.bool (!isNone d)) := by cases d <;> rfl
theorem d_isB (a b : Bool) : isD (.bool a) (.bool b) = some (.bool (decide (a = b))) := rfl
theorem d_isntB (a b : Bool) : isntD (.bool a) (.bool b) = some (.bool (!decide (a = b))) := rfl
theorem d_nn : isNone .none = true := rfl
theorem d_ni (i : Int) : isNone (.int i) = false := rfl
theorem d_nt (l : List D) : isNone (.tuple l) = false := rfl
theorem d_nl (l : List D) : isNone (.list l) = false := rfl
theorem d_nb (b : Bool) : isNone (.bool b) = false := rfl
theorem d_abs (a : Int) : absD [.int a] = some (.int (if a < 0 then -a else a)) := rfl
theorem d_max (a b : Int) : maxD [.int a, .int b] = some (.int (if b > a then b else a)) := rfl
theorem d_maxT (a b : Int) : maxD [.tuple [.int a, .int b]] = some (.int (if b > a then b else a)) := rfl
theorem d_min (a b : Int) : minD [.int a, .int b] = some (.int (if b < a then b else a)) := rfl
theorem d_int (a : Int) : intD [.int a] = some (.int a) := rfl
theorem d_intB (b : Bool) : intD [.bool b] = some (.int (if b then 1 else 0)) := rfl
theorem d_len (l : List D) : lenD [.list l] = some (.int l.length) := rfl
theorem d_lenT (l : List D) : lenD [.tuple l] = some (.int l.length) := rfl
theorem d_list (l : List D) : listD [.list l] = some (.list l) := rfl
theorem d_listT (l : List D) : listD [.tuple l] = some (.list l) := rfl
theorem d_tuple (l : List D) : tupleD [.list l] = some (.tuple l) := rfl
theorem d_tupleT (l : List D) : tupleD [.tuple l] = some (.tuple l) := rfl
theorem d_seq (l : List D) : seqD (.list l) = some l := rfl
theorem d_seqT (l : List D) : seqD (.tuple l) = some l := rfl
theorem d_bits (a : Int) : bitsD (.int a) = some (.int (Builtin.Int.intBits a)) := rfl
theorem d_and (a b : Int) : andD (.int a) (.int b) = some (.int (Builtin.bitAnd a b)) := rfl
theorem d_or (a b : Int) : orD (.int a) (.int b) = some (.int (Builtin.bitOr a b)) := rfl
theorem d_xor (a b : Int) : xorD (.int a) (.int b) = some (.int (Builtin.bitXor a b)) := rfl
theorem d_truB (b : Bool) : truD (.bool b) = some b := rfl
theorem d_truL (l : List D) : truD (.list l) = some (!l.isEmpty) := rfl
theorem d_isi (n : String) (d : D) : isiD n d = (kitB (tyN d) n).map .bool := rfl
theorem k_ii : kitB "int" "int" = some true := by decide +kernel
theorem k_ib : kitB "int" "bool" = some false := by decide +kernel
theorem k_bi : kitB "bool" "int" = some true := by decide +kernel
theorem k_bb : kitB "bool" "bool" = some true := by decide +kernel
theorem d_cat {a b : List D} (h : a.length + b.length ≤ sizeLine) : addD (.list a) (.list b) = some (.list (a ++ b)) := if_pos h
theorem d_catS {a b : List D} (h : a.length + b.length ≤ sizeLine) : addD (scrD a) (.list b) = some (.list (a ++ b)) := if_pos h
theorem d_lst {l : List D} (h : l.length ≤ sizeLine) : lstD l = some (.list l) := if_pos h
theorem d_tup {l : List D} (h : l.length ≤ sizeLine) : tupD l = some (.tuple l) := if_pos h
theorem line_le {n : Nat} (h : n ≤ 1000000) : n ≤ sizeLine := Nat.le_trans h (by decide)
theorem d_lst0 : lstD [] = some (.list []) := rfl
theorem d_lst1 (a : D) : lstD [a] = some (.list [a]) := d_lst (by show 1 ≤ sizeLine; decide)
theorem d_lst2 (a b : D) : lstD [a, b] = some (.list [a, b]) := d_lst (by show 2 ≤ sizeLine; decide)
theorem d_lst3 (a b c : D) : lstD [a, b, c] = some (.list [a, b, c]) := d_lst (by show 3 ≤ sizeLine; decide)
theorem d_lst4 (a b c d : D) : lstD [a, b, c, d] = some (.list [a, b, c, d]) := d_lst (by show 4 ≤ sizeLine; decide)
theorem d_lst5 (a b c d e : D) : lstD [a, b, c, d, e] = some (.list [a, b, c, d, e]) := d_lst (by show 5 ≤ sizeLine; decide)
theorem d_lst6 (a b c d e f : D) : lstD [a, b, c, d, e, f] = some (.list [a, b, c, d, e, f]) := d_lst (by show 6 ≤ sizeLine; decide)
theorem d_tup1 (a : D) : tupD [a] = some (.tuple [a]) := d_tup (by show 1 ≤ sizeLine; decide)
theorem d_tup2 (a b : D) : tupD [a, b] = some (.tuple [a, b]) := d_tup (by show 2 ≤ sizeLine; decide)
theorem d_tup3 (a b c : D) : tupD [a, b, c] = some (.tuple [a, b, c]) := d_tup (by show 3 ≤ sizeLine; decide)
theorem d_tup4 (a b c d : D) : tupD [a, b, c, d] = some (.tuple [a, b, c, d]) := d_tup (by show 4 ≤ sizeLine; decide)
theorem d_ix0 (a : D) (l : List D) : idxD (.tuple (a :: l)) (.int 0) = some a := by
  show atI (a :: l) 0 = some a
  exact atI_nat (j := 0) rfl
theorem d_ix1 (a b : D) (l : List D) : idxD (.tuple (a :: b :: l)) (.int 1) = some b := by
  show atI (a :: b :: l) 1 = some b
  exact atI_nat (j := 1) rfl
theorem d_ix2 (a b c : D) (l : List D) : idxD (.tuple (a :: b :: c :: l)) (.int 2) = some c := by
  show atI (a :: b :: c :: l) 2 = some c
  exact atI_nat (j := 2) rfl
theorem d_ixl0 (a : D) (l : List D) : idxD (.list (a :: l)) (.int 0) = some a := by
  show atI (a :: l) 0 = some a
  exact atI_nat (j := 0) rfl
theorem d_ixl1 (a b : D) (l : List D) : idxD (.list (a :: b :: l)) (.int 1) = some b := by
  show atI (a :: b :: l) 1 = some b
  exact atI_nat (j := 1) rfl
theorem d_ixl2 (a b c : D) (l : List D) : idxD (.list (a :: b :: c :: l)) (.int 2) = some c := by
  show atI (a :: b :: c :: l) 2 = some c
  exact atI_nat (j := 2) rfl
/-! == of ints -/
theorem sh_int (a : Int) : SeqAt.shaped (.int a) = true := by
  unfold SeqAt.shaped
  simp [PyData.canLay0, PyData.depth]
theorem sh_bool (a : Bool) : SeqAt.shaped (.bool a) = true := by
  unfold SeqAt.shaped
  simp [PyData.canLay0, PyData.depth]
theorem sh_none : SeqAt.shaped .none = true := by
  unfold SeqAt.shaped
  simp [PyData.canLay0, PyData.depth]
theorem d_eqI (a b : Int) : eqD (.int a) (.int b) = some (.bool (decide (a = b))) := by
  unfold eqD
  rw [sh_int, sh_int]
  simp [PyData.eqv, Bool.beq_eq_decide_eq]
theorem d_neI (a b : Int) : neD (.int a) (.int b) = some (.bool (!decide (a = b))) := by
  unfold neD
  rw [sh_int, sh_int]
  simp [PyData.eqv, Bool.beq_eq_decide_eq]
theorem d_eqB (a b : Bool) : eqD (.bool a) (.bool b) = some (.bool (decide (a = b))) := by
  unfold eqD
  rw [sh_bool, sh_bool]
  simp [PyData.eqv, Bool.beq_eq_decide_eq]
theorem d_neB (a b : Bool) : neD (.bool a) (.bool b) = some (.bool (!decide (a = b))) := by
  unfold neD
  rw [sh_bool, sh_bool]
  simp [PyData.eqv, Bool.beq_eq_decide_eq]
theorem d_eqS {d : D} (h : SeqAt.shaped d = true) : eqD d d = some (.bool true) := by
  unfold eqD
  rw [h, SeqAt.eqv_refl d (SeqAt.canLay_of_shaped h)]; rfl
theorem d_neS {d : D} (h : SeqAt.shaped d = true) : neD d d = some (.bool false) := by
  unfold neD
  rw [h, SeqAt.eqv_refl d (SeqAt.canLay_of_shaped h)]; rfl
/-! sizes -/
class Sz (a : Int) (n : outParam Nat) : Prop where
  lt : a.natAbs < 2 ^ n
theorem sz_mul {a b : Int} {n k : Nat} (ha : a.natAbs < 2 ^ n) (hb : b.natAbs < 2 ^ k) : (a * b).natAbs < 2 ^ (n + k) := wide_lt ha hb
theorem sz_add {a b : Int} {n k : Nat} (ha : a.natAbs < 2 ^ n) (hb : b.natAbs < 2 ^ k) : (a + b).natAbs < 2 ^ (n + k + 1) := by
  have h1 : 2 ^ n ≤ 2 ^ (n + k) := Nat.pow_le_pow_right (by decide) (by omega)
  have h2 : 2 ^ k ≤ 2 ^ (n + k) := Nat.pow_le_pow_right (by decide) (by omega)
  rw [Nat.pow_succ]
  omega
theorem sz_sub {a b : Int} {n k : Nat} (ha : a.natAbs < 2 ^ n) (hb : b.natAbs < 2 ^ k) : (a - b).natAbs < 2 ^ (n + k + 1) := by
  have := sz_add ha (b := -b) (k := k) (by omega)
  omega
theorem sz_neg {a : Int} {n : Nat} (ha : a.natAbs < 2 ^ n) : (-a).natAbs < 2 ^ n := by omega
theorem sz_shl {a : Int} {n k : Nat} (ha : a.natAbs < 2 ^ n) : (a * 2 ^ k).natAbs < 2 ^ (n + k) := by
  rw [Int.natAbs_mul, Int.natAbs_pow, Nat.pow_add]
  exact Nat.mul_lt_mul_of_pos_right ha (Nat.two_pow_pos k)
theorem sz_div {a b : Int} {n : Nat} (ha : a.natAbs < 2 ^ n) : (a / b).natAbs < 2 ^ n := by
  by_cases hb : b = 0
  · subst hb; rw [Int.ediv_zero]; exact Nat.lt_of_le_of_lt (Nat.zero_le _) ha
  · have := Int.natAbs_ediv_le_natAbs a b
    omega
theorem sz_mod {a b : Int} {n : Nat} (hb : b.natAbs < 2 ^ n) (h0 : 0 < b) : (a % b).natAbs < 2 ^ n := by
  have h1 := Int.emod_nonneg a (b := b) (by omega)
  have h2 := Int.emod_lt_of_pos a h0
  omega
theorem sz_two {k : Nat} : ((2 : Int) ^ k).natAbs < 2 ^ (k + 1) := by
  rw [Int.natAbs_pow]
  exact Nat.pow_lt_pow_right (by decide) (by omega)
theorem sz_le {a : Int} {n k : Nat} (ha : a.natAbs < 2 ^ n) (h : n ≤ k) : a.natAbs < 2 ^ k := Nat.lt_of_lt_of_le ha (Nat.pow_le_pow_right (by decide) h)
section
variable {a b : Int} {n k : Nat}
instance [x : Sz a n] [y : Sz b k] : Sz (a * b) (n + k) := ⟨sz_mul x.lt y.lt⟩
instance [x : Sz a n] [y : Sz b k] : Sz (a + b) (n + k + 1) := ⟨sz_add x.lt y.lt⟩
instance [x : Sz a n] [y : Sz b k] : Sz (a - b) (n + k + 1) := ⟨sz_sub x.lt y.lt⟩
instance [x : Sz a n] : Sz (-a) n := ⟨sz_neg x.lt⟩
instance [x : Sz a n] : Sz (a / b) n := ⟨sz_div x.lt⟩
instance : Sz ((2 : Int) ^ k) (k + 1) := ⟨sz_two⟩
instance : Sz (0 : Int) 1 := ⟨by decide⟩
instance : Sz (1 : Int) 1 := ⟨by decide⟩
instance : Sz (2 : Int) 2 := ⟨by decide⟩
instance : Sz (3 : Int) 2 := ⟨by decide⟩
instance : Sz (4 : Int) 3 := ⟨by decide⟩
instance : Sz (5 : Int) 3 := ⟨by decide⟩
instance : Sz (6 : Int) 3 := ⟨by decide⟩
instance : Sz (7 : Int) 3 := ⟨by decide⟩
instance : Sz (8 : Int) 4 := ⟨by decide⟩
instance : Sz (9 : Int) 4 := ⟨by decide⟩
instance : Sz (10 : Int) 4 := ⟨by decide⟩
instance : Sz (11 : Int) 4 := ⟨by decide⟩
instance : Sz (12 : Int) 4 := ⟨by decide⟩
instance : Sz (13 : Int) 4 := ⟨by decide⟩
instance : Sz (14 : Int) 4 := ⟨by decide⟩
instance : Sz (15 : Int) 4 := ⟨by decide⟩
instance : Sz (16 : Int) 5 := ⟨by decide⟩
instance : Sz (20 : Int) 5 := ⟨by decide⟩
instance : Sz (32 : Int) 6 := ⟨by decide⟩
instance : Sz (60 : Int) 6 := ⟨by decide⟩
instance : Sz (64 : Int) 7 := ⟨by decide⟩
instance : Sz (100 : Int) 7 := ⟨by decide⟩
instance : Sz (128 : Int) 8 := ⟨by decide⟩
instance : Sz (250 : Int) 8 := ⟨by decide⟩
instance : Sz (256 : Int) 9 := ⟨by decide⟩
instance : Sz (512 : Int) 10 := ⟨by decide⟩
instance : Sz (1000 : Int) 10 := ⟨by decide⟩
instance : Sz (1024 : Int) 11 := ⟨by decide⟩
instance : Sz (20000 : Int) 15 := ⟨by decide⟩
instance : Sz (1000000 : Int) 20 := ⟨by decide⟩
instance : Sz (2147483579 : Int) 31 := ⟨by decide⟩
instance : Sz (2147483563 : Int) 31 := ⟨by decide⟩
instance : Sz (2147483629 : Int) 31 := ⟨by decide⟩
instance : Sz (2147483647 : Int) 31 := ⟨by decide⟩
instance : Sz (15485867 : Int) 24 := ⟨by decide⟩
instance : Sz (7919 : Int) 13 := ⟨by decide⟩
instance {c : Prop} [Decidable c] [x : Sz a n] [y : Sz b k] : Sz (if c then a else b) (n + k) := ⟨by
  split
  · exact sz_le x.lt (by omega)
  · exact sz_le y.lt (by omega)⟩
theorem Sz.le {a : Int} {n k : Nat} (h : Sz a n) (e : n ≤ k) : Sz a k := ⟨sz_le h.lt e⟩
theorem fit_sz [x : Sz a n] (h : n ≤ 50000000) : fit a = true := fit_of x.lt h
theorem sz_of (h1 : -(2 ^ 64) < a) (h2 : a < 2 ^ 64) : Sz a 64 := ⟨by omega⟩
theorem sz_nat {z : Nat} (h : z < 2 ^ n) : Sz (z : Int) n := ⟨by omega⟩
end
theorem d_mul {a b : Int} (ha : fit a = true) (hb : fit b = true) : mulD (.int a) (.int b) = some (.int (a * b)) := by
  show (if fit a && fit b then _ else _) = _
  rw [ha, hb]; rfl
theorem d_shl {a : Int} {k : Nat} (ha : fit a = true) (hk : k ≤ 50000000) : shlD (.int a) (.int (k : Int)) = some (.int (a * 2 ^ k)) := by
  show (if _ then some (PyData.int (a * 2 ^ (k : Int).toNat)) else none) = _
  rw [if_pos ⟨by omega, by omega, ha⟩, Int.toNat_natCast]
theorem d_shr {a : Int} {k : Nat} : shrD (.int a) (.int (k : Int)) = some (.int (a / 2 ^ k)) := by
  show (if 0 ≤ (k : Int) then some (PyData.int (a / 2 ^ (k : Int).toNat)) else none) = _
  rw [if_pos (by omega), Int.toNat_natCast]
theorem d_fdiv {a b : Int} (h : 0 < b) (hb : b.natAbs.log2 < 9000) : fdivD (.int a) (.int b) = some (.int (a / b)) := if_pos ⟨h, hb⟩
theorem d_fdivN {a b : Int} (h : b < 0) (hb : b.natAbs < 1073741824) : fdivD (.int a) (.int b) = some (.int (a.fdiv b)) := by
  show (if _ then _ else if _ then _ else _) = _
  rw [if_neg (fun z => by omega), if_pos ⟨h, hb⟩]
theorem log_of {b : Int} {k : Nat} (hb : b.natAbs < 2 ^ k) (h : 0 < b) (hk : k ≤ 9000) : b.natAbs.log2 < 9000 := by
  have := (Nat.log2_lt (by omega)).mpr hb
  omega
theorem log_sz {b : Int} {k : Nat} [x : Sz b k] (h : 0 < b) (hk : k ≤ 9000) : b.natAbs.log2 < 9000 := log_of x.lt h hk
theorem d_mod {a b : Int} (h : 0 < b) : modD (.int a) (.int b) = some (.int (a % b)) := if_pos h
theorem d_pow {a : Int} {k : Nat} (h : a.natAbs < 2 ^ 64) (hk : k ≤ 1000000) : powD (.int a) (.int (k : Int)) = some (.int (a ^ k)) := by
  show (if _ then some (PyData.int (a ^ (k : Int).toNat)) else none) = _
  rw [if_pos ⟨by omega, by omega, h⟩, Int.toNat_natCast]
theorem d_rng1 {b : Int} (h1 : -(2 ^ 62) ≤ b) (h2 : b < 2 ^ 62) : rngD [.int b] = some (rgL 0 b) := by
  simp only [rngD]
  rw [if_pos ⟨h1, h2⟩]
theorem d_rng2 {a b : Int} (h1 : -(2 ^ 62) ≤ a) (h2 : a < 2 ^ 62) (h3 : -(2 ^ 62) ≤ b) (h4 : b < 2 ^ 62) : rngD [.int a, .int b] = some (rgL a b) := by
  simp only [rngD]
  rw [if_pos ⟨h1, h2, h3, h4⟩]
theorem rgL_len (a b : Int) : (rgL a b).length = (b - a).toNat := by
  unfold rgL
  rw [List.length_map, List.length_range]
/-! what comes of a thing, by wishes -/
def Ok {μ α : Type} (x : SM μ α) (m : μ) (P : α → μ → Prop) : Prop := ∃ a m', x m = .ok a m' ∧ P a m'
section
variable {μ α β τ ρ : Type} {x : SM μ α} {m : μ} {P Q : α → μ → Prop}
theorem Ok.mono (h : Ok x m P) (i : ∀ a m', P a m' → Q a m') : Ok x m Q := by
  obtain ⟨a, m', e, p⟩ := h
  exact ⟨a, m', e, i a m' p⟩
theorem ok_pu {a : α} (h : P a m) : Ok (pu a) m P := ⟨a, m, rfl, h⟩
theorem ok_bd {f : α → SM μ β} {P : β → μ → Prop} (h : Ok x m fun a m' => Ok (f a) m' P) : Ok (bd x f) m P := by
  obtain ⟨a, m', e, b, m2, e2, p⟩ := h
  exact ⟨b, m2, (bd_ok e).trans e2, p⟩
theorem ok_qx (h : Ok x m P) : Ok (qx x) m P := by
  obtain ⟨a, m', e, p⟩ := h
  exact ⟨a, m', qx_ok e, p⟩
theorem ok_px {x : SM Unit α} {P : α → μ → Prop} (h : Ok x () fun a _ => P a m) : Ok (px x : SM μ α) m P := by
  obtain ⟨a, m', e, p⟩ := h
  exact ⟨a, m, px_ok e, p⟩
theorem ok_fin {R : SM μ (Fl Unit ρ)} {P : D → μ → Prop} (h : Ok R m fun o m' => ∃ d, (o = .rt d ∨ (o = .nx () ∧ d = .none)) ∧ P d m') : Ok (fin R) m P := by
  obtain ⟨o, m', e, d, c, p⟩ := h
  rcases c with rfl | ⟨rfl, rfl⟩
  · exact ⟨d, m', bd_ok e, p⟩
  · exact ⟨.none, m', bd_ok e, p⟩
theorem ok_sq {ρ' : Type} {R : SM μ (Fl τ ρ)} {k : τ → SM μ (Fl ρ' ρ)} {P : Fl ρ' ρ → μ → Prop} (h : Ok R m fun o m' => ∃ s, o = .nx s ∧ Ok (k s) m' P) : Ok (sq R k) m P := by
  obtain ⟨o, m', e, s, rfl, b, m2, e2, p⟩ := h
  exact ⟨b, m2, (bd_ok e).trans e2, p⟩
/-- a loop that goes through -/
theorem ok_for {xs : List D} {b : D → τ → SM μ (Fl τ τ)} {s0 : τ} (I : Nat → τ → μ → Prop) (h0 : I 0 s0 m)
    (hs : ∀ i x s m, xs[i]? = some x → I i s m → Ok (b x s) m fun o m' => ∃ s', (o = .nx s' ∨ o = .ct s') ∧ I (i + 1) s' m') : Ok (forS xs s0 b : SM μ (Fl τ ρ)) m fun o m' => ∃ s, o = .nx s ∧ I xs.length s m' := by
  induction xs generalizing m s0 I with
  | nil => exact ⟨_, _, rfl, s0, rfl, h0⟩
  | cons x xs ih =>
    obtain ⟨o, m1, e1, s1, c, h1⟩ := hs 0 x s0 m rfl h0
    have h2 := ih (m := m1) (s0 := s1) (fun i => I (i + 1)) h1 fun i y s m hy h => hs (i + 1) y s m hy h
    obtain ⟨o2, m2, e2, s2, rfl, h3⟩ := h2
    refine ⟨_, m2, ?_, s2, rfl, h3⟩
    show bd (b x s0) _ m = _
    rw [bd_ok e1]
    rcases c with rfl | rfl
    · exact e2
    · exact e2
/-- a loop without a state that is reckoned -/
theorem for_pu {xs : List D} {b : D → τ → SM μ (Fl τ τ)} {g : D → τ → τ} {s0 : τ} (h : ∀ x ∈ xs, ∀ s, b x s = pu (.nx (g x s))) : (forS xs s0 b : SM μ (Fl τ ρ)) = pu (.nx (xs.foldl (fun s x => g x s) s0)) := by
  induction xs generalizing s0 with
  | nil => rfl
  | cons x xs ih =>
    show bd (b x s0) _ = _
    rw [h x (.head _) s0, pu_bd]
    exact ih fun y hy => h y (.tail _ hy)
/-- a while that looks for a number -/
theorem while_find {T : D → SM μ Bool} {b : D → SM μ (Fl D D)} {tst : Nat → Bool} {pt : Nat → D} (hT : ∀ s, T s = pu true) : ∀ (J n w0 : Nat), J < n → (∀ j, j ≤ J → b (.int ((w0 + j : Nat) : Int)) = if tst (w0 + j) then pu (.rt (pt (w0 + j))) else pu (.nx (.int ((w0 + j + 1 : Nat) : Int)))) → tst (w0 + J) = true →
    ∃ j, j ≤ J ∧ tst (w0 + j) = true ∧ (whileS n T b (.int (w0 : Int)) : SM μ (Fl D ρ)) = pu (.rt (pt (w0 + j)))
  | J, 0, w0, h, _, _ => by omega
  | J, n + 1, w0, hn, hb, ht => by
    have e0 : (whileS (n + 1) T b (.int (w0 : Int)) : SM μ (Fl D ρ)) = bd (b (.int (w0 : Int))) fun o => match o with
      | .nx s' => whileS n T b s'
      | .ct s' => whileS n T b s'
      | .bk s' => pu (.nx s')
      | .rt d => pu (.rt d) := by
      show bd (T _) _ = _
      rw [hT, pu_bd, if_pos rfl]
      refine congrArg (bd _) (funext fun o => ?_)
      cases o <;> rfl
    have h0 := hb 0 (by omega)
    rw [Nat.add_zero] at h0
    by_cases c : tst w0 = true
    · refine ⟨0, by omega, c, ?_⟩
      rw [e0, h0, if_pos c, pu_bd, Nat.add_zero]
    · rw [if_neg c] at h0
      cases J with
      | zero => exact absurd ht c
      | succ J =>
        obtain ⟨j, hj, tj, ej⟩ := while_find hT J n (w0 + 1) (by omega) (fun j hj => by
          have := hb (j + 1) (by omega)
          rw [show w0 + (j + 1) = w0 + 1 + j by omega] at this
          exact this) (by rw [show w0 + 1 + J = w0 + (J + 1) by omega]; exact ht)
        refine ⟨j + 1, by omega, by rw [show w0 + (j + 1) = w0 + 1 + j by omega]; exact tj, ?_⟩
        rw [e0, h0, pu_bd, show w0 + (j + 1) = w0 + 1 + j by omega]
        exact ej
theorem ok_ev {a : α} (h : x = pu a) (p : P a m) : Ok x m P := by
  subst h
  exact ok_pu p
end
/-! ### reckoning with mirrors of kind S -/
section
variable {μ τ ρ ρ' α β : Type} {m m' : μ}
def kZ (mf : List D → SM (List D) D) (xs : List D) (tsf : μ → List D) (pb : List D → μ → μ) : SM μ D := fun m => match mf xs (tsf m) with
  | .ok x ts => .ok x (pb ts m)
  | .exc e ts => .exc e (pb ts m)
  | .bad => .bad
def kZ0 (mf : List D → SM (List D) D) (xs : List D) (tsf : μ → List D) (pb : List D → μ → μ) : SM μ D := fun m => match mf xs (tsf m) with
  | .ok x ts => .ok x (pb ts m)
  | _ => .bad
def kM0 (mf : List D → SM (List D) D) (xs : List D) (tsf : μ → List D) (pb : List D → μ → μ) : SM μ D := fun m => match mf xs (tsf m) with
  | .ok x _ => .ok x (pb (tsf m) m)
  | _ => .bad
def kM (mf : List D → SM (List D) D) (xs : List D) (tsf : μ → List D) (pb : List D → μ → μ) : SM μ D := fun m => match mf xs (tsf m) with
  | .ok x _ => .ok x (pb (tsf m) m)
  | .exc e _ => .exc e (pb (tsf m) m)
  | .bad => .bad
def kD_ (get : μ → D) (put : D → μ → μ) (mf : List D → SM D D) (xs : List D) : SM μ D := fun m => match mf xs (get m) with
  | .ok x d => .ok x (put d m)
  | _ => .bad
theorem r_nr1 (a : α) : nr1 (pu a : SM μ α) = pu a := nr rfl
theorem r_zN : (zN : SM μ (List D × (μ → List D) × (List D → μ → μ))) = pu ([], (fun _ => []), fun _ m => m) := nr rfl
theorem r_zF (E : SM μ D) (Es : SM μ (List D × (μ → List D) × (List D → μ → μ))) : zF E Es = bd E fun x => bd Es fun q => pu (x :: q.1, q.2) := nr rfl
theorem r_zV (get : μ → D) (put : D → μ → μ) (Es : SM μ (List D × (μ → List D) × (List D → μ → μ))) : zV get put Es = bd Es fun q => pu (q.1, (fun m => get m :: q.2.1 m), fun ts m => q.2.2 ts.tail (put (ts.headD .none) m)) := nr rfl
theorem r_zT (E : SM μ D) (Es : SM μ (List D × (μ → List D) × (List D → μ → μ))) : zT E Es = bd E fun x => bd Es fun q => pu (q.1, (fun m => x :: q.2.1 m), fun ts m => q.2.2 ts.tail m) := nr rfl
theorem r_zP (get : μ → D) (put : D → μ → μ) (W : SM μ (List Nat)) (Es : SM μ (List D × (μ → List D) × (List D → μ → μ))) : zP get put W Es = bd (nr1 W) fun p => bd (getG get) fun d => bd (of (getP d p)) fun r => bd (nr1 Es) fun q => pu (q.1, (fun m => r :: q.2.1 m), fun ts m => put (setP d p (ts.headD .none)) (q.2.2 ts.tail m)) := nr rfl
theorem r_cZ (mf : List D → SM (List D) D) (Es : SM μ (List D × (μ → List D) × (List D → μ → μ))) : cZ mf Es = bd Es fun q => kZ mf q.1 q.2.1 q.2.2 := nr rfl
theorem r_cZ0 (mf : List D → SM (List D) D) (Es : SM μ (List D × (μ → List D) × (List D → μ → μ))) : cZ0 mf Es = bd Es fun q => kZ0 mf q.1 q.2.1 q.2.2 := nr rfl
theorem r_mkZ0 (mf : List D → SM (List D) D) (Es : SM μ (List D × (μ → List D) × (List D → μ → μ))) : mkZ0 mf Es = bd Es fun q => kM0 mf q.1 q.2.1 q.2.2 := nr rfl
theorem r_mkZ (mf : List D → SM (List D) D) (Es : SM μ (List D × (μ → List D) × (List D → μ → μ))) : mkZ mf Es = bd Es fun q => kM mf q.1 q.2.1 q.2.2 := nr rfl
theorem r_cDl (get : μ → D) (put : D → μ → μ) (mf : List D → SM D D) (Es : SM μ (List D)) : cDl get put mf Es = bd Es fun xs => kD_ get put mf xs := nr rfl
variable {P : β → μ → Prop} {k : D → SM μ β}
theorem ok_kZ {mf : List D → SM (List D) D} {xs : List D} {tsf : μ → List D} {pb : List D → μ → μ} {x : D} {ts : List D} (e : mf xs (tsf m) = .ok x ts) (hm : pb ts m = m') (h : Ok (k x) m' P) : Ok (bd (kZ mf xs tsf pb) k) m P := by
  refine ok_bd ⟨x, m', ?_, h⟩
  unfold kZ; rw [e, ← hm]
theorem ok_kZ0 {mf : List D → SM (List D) D} {xs : List D} {tsf : μ → List D} {pb : List D → μ → μ} {x : D} {ts : List D} (e : mf xs (tsf m) = .ok x ts) (hm : pb ts m = m') (h : Ok (k x) m' P) : Ok (bd (kZ0 mf xs tsf pb) k) m P := by
  refine ok_bd ⟨x, m', ?_, h⟩
  unfold kZ0; rw [e, ← hm]
theorem ok_kM0 {mf : List D → SM (List D) D} {xs : List D} {tsf : μ → List D} {pb : List D → μ → μ} {x : D} {ts : List D} (e : mf xs (tsf m) = .ok x ts) (hm : pb (tsf m) m = m') (h : Ok (k x) m' P) : Ok (bd (kM0 mf xs tsf pb) k) m P := by
  refine ok_bd ⟨x, m', ?_, h⟩
  unfold kM0; rw [e, ← hm]
theorem ok_kM {mf : List D → SM (List D) D} {xs : List D} {tsf : μ → List D} {pb : List D → μ → μ} {x : D} {ts : List D} (e : mf xs (tsf m) = .ok x ts) (hm : pb (tsf m) m = m') (h : Ok (k x) m' P) : Ok (bd (kM mf xs tsf pb) k) m P := by
  refine ok_bd ⟨x, m', ?_, h⟩
  unfold kM; rw [e, ← hm]
theorem ok_kZe {P : D → μ → Prop} {mf : List D → SM (List D) D} {xs : List D} {tsf : μ → List D} {pb : List D → μ → μ} {x : D} {ts : List D} (e : mf xs (tsf m) = .ok x ts) (hm : pb ts m = m') (h : P x m') : Ok (kZ mf xs tsf pb) m P := ⟨x, m', by unfold kZ; rw [e, ← hm], h⟩
theorem ok_kZ0e {P : D → μ → Prop} {mf : List D → SM (List D) D} {xs : List D} {tsf : μ → List D} {pb : List D → μ → μ} {x : D} {ts : List D} (e : mf xs (tsf m) = .ok x ts) (hm : pb ts m = m') (h : P x m') : Ok (kZ0 mf xs tsf pb) m P := ⟨x, m', by unfold kZ0; rw [e, ← hm], h⟩
theorem ok_kD {get : μ → D} {put : D → μ → μ} {mf : List D → SM D D} {xs : List D} (h : Ok (mf xs) (get m) fun x d => Ok (k x) (put d m) P) : Ok (bd (kD_ get put mf xs) k) m P := by
  obtain ⟨x, d, e, h⟩ := h
  refine ok_bd ⟨x, put d m, ?_, h⟩
  unfold kD_; rw [e]
theorem ok_rdP {get : μ → D} {p : List Nat} {r : D} (e : getP (get m) p = some r) (h : Ok (k r) m P) : Ok (bd (rdP get p) k) m P := ok_bd ⟨r, m, rdP_ok e, h⟩
theorem ok_mdP {get : μ → D} {put : D → μ → μ} {p : List Nat} {f : D → Option D} {r y : D} {k : Unit → SM μ β} (e : getP (get m) p = some r) (e2 : f r = some y) (hm : put (setP (get m) p y) m = m') (h : Ok (k ()) m' P) : Ok (bd (mdP get put p f) k) m P := ok_bd ⟨(), m', by rw [← hm]; exact mdP_ok e e2, h⟩
theorem ok_putG {put : D → μ → μ} {x : D} {k : Unit → SM μ β} (hm : put x m = m') (h : Ok (k ()) m' P) : Ok (bd (putG put x) k) m P := ok_bd ⟨(), m', by rw [← hm]; rfl, h⟩
theorem ok_getG {get : μ → D} (h : Ok (k (get m)) m P) : Ok (bd (getG get) k) m P := ok_bd ⟨get m, m, rfl, h⟩
theorem ok_rdr {E : μ → SM Unit D} {x : D} (e : E m = pu x) (l : lfr x = true) (h : Ok (k x) m P) : Ok (bd (rdr E) k) m P := by
  refine ok_bd ⟨x, m, ?_, h⟩
  unfold rdr; rw [e]; show (if lfr x = true then _ else _) = _; rw [if_pos l]
theorem ok_rdrL {E : μ → SM Unit D} {x : D} (e : E m = pu x) (l : lfL x = true) (h : Ok (k x) m P) : Ok (bd (rdrL E) k) m P := by
  refine ok_bd ⟨x, m, ?_, h⟩
  unfold rdrL; rw [e]; show (if lfL x = true then _ else _) = _; rw [if_pos l]
theorem ok_rdrB {E : μ → SM Unit Bool} {c : Bool} {k : Bool → SM μ β} (e : E m = pu c) (h : Ok (k c) m P) : Ok (bd (rdrB E) k) m P := by
  refine ok_bd ⟨c, m, ?_, h⟩
  unfold rdrB; rw [e]; rfl
theorem zb_ok {inj : List D → μ} {prj : μ → List D} {x : SM μ D} {ts ts' : List D} {a : D} (e : x (inj ts) = .ok a m) (h : prj m = ts') : zbody inj prj x ts = .ok a ts' := by unfold zbody; rw [e, ← h]
theorem zb_exc {inj : List D → μ} {prj : μ → List D} {x : SM μ D} {ts ts' : List D} {a : D} (e : x (inj ts) = .exc a m) (h : prj m = ts') : zbody inj prj x ts = .exc a ts' := by unfold zbody; rw [e, ← h]
theorem ib_ok {inj : List D → μ} {obj : μ → D} {x : SM μ (Fl Unit Empty)} {ts : List D} {d : D} (e : Ok x (inj ts) fun o m => o = .nx () ∧ obj m = d) : ibody inj obj x ts = .ok d [] := by
  obtain ⟨o, m, e, rfl, h⟩ := e
  unfold ibody; rw [e, ← h]
/-- a def's answer, from what it comes to -/
theorem of_okS {x : SM μ D} {a : D} (h : Ok x m fun y m1 => y = a ∧ m1 = m') : x m = .ok a m' := by
  obtain ⟨y, m1, e, rfl, rfl⟩ := h
  exact e
/-- refusals -/
def Ex (x : SM μ α) (m : μ) (e : D) (m' : μ) : Prop := x m = .exc e m'
variable {e : D}
theorem ex_kZ {mf : List D → SM (List D) D} {xs : List D} {tsf : μ → List D} {pb : List D → μ → μ} {ts : List D} {k : D → SM μ β} (h : mf xs (tsf m) = .exc e ts) (hm : pb ts m = m') : Ex (bd (kZ mf xs tsf pb) k) m e m' := by
  refine bd_exc (m' := m') ?_
  unfold kZ; rw [h, ← hm]
theorem ex_kZo {mf : List D → SM (List D) D} {xs : List D} {tsf : μ → List D} {pb : List D → μ → μ} {ts : List D} {k : D → SM μ β} {x : D} {m1 : μ} (h : mf xs (tsf m) = .ok x ts) (hm : pb ts m = m1) (h2 : Ex (k x) m1 e m') : Ex (bd (kZ mf xs tsf pb) k) m e m' := by
  have : kZ mf xs tsf pb m = .ok x m1 := by unfold kZ; rw [h, ← hm]
  show bd _ _ m = _
  rw [bd_ok this]; exact h2
theorem ex_raise : Ex (SM.raise e : SM μ α) m e m := rfl
theorem ex_rdP {get : μ → D} {p : List Nat} {r : D} {k : D → SM μ β} (e1 : getP (get m) p = some r) (h : Ex (k r) m e m') : Ex (bd (rdP get p) k) m e m' := by
  show bd _ _ m = _
  rw [bd_ok (rdP_ok e1)]; exact h
theorem ex_fin {R : SM μ (Fl Unit ρ)} (h : Ex R m e m') : Ex (fin R) m e m' := bd_exc h
theorem ok_try {mt : D → Bool} {R : SM μ (Fl τ ρ)} {hnd : D → SM μ (Fl τ ρ)} {P : Fl τ ρ → μ → Prop} (h : Ok R m P) : Ok (tryS mt R hnd) m P := by
  obtain ⟨o, m1, e1, p⟩ := h
  exact ⟨o, m1, tryS_ok e1, p⟩
theorem ok_tryX {mt : D → Bool} {R : SM μ (Fl τ ρ)} {hnd : D → SM μ (Fl τ ρ)} {P : Fl τ ρ → μ → Prop} (h : Ex R m e m') (hm : mt e = true) (h2 : Ok (hnd e) m' P) : Ok (tryS mt R hnd) m P := by
  obtain ⟨o, m1, e1, p⟩ := h2
  refine ⟨o, m1, ?_, p⟩
  rw [tryS_exc h, if_pos hm]; exact e1
end
section
variable {μ τ ρ α β : Type} {m m' : μ} {P : β → μ → Prop} {k : D → SM μ β}
def kT (mk : List D → D) (tsf : μ → List D) (pb : List D → μ → μ) : SM μ D := fun m => .ok (mk (tsf m)) (pb (tsf m) m)
theorem r_zTup (Es : SM μ (List D × (μ → List D) × (List D → μ → μ))) : zTup Es = bd Es fun q => kT .tuple q.2.1 q.2.2 := nr rfl
theorem r_zLst (Es : SM μ (List D × (μ → List D) × (List D → μ → μ))) : zLst Es = bd Es fun q => kT .list q.2.1 q.2.2 := nr rfl
theorem ok_kT {mk : List D → D} {tsf : μ → List D} {pb : List D → μ → μ} {x : D} (hx : mk (tsf m) = x) (hm : pb (tsf m) m = m') (h : Ok (k x) m' P) : Ok (bd (kT mk tsf pb) k) m P := ok_bd ⟨mk (tsf m), _, rfl, by rw [hx, hm]; exact h⟩
theorem ok_rdrT {t : Ty} {E : μ → SM Unit D} {x : D} (e : E m = pu x) (l : lfT t x = true) (h : Ok (k x) m P) : Ok (bd (rdrT t E) k) m P := by
  refine ok_bd ⟨x, m, ?_, h⟩
  unfold rdrT; rw [e]; show (if lfT t x = true then _ else _) = _; rw [if_pos l]
theorem ok_nr1 {W : SM μ α} {p : α} {k : α → SM μ β} (e : W m = .ok p m') (h : Ok (k p) m' P) : Ok (bd (nr1 W) k) m P := ok_bd ⟨p, m', nr1_ok e, h⟩
theorem ixR0 (a : D) (l : List D) : ixR (.list (a :: l)) (.int 0) = some a := by
  unfold ixR ixD
  simp only
  have : ixN (a :: l).length 0 = some 0 := by unfold ixN; rw [if_pos (by decide), if_pos (by simp)]; rfl
  rw [this]; rfl
theorem ixR1 (a b : D) (l : List D) : ixR (.list (a :: b :: l)) (.int 1) = some b := by
  unfold ixR ixD
  simp only
  have : ixN (a :: b :: l).length 1 = some 1 := by unfold ixN; rw [if_pos (by decide), if_pos (by simp; omega)]; rfl
  rw [this]; rfl
theorem ok_nr1O {W : SM μ α} {k : α → SM μ β} (h : Ok W m fun p m' => Ok (k p) m' P) : Ok (bd (nr1 W) k) m P := by
  obtain ⟨p, m', e, h⟩ := h
  exact ok_bd ⟨p, m', nr1_ok e, h⟩
theorem ok_ofS {o : Option α} {x : α} {k : α → SM μ β} (e : o = some x) (h : Ok (k x) m P) : Ok (bd (of o) k) m P := ok_bd ⟨x, m, of_ok e m, h⟩
theorem zb_okP {inj : List D → μ} {prj : μ → List D} {x : SM μ D} {ts : List D} {Q : D → μ → Prop} (h : Ok x (inj ts) Q) : ∃ a m, zbody inj prj x ts = .ok a (prj m) ∧ Q a m := by
  obtain ⟨a, m, e, q⟩ := h
  exact ⟨a, m, zb_ok e rfl, q⟩
end
local macro_rules | `(tactic| walk_at "ev1") => `(tactic| simp only [r_bd, r_as, r_op2, r_op1, r_opL, r_ac, r_a0, r_of, r_cP, r_cPX, r_p0, r_p0r, r_rbd, r_cD, r_px, r_nr1, r_zN, r_zF, r_zV, r_zT, r_zP, r_cZ, r_cZ0, r_mkZ, r_mkZ0, r_cDl, r_zTup, r_zLst, ixR0, ixR1, r_qx, r_tb, r_tr, r_tand, r_tor, r_tnot, r_eand, r_eor, r_enot, r_eif, r_chain, r_fin, r_rt, r_nx, r_sq, r_sqr, r_sqb, r_unp2, r_unp3, r_unp4, r_par2, r_part0, r_part, r_slice, r_itS, r_itR, r_u0, r_u1, r_u2, r_u3, r_u4, r_u5, r_u6, r_u7, r_ift, r_iff, d_add, d_addI, d_subI, d_sub, d_neg, d_lt, d_le, d_gt, d_ge, d_eqI, d_neI, d_eqB, d_neB, d_isN, d_isntN, d_isB, d_isntB, d_nn, d_ni, d_nt, d_nl, d_nb, d_abs, d_max, d_maxT, d_min, d_int, d_intB, d_len, d_lenT, d_list, d_listT, d_tuple, d_tupleT, d_seq, d_seqT, d_bits, d_and, d_or, d_xor, d_truB, d_truL, d_lst0, d_lst1, d_lst2, d_lst3, d_lst4, d_lst5, d_lst6, d_tup1, d_tup2, d_tup3, d_tup4, d_ix0, d_ix1, d_ix2, d_ixl0, d_ixl1, d_ixl2, if_true, if_false, Bool.false_eq_true, Bool.not_true, Bool.not_false])
local macro_rules | `(tactic| walk_at "fl1") => `(tactic| simp only [op2, op1, opL, ac, a0, cP, cPX, cD, SM.tb, SM.tr, tand, tor, tnot, eand, eor, enot, eif, SM.chain, part0, SM.part, SM.slice, itS, itR, boolD, intO, r_bd, r_as, r_of, r_px, r_nr1, r_zN, r_zF, r_zV, r_zT, r_zP, r_cZ, r_cZ0, r_mkZ, r_mkZ0, r_cDl, r_zTup, r_zLst, ixR0, ixR1, r_p0, r_p0r, r_rbd, r_qx, r_fin, r_rt, r_nx, r_sq, r_sqr, r_sqb, r_unp2, r_unp3, r_unp4, r_par2, r_u0, r_u1, r_u2, r_u3, r_u4, r_u5, r_u6, r_u7, r_ift, r_iff, d_add, d_addI, d_subI, d_sub, d_neg, d_lt, d_le, d_gt, d_ge, d_eqI, d_neI, d_eqB, d_neB, d_isN, d_isntN, d_isB, d_isntB, d_nn, d_ni, d_nt, d_nl, d_nb, d_abs, d_max, d_maxT, d_min, d_int, d_intB, d_len, d_lenT, d_list, d_listT, d_tuple, d_tupleT, d_seq, d_seqT, d_bits, d_and, d_or, d_xor, d_truB, d_truL, d_lst0, d_lst1, d_lst2, d_lst3, d_lst4, d_lst5, d_lst6, d_tup1, d_tup2, d_tup3, d_tup4, d_ix0, d_ix1, d_ix2, d_ixl0, d_ixl1, d_ixl2, if_true, if_false, Bool.false_eq_true, Bool.not_true, Bool.not_false])
local macro_rules | `(tactic| walk_at "fj1") => `(tactic| simp only [op2, op1, opL, ac, a0, cP, cPX, cD, SM.tb, SM.tr, tand, tor, tnot, eand, eor, enot, eif, SM.chain, part0, SM.part, SM.slice, itS, itR, boolD, intO, r_bd, r_as, r_of, r_px, r_nr1, r_zN, r_zF, r_zV, r_zT, r_zP, r_cZ, r_cZ0, r_mkZ, r_mkZ0, r_cDl, r_zTup, r_zLst, ixR0, ixR1, r_p0, r_p0r, r_rbd, r_qx, r_rt, r_nx, r_sq, r_sqr, r_unp2, r_unp3, r_unp4, r_par2, r_u0, r_u1, r_u2, r_u3, r_u4, r_u5, r_u6, r_u7, r_ift, r_iff, d_add, d_addI, d_subI, d_sub, d_neg, d_lt, d_le, d_gt, d_ge, d_eqI, d_neI, d_eqB, d_neB, d_isN, d_isntN, d_isB, d_isntB, d_nn, d_ni, d_nt, d_nl, d_nb, d_abs, d_max, d_maxT, d_min, d_int, d_intB, d_len, d_lenT, d_list, d_listT, d_tuple, d_tupleT, d_seq, d_seqT, d_bits, d_and, d_or, d_xor, d_truB, d_truL, d_lst0, d_lst1, d_lst2, d_lst3, d_lst4, d_lst5, d_lst6, d_tup1, d_tup2, d_tup3, d_tup4, d_ix0, d_ix1, d_ix2, d_ixl0, d_ixl1, d_ixl2, if_true, if_false, Bool.false_eq_true, Bool.not_true, Bool.not_false])
local macro_rules | `(tactic| walk_at "fj") => `(tactic| try walk_at "fj1")
local macro_rules | `(tactic| walk_at "ps") => `(tactic| first | assumption | omega | exact tw_pos _ | (refine Int.mul_pos ?_ ?_ <;> walk_at "ps"))
local macro_rules | `(tactic| walk_at "r1") => `(tactic| first
  | (rw [d_mul]; rotate_left; exact fit_sz (by omega); exact fit_sz (by omega))
  | (rw [d_shl]; rotate_left; exact fit_sz (by omega); omega)
  | rw [d_shr]
  | (rw [d_mod]; rotate_left; walk_at "ps")
  | (rw [d_fdiv]; rotate_left; walk_at "ps"; exact log_sz (by walk_at "ps") (by omega)))
local macro_rules | `(tactic| walk_at "ev") => `(tactic| try walk_at "ev1")
local macro_rules | `(tactic| walk_at "fl") => `(tactic| try walk_at "fl1")
local macro_rules | `(tactic| walk_at "run") => `(tactic| (repeat (first | walk_at "ev1" | walk_at "r1")))
/-! ### what is drawn -/
def dkD (d0 d1 d2 : Int) : D := .list [.int d0, .int d1, .int d2]
def Dk (d : D) (n : Nat) : Prop := ∃ d0 d1 d2 : Int, d = dkD d0 d1 d2 ∧ 0 ≤ d0 ∧ 0 ≤ d1 ∧ d1 < 2147483648 ∧ 0 ≤ d2 ∧ d2 ≤ n
theorem Dk.le {d : D} {n k : Nat} (h : Dk d n) (e : n ≤ k) : Dk d k := by
  obtain ⟨d0, d1, d2, h1, h2, h3, h4, h5, h6⟩ := h
  exact ⟨d0, d1, d2, h1, h2, h3, h4, h5, by omega⟩
theorem c18 : powD (.int 10) (.int 18) = some (.int 1000000000000000000) := by
  have := d_pow (a := 10) (k := 18) (by decide) (by decide)
  exact this
theorem c12 : powD (.int 10) (.int 12) = some (.int 1000000000000) := by
  have := d_pow (a := 10) (k := 12) (by decide) (by decide)
  exact this
theorem ok_deck {c t : Int} {n : Nat} (h0 : 0 ≤ t) (h1 : t ≤ n) : ∃ d, m__law_deck (.int c) (.int t) = pu d ∧ Dk d n := by
  unfold m__law_deck
  walk_at "ev"
  rw [c18]
  walk_at "ev"
  by_cases h : 1000000000000000000 ≤ c
  · rw [decide_eq_true h]
    walk_at "ev"
    rw [d_mod (by decide)]
    walk_at "ev"
    refine ⟨_, rfl, _, _, _, rfl, by omega, by omega, by omega, h0, h1⟩
  · rw [decide_eq_false h]
    walk_at "ev"
    rw [d_mod (by decide)]
    walk_at "ev"
    refine ⟨_, rfl, _, _, _, rfl, by omega, by omega, by omega, h0, h1⟩
theorem gets_bd {μ β : Type} (f : μ → SM μ β) (m : μ) : bd gets f m = f m m := rfl
theorem puts_bd {μ β : Type} (x : μ) (f : Unit → SM μ β) (m : μ) : bd (puts x) f m = f () x := rfl
theorem set0 (a b c x : D) : setD (.list [a, b, c]) (.int 0) x = some (.list [x, b, c]) := rfl
theorem set2 (a b c x : D) : setD (.list [a, b, c]) (.int 2) x = some (.list [a, b, x]) := rfl
theorem dk_ix0 (a b c : Int) : idxD (dkD a b c) (.int 0) = some (.int a) := d_ixl0 _ _
theorem dk_ix1 (a b c : Int) : idxD (dkD a b c) (.int 1) = some (.int b) := d_ixl1 _ _ _
theorem dk_ix2 (a b c : Int) : idxD (dkD a b c) (.int 2) = some (.int c) := d_ixl2 _ _ _ _
theorem ok_pick {k : Int} {d : D} {n : Nat} (hd : Dk d n) (hn : n ≤ 1000000000) (hk : 0 < k) (hk2 : k.natAbs.log2 < 9000) : Ok (m__law_pick (.int k)) d fun x d' => ∃ v, x = .int v ∧ 0 ≤ v ∧ v < k ∧ Dk d' (n + 1) := by
  obtain ⟨d0, d1, d2, rfl, h0, h1, h2, h3, h4⟩ := hd
  have e1 : (m__law_pick (.int k)) (dkD d0 d1 d2) = (if 1 < d0 then Rs.ok (.int (d0 % k)) (dkD (d0 / k) d1 d2) else
      if 1000000 < k then Rs.ok (.int ((((d1 + 15485867 * (d2 + 1)) ^ 5 % 2147483647 + 7919 * (d2 + 1)) ^ 3 % 2147483629 / 32 * 2147483563 + (d1 + 15485867 * (d2 + 1)) ^ 5 % 2147483647) % k)) (dkD d0 d1 (d2 + 1))
      else Rs.ok (.int (((d1 + 15485867 * (d2 + 1)) ^ 5 % 2147483647 + 7919 * (d2 + 1)) ^ 3 % 2147483629 / 32 % k)) (dkD d0 d1 (d2 + 1))) := by
    have p5 : ∀ x : Int, x.natAbs < 2 ^ 64 → powD (.int x) (.int 5) = some (.int (x ^ 5)) := fun x h => d_pow (k := 5) h (by decide)
    have p3 : ∀ x : Int, x.natAbs < 2 ^ 64 → powD (.int x) (.int 3) = some (.int (x ^ 3)) := fun x h => d_pow (k := 3) h (by decide)
    have m1 : ∀ x : Int, -(2 ^ 60) < x → x < 2 ^ 60 → mulD (.int 15485867) (.int x) = some (.int (15485867 * x)) := fun x g1 g2 => d_mul (fit_of (n := 64) (by decide) (by decide)) (fit_of (n := 64) (by omega) (by decide))
    have m2 : ∀ x : Int, -(2 ^ 60) < x → x < 2 ^ 60 → mulD (.int 7919) (.int x) = some (.int (7919 * x)) := fun x g1 g2 => d_mul (fit_of (n := 64) (by decide) (by decide)) (fit_of (n := 64) (by omega) (by decide))
    have m3 : ∀ x : Int, -(2 ^ 60) < x → x < 2 ^ 60 → mulD (.int x) (.int 2147483563) = some (.int (x * 2147483563)) := fun x g1 g2 => d_mul (fit_of (n := 64) (by omega) (by decide)) (fit_of (n := 64) (by decide) (by decide))
    unfold m__law_pick
    walk_at "fl"
    rw [gets_bd, dk_ix0]
    walk_at "fl"
    by_cases c : 1 < d0
    · rw [decide_eq_true c, if_pos c]
      walk_at "fl"
      rw [gets_bd, dk_ix0]
      walk_at "fl"
      rw [d_mod hk]
      walk_at "fl"
      rw [gets_bd, dk_ix0]
      walk_at "fl"
      rw [d_fdiv hk hk2]
      walk_at "fl"
      rw [gets_bd, dkD, set0]
      rfl
    · rw [decide_eq_false c, if_neg c]
      walk_at "fl"
      rw [gets_bd, dk_ix2]
      walk_at "fl"
      rw [gets_bd, dkD, set2]
      walk_at "fl"
      rw [puts_bd, gets_bd, d_ixl1]
      walk_at "fl"
      rw [gets_bd, d_ixl2]
      walk_at "fl"
      rw [m1 _ (by omega) (by omega)]
      walk_at "fl"
      rw [p5 _ (by omega)]
      walk_at "fl"
      rw [d_mod (by decide)]
      walk_at "fl"
      rw [gets_bd, d_ixl2]
      walk_at "fl"
      rw [m2 _ (by omega) (by omega)]
      walk_at "fl"
      rw [p3 _ (by omega)]
      walk_at "fl"
      rw [d_mod (by decide)]
      walk_at "fl"
      rw [d_fdiv (by decide) (by decide)]
      walk_at "fl"
      by_cases c2 : 1000000 < k
      · rw [decide_eq_true c2, if_pos c2]
        walk_at "fl"
        rw [m3 _ (by omega) (by omega)]
        walk_at "fl"
        rw [d_mod hk]
        rfl
      · rw [decide_eq_false c2, if_neg c2]
        walk_at "fl"
        rw [d_mod hk]
        rfl
  by_cases c : 1 < d0
  · rw [if_pos c] at e1
    exact ⟨_, _, e1, _, rfl, Int.emod_nonneg _ (by omega), Int.emod_lt_of_pos _ hk, _, _, _, rfl, Int.ediv_nonneg h0 (by omega), h1, h2, h3, by omega⟩
  · rw [if_neg c] at e1
    by_cases c2 : 1000000 < k
    · rw [if_pos c2] at e1
      exact ⟨_, _, e1, _, rfl, Int.emod_nonneg _ (by omega), Int.emod_lt_of_pos _ hk, _, _, _, rfl, h0, h1, h2, by omega, by omega⟩
    · rw [if_neg c2] at e1
      exact ⟨_, _, e1, _, rfl, Int.emod_nonneg _ (by omega), Int.emod_lt_of_pos _ hk, _, _, _, rfl, h0, h1, h2, by omega, by omega⟩
local macro_rules | `(tactic| walk_at "pk") => `(tactic| refine ok_bd (ok_qx ((ok_pick (by assumption) (by omega) (by first | decide | omega) (by first | decide | exact log_sz (by omega) (by omega))).mono ?_)))
theorem ix_some {xs : List D} {v : Int} (h0 : 0 ≤ v) (h1 : v < xs.length) : ∃ y, y ∈ xs ∧ idxD (.list xs) (.int v) = some y := by
  obtain ⟨k, rfl⟩ := Int.eq_ofNat_of_zero_le h0
  have hk : k < xs.length := by omega
  exact ⟨xs[k], List.getElem_mem hk, atI_nat (List.getElem?_eq_getElem hk)⟩
theorem ok_kind {d : D} {n : Nat} (hd : Dk d n) (hn : n ≤ 900000000) : Ok m__law_kind d fun x d' => ∃ b m, x = .tuple [.int b, .int m] ∧ ((b = 2 ∨ b = 4 ∨ b = 8 ∨ b = 16) ∧ b / 2 ≤ m ∧ m ≤ b - 1) ∧ Dk d' (n + 2) := by
  unfold m__law_kind
  walk_at "fl"
  walk_at "pk"
  rintro _ d1 ⟨v, rfl, v0, v1, hd1⟩
  obtain ⟨y, my, ey⟩ := ix_some (xs := [PyData.int 2, .int 4, .int 4, .int 8, .int 16]) v0 (by show v < 5; omega)
  rw [ey]
  have hb : ∃ b : Int, y = .int b ∧ (b = 2 ∨ b = 4 ∨ b = 8 ∨ b = 16) := by
    simp only [List.mem_cons, List.not_mem_nil, or_false] at my
    rcases my with e | e | e | e | e <;> exact ⟨_, e, by decide⟩
  obtain ⟨b, rfl, hb⟩ := hb
  walk_at "fl"
  rw [d_fdiv (by decide) (by decide)]
  walk_at "fl"
  have i : Sz (b - b / 2) 64 := ⟨by omega⟩
  walk_at "pk"
  rintro _ d2 ⟨v2, rfl, w0, w1, hd2⟩
  walk_at "fl"
  exact ok_pu ⟨b, _, rfl, ⟨hb, by omega, by omega⟩, hd2⟩
/-! ### kinds -/
abbrev t2 (a b : Int) : D := .tuple [.int a, .int b]
def Kd (b m : Int) : Prop := (b = 2 ∨ b = 4 ∨ b = 8 ∨ b = 16) ∧ b / 2 ≤ m ∧ m ≤ b - 1
theorem Kd.bd {b m : Int} (h : Kd b m) : 2 ≤ b ∧ b ≤ 16 ∧ 1 ≤ m ∧ m ≤ 15 ∧ m < b ∧ b ≤ 2 * m ∧ 2 ≤ b * m ∧ b * m ≤ 240 := by
  obtain ⟨h1, h2, h3⟩ := h
  rcases h1 with e | e | e | e <;> subst e <;> refine ⟨?_, ?_, ?_, ?_, ?_, ?_, ?_, ?_⟩ <;> omega
theorem Kd.sb {b m : Int} (h : Kd b m) : Sz b 5 := ⟨by have := h.bd; omega⟩
theorem Kd.sm {b m : Int} (h : Kd b m) : Sz m 5 := ⟨by have := h.bd; omega⟩
/-! ### what rows are worth -/
section
variable {b m : Int}
def worthF (b : Int) (fs : List Int) : Int := fs.foldl (fun a f => a * b + f) 0
theorem worth_snoc (b f : Int) (fs : List Int) : worthF b (fs ++ [f]) = worthF b fs * b + f := by unfold worthF; rw [List.foldl_append]; rfl
theorem worth_bd (hk : Kd b m) : ∀ (fs : List Int), (∀ f ∈ fs, -m ≤ f ∧ f ≤ m) → (worthF b fs).natAbs + 1 ≤ 2 ^ (4 * fs.length) := by
  have kb := hk.bd
  have key : ∀ (fs : List Int) (a : Int) (k : Nat), a.natAbs + 1 ≤ 2 ^ k → (∀ f ∈ fs, -m ≤ f ∧ f ≤ m) → (fs.foldl (fun a f => a * b + f) a).natAbs + 1 ≤ 2 ^ (k + 4 * fs.length) := by
    intro fs
    induction fs with
    | nil => intro a k h _; exact h
    | cons f fs ih =>
      intro a k h hf
      have h1 := hf f (.head _)
      have h2 : (a * b).natAbs ≤ a.natAbs * 16 := by
        rw [Int.natAbs_mul]
        exact Nat.mul_le_mul_left _ (by omega)
      have h3 : (a * b + f).natAbs + 1 ≤ 2 ^ (k + 4) := by
        rw [Nat.pow_add]
        have : (2 : Nat) ^ 4 = 16 := rfl
        rw [this]
        have := Nat.mul_le_mul_right 16 h
        omega
      have := ih (a * b + f) (k + 4) h3 fun g hg => hf g (.tail _ hg)
      rw [List.foldl_cons, List.length_cons]
      rw [show k + 4 * (fs.length + 1) = k + 4 + 4 * fs.length by omega]
      exact this
  intro fs hf
  have := key fs 0 0 (by decide) hf
  rw [Nat.zero_add] at this
  exact this
theorem int_get {fs : List Int} {i : Nat} {x : D} (h : (fs.map PyData.int)[i]? = some x) : ∃ hi : i < fs.length, x = .int fs[i] := by
  rw [List.getElem?_map] at h
  cases e : fs[i]? with
  | none => rw [e] at h; cases h
  | some f =>
    rw [e] at h
    cases h
    obtain ⟨hi, e2⟩ := List.getElem?_eq_some_iff.mp e
    exact ⟨hi, by rw [e2]⟩
theorem for_runW {μ τ ρ : Type} {xs : List D} {b : D → τ → SM μ (Fl τ τ)} {s0 : τ} (S : Nat → τ) (hs : s0 = S 0) (h : ∀ i x, xs[i]? = some x → b x (S i) = pu (.nx (S (i + 1)))) : (forS xs s0 b : SM μ (Fl τ ρ)) = pu (.nx (S xs.length)) := by
  subst hs
  induction xs generalizing S with
  | nil => rfl
  | cons x xs ih =>
    show bd (b x (S 0)) _ = _
    rw [h 0 x rfl, pu_bd]
    exact ih (fun i => S (i + 1)) fun i y hy => h (i + 1) y hy
end
/-! ### data that can be held against data -/
def flat : PyData → Bool
  | .int _ => true
  | .bool _ => true
  | .none => true
  | _ => false
theorem flat_ok {d : PyData} (h : flat d = true) : d.canLay0 = true ∧ d.depth = 0 := by
  cases d with
  | int i => exact ⟨by simp only [PyData.canLay0], by simp only [PyData.depth]⟩
  | bool i => exact ⟨by simp only [PyData.canLay0], by simp only [PyData.depth]⟩
  | none => exact ⟨by simp only [PyData.canLay0], by simp only [PyData.depth]⟩
  | str x => cases h
  | list x => cases h
  | tuple x => cases h
  | dict x => cases h
theorem flats_ok : ∀ {ds : List PyData}, (∀ d ∈ ds, flat d = true) → PyData.canLayAll0 ds = true ∧ PyData.depthAll ds = 0
  | [], _ => ⟨by simp only [PyData.canLayAll0], by simp only [PyData.depthAll]⟩
  | d :: ds, h => by
    obtain ⟨h1, h2⟩ := flat_ok (h d (.head _))
    obtain ⟨h3, h4⟩ := flats_ok (ds := ds) fun x m => h x (.tail _ m)
    exact ⟨by simp only [PyData.canLayAll0]; rw [h1, h3]; rfl, by simp only [PyData.depthAll]; rw [h2, h4]; rfl⟩
theorem flats_ints {ns : List Int} : ∀ d ∈ ns.map PyData.int, flat d = true := fun d m => by
  obtain ⟨n, _, rfl⟩ := List.mem_map.mp m
  rfl
theorem shaped_of {d : PyData} (h1 : d.canLay0 = true) (h2 : d.depth ≤ 64) : SeqAt.shaped d = true := by
  unfold SeqAt.shaped
  rw [h1, decide_eq_true h2]; rfl
theorem shaped_flats {ds : List PyData} (h : ∀ d ∈ ds, flat d = true) : SeqAt.shaped (.list ds) = true := by
  obtain ⟨h1, h2⟩ := flats_ok h
  refine shaped_of ?_ ?_
  · simp only [PyData.canLay0]; exact h1
  · simp only [PyData.depth]; omega
theorem shaped_flatsT {ds : List PyData} (h : ∀ d ∈ ds, flat d = true) : SeqAt.shaped (.tuple ds) = true := by
  obtain ⟨h1, h2⟩ := flats_ok h
  refine shaped_of ?_ ?_
  · simp only [PyData.canLay0]; exact h1
  · simp only [PyData.depth]; omega
theorem shaped_ints (ns : List Int) : SeqAt.shaped (.list (ns.map PyData.int)) = true := shaped_flats flats_ints
theorem shaped_intsT (ns : List Int) : SeqAt.shaped (.tuple (ns.map PyData.int)) = true := shaped_flatsT flats_ints
theorem eqv_ints : ∀ (ns ms : List Int), PyData.eqvAll (ns.map PyData.int) (ms.map PyData.int) = decide (ns = ms)
  | [], [] => by simp [PyData.eqvAll]
  | [], _ :: _ => by simp [PyData.eqvAll]
  | _ :: _, [] => by simp [PyData.eqvAll]
  | n :: ns, m :: ms => by
    simp only [List.map_cons, PyData.eqvAll, PyData.eqv]
    rw [eqv_ints ns ms]
    by_cases h : n = m
    · subst h; simp
    · simp [h]
/-- a list of tuples of ints -/
def tupsI (xs : List (List Int)) : PyData := .list (xs.map fun ns => .tuple (ns.map PyData.int))
theorem tups_ok : ∀ (xs : List (List Int)), PyData.canLayAll0 (xs.map fun ns => .tuple (ns.map PyData.int)) = true ∧ PyData.depthAll (xs.map fun ns => .tuple (ns.map PyData.int)) ≤ 1
  | [] => ⟨by simp only [List.map_nil, PyData.canLayAll0], by simp only [List.map_nil, PyData.depthAll]; omega⟩
  | ns :: xs => by
    obtain ⟨h1, h2⟩ := tups_ok xs
    obtain ⟨h3, h4⟩ := flats_ok (flats_ints (ns := ns))
    refine ⟨?_, ?_⟩
    · simp only [List.map_cons, PyData.canLayAll0, PyData.canLay0]
      rw [h1, h3]; rfl
    · simp only [List.map_cons, PyData.depthAll, PyData.depth]
      omega
theorem shaped_tups (xs : List (List Int)) : SeqAt.shaped (tupsI xs) = true := by
  obtain ⟨h1, h2⟩ := tups_ok xs
  unfold tupsI
  refine shaped_of ?_ ?_
  · simp only [PyData.canLay0]; exact h1
  · simp only [PyData.depth]; omega
theorem d_neL (ns ms : List Int) : neD (.list (ns.map .int)) (.list (ms.map .int)) = some (.bool (!decide (ns = ms))) := by
  unfold neD
  rw [shaped_ints, shaped_ints, PyData.eqv, eqv_ints]; rfl
theorem d_eqL (ns ms : List Int) : eqD (.list (ns.map .int)) (.list (ms.map .int)) = some (.bool (decide (ns = ms))) := by
  unfold eqD
  rw [shaped_ints, shaped_ints, PyData.eqv, eqv_ints]; rfl
theorem d_neL0 (ns : List Int) : neD (.list (ns.map .int)) (.list []) = some (.bool (!decide (ns = []))) := d_neL ns []
theorem r_lc {μ : Type} {T : D → SM μ Bool} {E : D → SM μ D} (xs : List D) : SM.lc (pu xs) T E = bd (lcS T E xs []) fun ys => pu (.list ys) := rfl
theorem lc_map {μ : Type} {T : D → SM μ Bool} {E : D → SM μ D} {g : D → D} : ∀ (xs acc : List D), (∀ x ∈ xs, T x = pu true) → (∀ x ∈ xs, E x = pu (g x)) → acc.length + xs.length ≤ sizeLine → lcS T E xs acc = pu (acc ++ xs.map g)
  | [], acc, _, _, _ => by rw [List.map_nil, List.append_nil]; rfl
  | x :: xs, acc, hT, hE, h => by
    rw [List.length_cons] at h
    show bd (T x) _ = _
    rw [hT x (.head _), pu_bd, if_pos rfl, hE x (.head _), pu_bd, if_pos (by omega), lc_map xs _ (fun y hy => hT y (.tail _ hy)) (fun y hy => hE y (.tail _ hy)) (by rw [List.length_append, List.length_singleton]; omega), List.append_assoc]
    rfl
theorem cut_ints (ns : List Int) (lo hi : Option Int) : ∃ ms : List Int, ms.length ≤ ns.length ∧ cutD (ns.map PyData.int) lo hi = ms.map .int := by
  unfold cutD
  refine ⟨(ns.drop (HT.sIx (ns.map PyData.int).length 0 lo)).take (HT.sIx (ns.map PyData.int).length (ns.map PyData.int).length hi - HT.sIx (ns.map PyData.int).length 0 lo), ?_, ?_⟩
  · rw [List.length_take, List.length_drop]; omega
  · rw [List.map_take, List.map_drop]
theorem sli_scr {ns : List Int} {lo hi : Option Int} (h : ns.length ≤ 63) : ∃ ms : List Int, ms.length ≤ 63 ∧ sliD (scrD (ns.map .int)) lo hi = some (.list (ms.map .int)) := by
  obtain ⟨ms, h1, h2⟩ := cut_ints ns lo hi
  exact ⟨ms, by omega, by show some (PyData.list (cutD _ _ _)) = _; rw [h2]⟩
/-! ### data that can be held against data -/
theorem dep_list (xs : List D) : (PyData.list xs).depth = PyData.depthAll xs + 1 := by simp only [PyData.depth]
theorem dep_tup (xs : List D) : (PyData.tuple xs).depth = PyData.depthAll xs + 1 := by simp only [PyData.depth]
/-- data that can be held against data, at most n deep -/
def Lay (n : Nat) (d : D) : Prop := d.canLay0 = true ∧ d.depth ≤ n
theorem lay_all {n : Nat} : ∀ {xs : List D}, (∀ x ∈ xs, Lay n x) → PyData.canLayAll0 xs = true ∧ PyData.depthAll xs ≤ n
  | [], _ => ⟨by simp only [PyData.canLayAll0], by simp only [PyData.depthAll]; omega⟩
  | x :: xs, h => by
    obtain ⟨h1, h2⟩ := h x (.head _)
    obtain ⟨h3, h4⟩ := lay_all (xs := xs) fun y hy => h y (.tail _ hy)
    exact ⟨by simp only [PyData.canLayAll0]; rw [h1, h3]; rfl, by simp only [PyData.depthAll]; omega⟩
theorem all_lay {n : Nat} : ∀ {xs : List D}, PyData.canLayAll0 xs = true → PyData.depthAll xs ≤ n → ∀ x ∈ xs, Lay n x
  | [], _, _, x, hx => by cases hx
  | y :: ys, h1, h2, x, hx => by
    simp only [PyData.canLayAll0, Bool.and_eq_true] at h1
    simp only [PyData.depthAll] at h2
    rcases List.mem_cons.mp hx with e | e
    · subst e; exact ⟨h1.1, by omega⟩
    · exact all_lay (xs := ys) h1.2 (by omega) x e
theorem lay_list {n : Nat} {xs : List D} (h : ∀ x ∈ xs, Lay n x) : Lay (n + 1) (.list xs) := by
  obtain ⟨h1, h2⟩ := lay_all h
  exact ⟨by simp only [PyData.canLay0]; exact h1, by rw [dep_list]; omega⟩
theorem lay_tup {n : Nat} {xs : List D} (h : ∀ x ∈ xs, Lay n x) : Lay (n + 1) (.tuple xs) := by
  obtain ⟨h1, h2⟩ := lay_all h
  exact ⟨by simp only [PyData.canLay0]; exact h1, by rw [dep_tup]; omega⟩
theorem lay_of_list {n : Nat} {xs : List D} (h : Lay n (.list xs)) : ∀ x ∈ xs, Lay n x := by
  obtain ⟨h1, h2⟩ := h
  rw [dep_list] at h2
  simp only [PyData.canLay0] at h1
  exact all_lay h1 (by omega)
theorem Lay.le {n k : Nat} {d : D} (h : Lay n d) (e : n ≤ k) : Lay k d := ⟨h.1, Nat.le_trans h.2 e⟩
theorem Lay.shaped {n : Nat} {d : D} (h : Lay n d) (e : n ≤ 64) : SeqAt.shaped d = true := shaped_of h.1 (Nat.le_trans h.2 e)
theorem lay_int (i : Int) {n : Nat} : Lay n (.int i) := ⟨by simp only [PyData.canLay0], by simp only [PyData.depth]; omega⟩
theorem lay_bool (i : Bool) {n : Nat} : Lay n (.bool i) := ⟨by simp only [PyData.canLay0], by simp only [PyData.depth]; omega⟩
theorem lay_none {n : Nat} : Lay n .none := ⟨by simp only [PyData.canLay0], by simp only [PyData.depth]; omega⟩
theorem lay_str {x : Str} (h : (PyData.str x).canLay0 = true) {n : Nat} : Lay n (.str x) := ⟨h, by simp only [PyData.depth]; omega⟩
/-! ### loops, by what they come to -/
theorem for_ex {μ τ ρ : Type} {b : D → τ → SM μ (Fl τ τ)} : ∀ (xs : List D) (k : Nat) (I : Nat → τ → Prop) (s0 : τ), I k s0 → (∀ i x s, xs[i]? = some x → I (k + i) s → ∃ s', b x s = pu (.nx s') ∧ I (k + i + 1) s') → ∃ s, (forS xs s0 b : SM μ (Fl τ ρ)) = pu (.nx s) ∧ I (k + xs.length) s
  | [], k, I, s0, h0, _ => ⟨s0, rfl, h0⟩
  | x :: xs, k, I, s0, h0, hs => by
    obtain ⟨s1, e1, h1⟩ := hs 0 x s0 rfl h0
    obtain ⟨s2, e2, h2⟩ := for_ex xs (k + 1) I s1 h1 fun i y s hy h => by
      have := hs (i + 1) y s hy (by rw [show k + (i + 1) = k + 1 + i by omega]; exact h)
      rw [show k + (i + 1) + 1 = k + 1 + i + 1 by omega] at this
      exact this
    refine ⟨s2, ?_, by rw [List.length_cons, show k + (xs.length + 1) = k + 1 + xs.length by omega]; exact h2⟩
    show bd (b x s0) _ = _
    rw [e1, pu_bd]
    exact e2
theorem for_ex0 {μ τ ρ : Type} {b : D → τ → SM μ (Fl τ τ)} {xs : List D} {s0 : τ} (I : Nat → τ → Prop) (h0 : I 0 s0) (hs : ∀ i x s, xs[i]? = some x → I i s → ∃ s', b x s = pu (.nx s') ∧ I (i + 1) s') : ∃ s, (forS xs s0 b : SM μ (Fl τ ρ)) = pu (.nx s) ∧ I xs.length s := by
  obtain ⟨s, e, h⟩ := for_ex (ρ := ρ) xs 0 I s0 h0 fun i x s hx h => by
    rw [Nat.zero_add] at h ⊢
    exact hs i x s hx h
  rw [Nat.zero_add] at h
  exact ⟨s, e, h⟩
theorem while_ex {μ τ ρ : Type} {T : τ → SM μ Bool} {b : τ → SM μ (Fl τ τ)} {E : τ → Prop} (I : τ → Nat → Prop) (h : ∀ s k, I s k → (T s = pu false ∧ E s) ∨ (T s = pu true ∧ ∃ s' k', b s = pu (.nx s') ∧ k' < k ∧ I s' k')) : ∀ (F k : Nat) (s : τ), I s k → k < F → ∃ s', (whileS F T b s : SM μ (Fl τ ρ)) = pu (.nx s') ∧ E s'
  | 0, k, s, _, hk => by omega
  | F + 1, k, s, hI, hk => by
    rcases h s k hI with ⟨h1, h2⟩ | ⟨h1, s', k', h2, h3, h4⟩
    · refine ⟨s, ?_, h2⟩
      show bd (T s) _ = _
      rw [h1, pu_bd]; rfl
    · obtain ⟨s2, e2, h5⟩ := while_ex (ρ := ρ) I h F k' s' h4 (by omega)
      refine ⟨s2, ?_, h5⟩
      show bd (T s) _ = _
      rw [h1, pu_bd, if_pos rfl, h2, pu_bd]
      exact e2
theorem lc_none {μ : Type} {T : D → SM μ Bool} {E : D → SM μ D} : ∀ (xs acc : List D), (∀ x ∈ xs, T x = pu false) → lcS T E xs acc = pu acc
  | [], acc, _ => rfl
  | x :: xs, acc, h => by
    show bd (T x) _ = _
    rw [h x (.head _), pu_bd]
    exact lc_none xs acc fun y hy => h y (.tail _ hy)
theorem r_lcN {μ : Type} {T : D → SM μ Bool} {E : D → SM μ D} {xs : List D} (h : ∀ x ∈ xs, T x = pu false) : SM.lc (pu xs) T E = pu (.list []) := by
  show bd (pu xs) _ = _
  rw [pu_bd, lc_none xs [] h, pu_bd]
theorem lc_allE {μ : Type} {T : D → SM μ Bool} {E : D → SM μ D} {g : D → D} : ∀ (xs acc : List D), (∀ x ∈ xs, T x = pu true) → (∀ x ∈ xs, E x = pu (g x)) → acc.length + xs.length ≤ 1000000 → lcS T E xs acc = pu (acc ++ xs.map g)
  | [], acc, _, _, _ => by rw [List.map_nil, List.append_nil]; rfl
  | x :: xs, acc, hT, hE, hl => by
    rw [List.length_cons] at hl
    show bd (T x) _ = _
    rw [hT x (.head _), pu_bd, if_pos rfl, hE x (.head _), pu_bd, if_pos (Nat.lt_of_le_of_lt (show acc.length ≤ 1000000 by omega) (by decide)), lc_allE xs (acc ++ [g x]) (fun y hy => hT y (.tail _ hy)) (fun y hy => hE y (.tail _ hy)) (by rw [List.length_append, List.length_singleton]; omega)]
    rw [List.map_cons, List.append_assoc]; rfl
theorem r_lcA {μ : Type} {T : D → SM μ Bool} {E : D → SM μ D} {g : D → D} {xs : List D} (hT : ∀ x ∈ xs, T x = pu true) (hE : ∀ x ∈ xs, E x = pu (g x)) (hl : xs.length ≤ 1000000) : SM.lc (pu xs) T E = pu (.list (xs.map g)) := by
  show bd (pu xs) _ = _
  rw [pu_bd, lc_allE xs [] hT hE (by rw [List.length_nil]; omega), pu_bd, List.nil_append]
theorem ok_lcU {μ : Type} {T : D → SM μ Bool} {E : D → SM μ D} {I : List D → μ → Prop} {n : Nat} : ∀ (xs acc : List D) (m : μ), (∀ x ∈ xs, T x = pu true) → (∀ x ∈ xs, ∀ acc m, acc.length < n → I acc m → Ok (E x) m fun y m' => I (acc ++ [y]) m') → acc.length + xs.length ≤ n → n ≤ 1000000 → I acc m → Ok (lcS T E xs acc) m fun ys m' => ys.length = acc.length + xs.length ∧ I ys m'
  | [], acc, m, _, _, _, _, h => ⟨acc, m, rfl, rfl, h⟩
  | x :: xs, acc, m, hT, hE, hl, hn, h => by
    rw [List.length_cons] at hl
    show Ok (bd (T x) _) m _
    rw [hT x (.head _), pu_bd, if_pos rfl]
    refine ok_bd ((hE x (.head _) acc m (by omega) h).mono fun y m1 h1 => ?_)
    rw [if_pos (Nat.lt_of_le_of_lt (show acc.length ≤ 1000000 by omega) (by decide))]
    refine (ok_lcU xs (acc ++ [y]) m1 (fun z hz => hT z (.tail _ hz)) (fun z hz => hE z (.tail _ hz)) (by rw [List.length_append, List.length_singleton]; omega) hn h1).mono fun ys m2 h2 => ⟨?_, h2.2⟩
    rw [h2.1, List.length_append, List.length_singleton, List.length_cons]; omega
theorem ok_lcI {μ : Type} {T : D → SM μ Bool} {E : D → SM μ D} {I : List D → μ → Prop} {xs : List D} {m : μ} {P : D → μ → Prop} (hT : ∀ x ∈ xs, T x = pu true) (hn : xs.length ≤ 1000000) (h0 : I [] m) (hE : ∀ x ∈ xs, ∀ acc m, acc.length < xs.length → I acc m → Ok (E x) m fun y m' => I (acc ++ [y]) m')
    (hP : ∀ ys m', ys.length = xs.length → I ys m' → P (.list ys) m') : Ok (SM.lc (pu xs) T E) m P := by
  show Ok (bd (lcS T E xs []) fun ys => pu (.list ys)) m P
  refine ok_bd ((ok_lcU (n := xs.length) xs [] m hT hE (by rw [List.length_nil]; omega) hn h0).mono fun ys m1 h => ok_pu (hP ys m1 ?_ h.2))
  rw [h.1, List.length_nil]; omega
theorem lc_bd {μ α : Type} (x : SM μ α) (f : α → SM μ (List D)) (T : D → SM μ Bool) (E : D → SM μ D) : SM.lc (bd x f) T E = bd x fun a => SM.lc (f a) T E := bd_assoc _ _ _
theorem ne_nil : neD (.list []) (.list []) = some (.bool false) := by
  have : SeqAt.shaped (.list []) = true := shaped_ints []
  exact d_neS this
theorem ex_for {μ τ ρ ρ' γ : Type} {xs : List D} {s0 : τ} {b : D → τ → SM μ (Fl τ τ)} {k : τ → SM μ (Fl Unit ρ)} {f : γ → D} {P : γ → Prop} (I : Nat → τ → Prop) (h0 : I 0 s0) (hs : ∀ i x s, xs[i]? = some x → I i s → ∃ s', b x s = pu (.nx s') ∧ I (i + 1) s') (hk : ∀ s, I xs.length s → ∃ y, fin (k s) = pu (f y) ∧ P y) : ∃ y, fin (sq (forS xs s0 b) k) = pu (f y) ∧ P y := by
  obtain ⟨s, e, h⟩ := for_ex0 (ρ := ρ) I h0 hs
  obtain ⟨y, h1, h2⟩ := hk s h
  refine ⟨y, ?_, h2⟩
  rw [e, r_sq]; exact h1
theorem d_appX {ds : List D} {x : D} (h : ds.length ≤ 1000000) : appD (.list ds) x = some (.list (ds ++ [x])) := if_pos (Nat.lt_of_le_of_lt h (by decide))
theorem r_lcM {μ α : Type} {T : D → SM μ Bool} {E : D → SM μ D} {h g : α → D} {xs : List α} (hT : ∀ x ∈ xs, T (h x) = pu true) (hE : ∀ x ∈ xs, E (h x) = pu (g x)) (hl : xs.length ≤ 1000000) : SM.lc (pu (xs.map h)) T E = pu (.list (xs.map g)) := by
  have key : ∀ (xs : List α) (acc : List D), (∀ x ∈ xs, T (h x) = pu true) → (∀ x ∈ xs, E (h x) = pu (g x)) → acc.length + xs.length ≤ 1000000 → lcS T E (xs.map h) acc = pu (acc ++ xs.map g) := by
    intro xs
    induction xs with
    | nil => intro acc _ _ _; rw [List.map_nil, List.map_nil, List.append_nil]; rfl
    | cons x xs ih =>
      intro acc hT hE hl
      rw [List.length_cons] at hl
      rw [List.map_cons]
      show bd (T (h x)) _ = _
      rw [hT x (.head _), pu_bd, if_pos rfl, hE x (.head _), pu_bd, if_pos (Nat.lt_of_le_of_lt (show acc.length ≤ 1000000 by omega) (by decide)), ih (acc ++ [g x]) (fun y hy => hT y (.tail _ hy)) (fun y hy => hE y (.tail _ hy)) (by rw [List.length_append, List.length_singleton]; omega)]
      rw [List.map_cons, List.append_assoc]; rfl
  show bd (pu (xs.map h)) _ = _
  rw [pu_bd, key xs [] hT hE (by rw [List.length_nil]; omega), pu_bd, List.nil_append]
theorem ints_sum (ns : List Int) : sumD [.list (ns.map .int)] = some (.int ns.sum) := by
  have : ∀ ns : List Int, intsD (ns.map .int) = some ns := by
    intro ns
    induction ns with
    | nil => rfl
    | cons n ns ih =>
      show (intsD (ns.map PyData.int)).map (n :: ·) = _
      rw [ih]; rfl
  show (intsD (ns.map .int)).map _ = _
  rw [this]; rfl
theorem ok_whp {μ τ ρ ρ' : Type} {T : τ → SM μ Bool} {b : τ → SM μ (Fl τ τ)} {k : τ → SM μ (Fl ρ' ρ)} {m : μ} {P : Fl ρ' ρ → μ → Prop} {s0 : τ} {F : Nat} {E : τ → Prop} (I : τ → Nat → Prop) (k0 : Nat) (h0 : I s0 k0) (hF : k0 < F) (h : ∀ s k, I s k → (T s = pu false ∧ E s) ∨ (T s = pu true ∧ ∃ s' k', b s = pu (.nx s') ∧ k' < k ∧ I s' k')) (hk : ∀ s, E s → Ok (k s) m P) : Ok (sq (whileS F T b s0) k) m P := by
  obtain ⟨s, e, h1⟩ := while_ex (ρ := ρ) I h F k0 s0 h0 hF
  rw [e, r_sq]
  exact hk s h1
/-! ### comprehensions over two -/
theorem r_lc2 {μ : Type} {T : D → SM μ Bool} {E : D → SM μ D} {x y : D} {c1 c2 : Bool} (h1 : T x = pu c1) (h2 : T y = pu c2) (e1 : E x = pu x) (e2 : E y = pu y) : SM.lc (pu [x, y]) T E = pu (.list ((if c1 then [x] else []) ++ (if c2 then [y] else []))) := by
  have l0 : ([] : List D).length < sizeLine := by show 0 < sizeLine; decide
  have l1 : ([] ++ [x] : List D).length < sizeLine := by show 1 < sizeLine; decide
  have key : lcS T E [x, y] [] = pu ((if c1 then [x] else []) ++ (if c2 then [y] else [])) := by
    show bd (T x) _ = _
    rw [h1, pu_bd]
    cases c1 with
    | false =>
      rw [if_neg (by decide)]
      show bd (T y) _ = _
      rw [h2, pu_bd]
      cases c2 with
      | false => rfl
      | true =>
        rw [if_pos rfl, e2, pu_bd, if_pos l0]; rfl
    | true =>
      rw [if_pos rfl, e1, pu_bd, if_pos l0]
      show bd (T y) _ = _
      rw [h2, pu_bd]
      cases c2 with
      | false => rfl
      | true =>
        rw [if_pos rfl, e2, pu_bd, if_pos l1]; rfl
  show bd (pu [x, y]) _ = _
  rw [pu_bd]
  show bd (lcS T E [x, y] []) _ = _
  rw [key, pu_bd]
theorem r_lcT {μ : Type} {f : D → SM μ D} {x y a b : D} (h1 : f x = pu a) (h2 : f y = pu b) : SM.lc (pu [x, y]) (fun _ => pu true) f = (pu (.list [a, b]) : SM μ D) := by
  have key : lcS (fun _ => pu true) f [x, y] [] = (pu [a, b] : SM μ (List D)) := by
    show bd (pu true) _ = _
    rw [pu_bd, if_pos rfl]
    show bd (f x) _ = _
    rw [h1, pu_bd, if_pos (by show 0 < sizeLine; decide)]
    show bd (pu true) _ = _
    rw [pu_bd, if_pos rfl]
    show bd (f y) _ = _
    rw [h2, pu_bd, if_pos (by show 1 < sizeLine; decide)]
    rfl
  show bd (pu [x, y]) _ = _
  rw [pu_bd]
  show bd (lcS _ f [x, y] []) _ = _
  rw [key, pu_bd]
/-! ### things of any kind: whole numbers, figures -/
def figB (m : Int) : D → Bool
  | .int i => decide (-m ≤ i) && decide (i ≤ m)
  | _ => false
theorem d_ne0 {n : Nat} {xs : List D} (h : ∀ x ∈ xs, Lay n x) (e : n ≤ 60) : neD (.list xs) (.list []) = some (.bool (!xs.isEmpty)) := by
  unfold neD
  rw [(lay_list h).shaped (by omega), show SeqAt.shaped (.list []) = true from shaped_ints []]
  cases xs with
  | nil => simp [PyData.eqv, PyData.eqvAll]
  | cons x xs => simp [PyData.eqv, PyData.eqvAll]
theorem k_ni : kitB "NoneType" "int" = some false := by decide +kernel
theorem k_si : kitB "str" "int" = some false := by decide +kernel
theorem k_li : kitB "list" "int" = some false := by decide +kernel
theorem k_ti : kitB "tuple" "int" = some false := by decide +kernel
def isInt : D → Bool
  | .int _ => true
  | .bool _ => true
  | _ => false
theorem isi_int {d : D} (h : d.canLay0 = true) : isiD "int" d = some (.bool (isInt d)) := by
  rw [d_isi]
  cases d with
  | none => rw [show tyN .none = "NoneType" from rfl, k_ni]; rfl
  | bool b => rw [show tyN (.bool b) = "bool" from rfl, k_bi]; rfl
  | int b => rw [show tyN (.int b) = "int" from rfl, k_ii]; rfl
  | str b => rw [show tyN (.str b) = "str" from rfl, k_si]; rfl
  | list b => rw [show tyN (.list b) = "list" from rfl, k_li]; rfl
  | tuple b => rw [show tyN (.tuple b) = "tuple" from rfl, k_ti]; rfl
  | dict b => simp only [PyData.canLay0] at h; cases h
theorem isi_bB (i : Bool) : isiD "bool" (.bool i) = some (.bool true) := by rw [d_isi, show tyN (.bool i) = "bool" from rfl, k_bb]; rfl
theorem isi_bJ (i : Int) : isiD "bool" (.int i) = some (.bool false) := by rw [d_isi, show tyN (.int i) = "int" from rfl, k_ib]; rfl
def whlB : D → Bool
  | .int _ => true
  | _ => false
theorem e_is_whole {d : D} (h : d.canLay0 = true) : m_is_whole d = pu (.bool (whlB d)) := by
  unfold m_is_whole
  walk_at "ev"
  rw [isi_int h]
  walk_at "ev"
  cases d with
  | int i =>
    rw [show isInt (.int i) = true from rfl]
    walk_at "ev"
    rw [isi_bJ]
    walk_at "ev"
    rfl
  | bool i =>
    rw [show isInt (.bool i) = true from rfl]
    walk_at "ev"
    rw [isi_bB]
    walk_at "ev"
    rfl
  | _ => rfl
theorem e_law_wholeD {d : D} (h : d.canLay0 = true) : m__law_whole d = pu (.bool (whlB d)) := by
  unfold m__law_whole
  walk_at "ev"
  rw [isi_int h]
  walk_at "ev"
  cases d with
  | int i =>
    rw [show isInt (.int i) = true from rfl]
    walk_at "ev"
    rw [isi_bJ]
    walk_at "ev"
    rfl
  | bool i =>
    rw [show isInt (.bool i) = true from rfl]
    walk_at "ev"
    rw [isi_bB]
    walk_at "ev"
    rfl
  | _ => rfl
theorem e_is_figure {b m : Int} {d : D} (h : d.canLay0 = true) : m_is_figure (t2 b m) d = pu (.bool (figB m d)) := by
  unfold m_is_figure
  walk_at "ev"
  rw [e_is_whole h]
  walk_at "ev"
  cases d with
  | int i =>
    rw [show whlB (.int i) = true from rfl]
    walk_at "ev"
    show _ = pu (PyData.bool (decide (-m ≤ i) && decide (i ≤ m)))
    cases decide (-m ≤ i) <;> rfl
  | _ => rfl
theorem e_law_is_figure {b m : Int} {d : D} (h : d.canLay0 = true) : m__law_is_figure (t2 b m) d = pu (.bool (figB m d)) := by
  unfold m__law_is_figure
  walk_at "ev"
  rw [e_law_wholeD h]
  walk_at "ev"
  cases d with
  | int i =>
    rw [show whlB (.int i) = true from rfl]
    walk_at "ev"
    rw [show (0 : Int) - m = -m by omega]
    show _ = pu (PyData.bool (decide (-m ≤ i) && decide (i ≤ m)))
    cases decide (-m ≤ i) <;> rfl
  | _ => rfl
theorem figB_inv {m : Int} {d : D} (h : figB m d = true) : ∃ i : Int, d = .int i ∧ -m ≤ i ∧ i ≤ m := by
  cases d with
  | int i =>
    simp only [figB, Bool.and_eq_true, decide_eq_true_eq] at h
    exact ⟨i, rfl, h.1, h.2⟩
  | _ => simp [figB] at h
/-! ### things of any kind, drawn -/
theorem ok_lcS {μ : Type} {T : D → SM μ Bool} {E : D → SM μ D} {I : List D → μ → Prop} {n : Nat} : ∀ (xs acc : List D) (m : μ), (∀ x ∈ xs, T x = pu true) → (∀ x ∈ xs, ∀ acc m, acc.length < n → I acc m → Ok (E x) m fun y m' => I (acc ++ [y]) m') → acc.length + xs.length ≤ n → n ≤ 1000000 → I acc m → Ok (lcS T E xs acc) m fun ys m' => ys.length = acc.length + xs.length ∧ I ys m'
  | [], acc, m, _, _, _, _, h => ⟨acc, m, rfl, rfl, h⟩
  | x :: xs, acc, m, hT, hE, hl, hn, h => by
    rw [List.length_cons] at hl
    show Ok (bd (T x) _) m _
    rw [hT x (.head _), pu_bd, if_pos rfl]
    refine ok_bd ((hE x (.head _) acc m (by omega) h).mono fun y m1 h1 => ?_)
    rw [if_pos (Nat.lt_of_le_of_lt (show acc.length ≤ 1000000 by omega) (by decide))]
    refine (ok_lcS xs (acc ++ [y]) m1 (fun z hz => hT z (.tail _ hz)) (fun z hz => hE z (.tail _ hz)) (by rw [List.length_append, List.length_singleton]; omega) hn h1).mono fun ys m2 h2 => ⟨?_, h2.2⟩
    rw [h2.1, List.length_append, List.length_singleton, List.length_cons]; omega
theorem ok_lc {μ : Type} {T : D → SM μ Bool} {E : D → SM μ D} {I : List D → μ → Prop} {xs : List D} {m : μ} {P : D → μ → Prop} (hT : ∀ x ∈ xs, T x = pu true) (hn : xs.length ≤ 1000000) (h0 : I [] m) (hE : ∀ x ∈ xs, ∀ acc m, acc.length < xs.length → I acc m → Ok (E x) m fun y m' => I (acc ++ [y]) m')
    (hP : ∀ ys m', ys.length = xs.length → I ys m' → P (.list ys) m') : Ok (SM.lc (pu xs) T E) m P := by
  show Ok (bd (lcS T E xs []) fun ys => pu (.list ys)) m P
  refine ok_bd ((ok_lcS (n := xs.length) xs [] m hT hE (by rw [List.length_nil]; omega) hn h0).mono fun ys m1 h => ok_pu (hP ys m1 ?_ h.2))
  rw [h.1, List.length_nil]; omega
def cn : Nat → Nat
  | 0 => 10
  | n + 1 => 10 + 4 * cn n
theorem cn_ge (n : Nat) : 10 ≤ cn n := by cases n <;> simp [cn]
theorem p13 : powD (.int 10) (.int 13) = some (.int 10000000000000) := by
  have := d_pow (a := 10) (k := 13) (by decide) (by decide)
  exact this
theorem p59 : powD (.int 10) (.int 59) = some (.int (10 ^ 59)) := d_pow (a := 10) (k := 59) (by decide) (by decide)
theorem ok_thing_r : ∀ (k fu : Nat) (d : D) (n : Nat), k < fu → Dk d n → n + cn k ≤ 900000000 → Ok (m__law_thing_r fu (.int k)) d fun x d' => Lay (k + 1) x ∧ Dk d' (n + cn k)
  | k, 0, d, n, h, _, _ => by omega
  | k, fu + 1, d, n, hk, hd, hn => by
    have c10 := cn_ge k
    have i13 : Sz (10000000000000 : Int) 50 := ⟨by decide⟩
    unfold m__law_thing_r
    refine ok_fin ?_
    walk_at "fj"
    walk_at "pk"
    rintro _ d1 ⟨v1, rfl, v10, v11, hd1⟩
    walk_at "fj"
    walk_at "pk"
    rintro _ d2 ⟨v2, rfl, v20, v21, hd2⟩
    walk_at "fj"
    rw [p13]
    walk_at "fj"
    walk_at "pk"
    rintro _ d3 ⟨v3, rfl, v30, v31, hd3⟩
    walk_at "fj"
    rw [c12]
    walk_at "fj"
    rw [p59]
    walk_at "fj"
    walk_at "pk"
    rintro _ d4 ⟨v4, rfl, v40, v41, hd4⟩
    obtain ⟨y, my, ey⟩ := ix_some (xs := [PyData.int (v2 - 1), .int (v3 - 1000000000000), .int (0 - 10 ^ 59)]) v40 (by show v4 < 3; omega)
    rw [ey]
    have hy : Lay 0 y := by
      simp only [List.mem_cons, List.not_mem_nil, or_false] at my
      rcases my with e | e | e <;> (rw [e]; exact lay_int _)
    walk_at "fj"
    by_cases c1 : v1 < 4
    · rw [decide_eq_true c1]
      walk_at "fj"
      exact ok_pu ⟨_, .inl rfl, hy.le (by omega), hd4.le (by omega)⟩
    rw [decide_eq_false c1]
    walk_at "fj"
    by_cases c2 : v1 < 7
    · rw [decide_eq_true c2]
      walk_at "fj"
      obtain ⟨z, mz, ez⟩ := ix_some (xs := [PyData.bool true, .bool false, .none]) (v := v1 - 4) (by omega) (by show v1 - 4 < 3; omega)
      rw [ez]
      walk_at "fj"
      refine ok_pu ⟨_, .inl rfl, ?_, hd4.le (by omega)⟩
      simp only [List.mem_cons, List.not_mem_nil, or_false] at mz
      rcases mz with e | e | e
      · rw [e]; exact lay_bool _
      · rw [e]; exact lay_bool _
      · rw [e]; exact lay_none
    rw [decide_eq_false c2]
    walk_at "fj"
    by_cases c3 : v1 < 9
    · rw [decide_eq_true c3]
      walk_at "fj"
      walk_at "pk"
      rintro _ d5 ⟨v5, rfl, v50, v51, hd5⟩
      obtain ⟨z, mz, ez⟩ := ix_some (xs := [PyData.str "", .str "4", .str "none", .str "(4, 2)", .str "-1", .str "."]) v50 (by show v5 < 6; omega)
      rw [ez]
      walk_at "fj"
      refine ok_pu ⟨_, .inl rfl, ?_, hd5.le (by omega)⟩
      simp only [List.mem_cons, List.not_mem_nil, or_false] at mz
      rcases mz with e | e | e | e | e | e <;> (rw [e]; exact lay_str (by simp only [PyData.canLay0]; decide +kernel))
    rw [decide_eq_false c3]
    walk_at "fj"
    simp only [lc_bd, r_as]
    walk_at "pk"
    rintro _ d6 ⟨v6, rfl, v60, v61, hd6⟩
    have i6 : Sz v6 3 := ⟨by omega⟩
    walk_at "fj"
    -- how many
    have hmany : ∃ w : Nat, v6 * (if decide (0 < (k : Int)) = true then 1 else 0) = (w : Int) ∧ w ≤ 3 ∧ (k = 0 → w = 0) := by
      by_cases z : k = 0
      · subst z
        exact ⟨0, by simp, by omega, fun _ => rfl⟩
      · refine ⟨v6.toNat, ?_, by omega, fun y => absurd y z⟩
        rw [decide_eq_true (show 0 < (k : Int) by omega), if_pos rfl]
        omega
    obtain ⟨w, ew, hw, hw0⟩ := hmany
    rw [d_mul (fit_sz (n := 3) (by omega)) (fit_sz (n := 2) (by omega))]
    walk_at "fj"
    rw [ew, d_rng1 (by omega) (by omega)]
    walk_at "fj"
    have hlen : (rgL 0 (w : Int)).length = w := by rw [rgL_len]; omega
    refine ok_bd (ok_lc (I := fun acc d' => (∀ x ∈ acc, Lay k x) ∧ Dk d' (n + 6 + acc.length * cn (k - 1))) (fun _ _ => rfl) (by omega) ⟨(fun x hx => by cases hx), hd6.le (by omega)⟩ ?_ ?_)
    · intro x _ acc d7 hl ⟨h1, h2⟩
      rw [hlen] at hl
      have hk0 : k ≠ 0 := fun z => by have := hw0 z; omega
      obtain ⟨k', rfl⟩ : ∃ k', k = k' + 1 := ⟨k - 1, by omega⟩
      have ek : ((k' + 1 : Nat) : Int) - 1 = (k' : Int) := by omega
      have hcn : cn (k' + 1) = 10 + 4 * cn k' := rfl
      have hm := Nat.mul_le_mul_right (cn k') (show acc.length ≤ 2 by omega)
      rw [Nat.add_sub_cancel] at h2 ⊢
      rw [ek]
      refine ok_qx ((ok_thing_r k' fu d7 _ (by omega) h2 (by omega)).mono fun y d8 hy => ⟨fun z hz => ?_, ?_⟩)
      · rcases List.mem_append.mp hz with e | e
        · exact h1 z e
        · rw [List.mem_singleton.mp e]; exact hy.1
      · refine hy.2.le ?_
        rw [List.length_append, List.length_singleton, Nat.add_mul, Nat.one_mul]; omega
    · intro ys d9 hl ⟨h1, h2⟩
      rw [hlen] at hl
      have hb9 : Dk d9 (n + cn k) := by
        refine h2.le ?_
        cases k with
        | zero => rw [hl, hw0 rfl]; simp [cn]
        | succ k' =>
          have hm := Nat.mul_le_mul_right (cn k') (show ys.length ≤ 3 by omega)
          have hcn : cn (k' + 1) = 10 + 4 * cn k' := rfl
          rw [Nat.add_sub_cancel]; omega
      walk_at "fj"
      by_cases c9 : v1 = 9
      · rw [decide_eq_true c9]
        walk_at "fj"
        exact ok_pu ⟨_, .inl rfl, lay_list h1, hb9⟩
      · rw [decide_eq_false c9]
        walk_at "fj"
        exact ok_pu ⟨_, .inl rfl, lay_tup h1, hb9⟩
/-! ### two rows added: numbers -/
/-- the figure that is nearest -/
def nrF (m s w : Int) : Int := if (if (s + w / 2) / w < m then (s + w / 2) / w else m) > -m then (if (s + w / 2) / w < m then (s + w / 2) / w else m) else -m
section
variable {b m s x y S : Int} {F : List Int} {p : Nat}
theorem nr_bd (hk : Kd b m) (s w : Int) : -m ≤ nrF m s w ∧ nrF m s w ≤ m := by
  have := hk.bd
  unfold nrF
  generalize (s + w / 2) / w = q
  split <;> split <;> omega
theorem nr_step (hk : Kd b m) (h1 : -(b * b / 2) ≤ s) (h2 : s ≤ b * b / 2) (hx : -m ≤ x ∧ x ≤ m) (hy : -m ≤ y ∧ y ≤ m) : -(b * b / 2) ≤ s * b + x + y - nrF m (s * b + x + y) (b * b) * (b * b) ∧ s * b + x + y - nrF m (s * b + x + y) (b * b) * (b * b) ≤ b * b / 2 := by
  obtain ⟨h, h3, h4⟩ := hk
  rcases h with e | e | e | e <;> subst e <;> unfold nrF <;> simp only [Int.reduceMul, Int.reduceDiv, Int.reduceSub] at * <;> constructor <;> (split <;> split <;> omega)
theorem nr_first (hk : Kd b m) (hx : -m ≤ x ∧ x ≤ m) (hy : -m ≤ y ∧ y ≤ m) : -(b * b / 2) ≤ 0 * b + x + y ∧ 0 * b + x + y ≤ b * b / 2 := by
  obtain ⟨h, h3, h4⟩ := hk
  rcases h with e | e | e | e <;> subst e <;> simp only [Int.reduceMul, Int.reduceDiv, Int.reduceSub] at * <;> constructor <;> omega
theorem nr_end (hk : Kd b m) (h1 : -(b * b / 2) ≤ s) (h2 : s ≤ b * b / 2) : -m ≤ s - nrF m s b * b ∧ s - nrF m s b * b ≤ m := by
  obtain ⟨h, h3, h4⟩ := hk
  rcases h with e | e | e | e <;> subst e <;> unfold nrF <;> simp only [Int.reduceMul, Int.reduceDiv, Int.reduceSub] at * <;> constructor <;> (split <;> split <;> omega)
theorem nr_one (h1 : -m ≤ s) (h2 : s ≤ m) : nrF m s 1 = s := by
  have e : (s + 1 / 2) / 1 = s := by omega
  unfold nrF
  rw [e]
  split <;> split <;> omega
/-- what a summer stands at -/
structure SumI (b m s : Int) (F : List Int) (p : Nat) (S : Int) : Prop where
  fg : ∀ f ∈ F, -m ≤ f ∧ f ≤ m
  eq : S = worthF b F * (b * b) + s
  len : F.length = p - 1
  z : p = 0 → s = 0
  lo : -(b * b / 2) ≤ s
  hi : s ≤ b * b / 2
theorem sumI0 (hk : Kd b m) : SumI b m 0 [] 0 0 := by
  have : 0 ≤ b * b / 2 := by
    obtain ⟨h, _⟩ := hk
    rcases h with e | e | e | e <;> subst e <;> decide
  exact ⟨fun f h => (by cases h), (by unfold worthF; simp), rfl, fun _ => rfl, by omega, this⟩
theorem sumI_first (hk : Kd b m) (h : SumI b m s F 0 S) (hx : -m ≤ x ∧ x ≤ m) (hy : -m ≤ y ∧ y ≤ m) : SumI b m (s * b + x + y) F 1 (S * b + x + y) := by
  have hs := h.z rfl
  have hF : F = [] := List.eq_nil_of_length_eq_zero h.len
  subst hs hF
  have := nr_first hk hx hy
  have e := h.eq
  have e0 : S = 0 := by rw [e]; unfold worthF; simp
  subst e0
  exact ⟨fun f h => (by cases h), (by unfold worthF; simp), rfl, fun h => (by cases h), this.1, this.2⟩
theorem sumI_more (hk : Kd b m) (hp : 1 ≤ p) (h : SumI b m s F p S) (hx : -m ≤ x ∧ x ≤ m) (hy : -m ≤ y ∧ y ≤ m) : SumI b m (s * b + x + y - nrF m (s * b + x + y) (b * b) * (b * b)) (F ++ [nrF m (s * b + x + y) (b * b)]) (p + 1) (S * b + x + y) := by
  have h1 := nr_step hk h.lo h.hi hx hy
  refine ⟨fun f hf => ?_, ?_, ?_, fun h => by omega, h1.1, h1.2⟩
  · rcases List.mem_append.mp hf with z | z
    · exact h.fg f z
    · rw [List.mem_singleton.mp z]; exact nr_bd hk _ _
  · rw [worth_snoc, h.eq]; grind
  · have := h.len
    rw [List.length_append, List.length_singleton]; omega
/-- the last two figures -/
def lastTwo (b m s : Int) : List Int := [nrF m s b, nrF m (s - nrF m s b * b) 1]
theorem sumI_end (hk : Kd b m) (hp : 1 ≤ p) (h : SumI b m s F p S) : (∀ f ∈ F ++ lastTwo b m s, -m ≤ f ∧ f ≤ m) ∧ worthF b (F ++ lastTwo b m s) = S ∧ (F ++ lastTwo b m s).length = p + 1 := by
  have h1 := nr_end hk h.lo h.hi
  have h2 := nr_one h1.1 h1.2
  refine ⟨fun f hf => ?_, ?_, ?_⟩
  · rcases List.mem_append.mp hf with z | z
    · exact h.fg f z
    · unfold lastTwo at z
      simp only [List.mem_cons, List.not_mem_nil, or_false] at z
      rcases z with z | z <;> rw [z] <;> exact nr_bd hk _ _
  · unfold lastTwo
    rw [show F ++ [nrF m s b, nrF m (s - nrF m s b * b) 1] = (F ++ [nrF m s b]) ++ [nrF m (s - nrF m s b * b) 1] by simp, worth_snoc, worth_snoc, h2, h.eq]
    grind
  · have := h.len
    unfold lastTwo
    rw [List.length_append]
    show F.length + 2 = _
    omega
theorem sumI_end0 (hk : Kd b m) (h : SumI b m s F 0 S) : nrF m s 1 = 0 ∧ F = [] ∧ S = 0 ∧ s = 0 := by
  have hs := h.z rfl
  have hF : F = [] := List.eq_nil_of_length_eq_zero h.len
  have kb := hk.bd
  subst hs hF
  exact ⟨nr_one (by omega) (by omega), rfl, by rw [h.eq]; unfold worthF; simp, rfl⟩
end
/-! ### names of exceptions, stage 5 -/
theorem e_name_table (u l : Int) : m__law_name_of (exD "NoTable" [u, l]) = pu (.str "NoTable+") := by
  unfold m__law_name_of
  rw [show nmX (exD "NoTable" [u, l]) = "NoTable" from rfl]
  rw [show isq "NoFigure" "NoTable" = false by decide +kernel, show isq "NoLooks" "NoTable" = false by decide +kernel, show isq "NoRoom" "NoTable" = false by decide +kernel, show isq "NoRow" "NoTable" = false by decide +kernel, show isq "NoTable" "NoTable" = true by decide +kernel, show isq "NoText" "NoTable" = false by decide +kernel, show isq "Spoilt" "NoTable" = false by decide +kernel, show isq "NoMore" "NoTable" = false by decide +kernel, show isq "NoWork" "NoTable" = false by decide +kernel, show isq "NoCell" "NoTable" = false by decide +kernel, show isq "NoDeed" "NoTable" = false by decide +kernel]
  rfl
theorem e_name_figure : m__law_name_of (exD "NoFigure" []) = pu (.str "NoFigure+") := by
  unfold m__law_name_of
  rw [show nmX (exD "NoFigure" []) = "NoFigure" from rfl]
  rw [show isq "NoFigure" "NoFigure" = true by decide +kernel, show isq "NoLooks" "NoFigure" = false by decide +kernel, show isq "NoRoom" "NoFigure" = false by decide +kernel, show isq "NoRow" "NoFigure" = false by decide +kernel, show isq "NoTable" "NoFigure" = false by decide +kernel, show isq "NoText" "NoFigure" = false by decide +kernel, show isq "Spoilt" "NoFigure" = false by decide +kernel, show isq "NoMore" "NoFigure" = false by decide +kernel, show isq "NoWork" "NoFigure" = false by decide +kernel, show isq "NoCell" "NoFigure" = false by decide +kernel, show isq "NoDeed" "NoFigure" = false by decide +kernel]
  rfl
theorem e_name_more : m__law_name_of (exD "NoMore" []) = pu (.str "NoMore+") := by
  unfold m__law_name_of
  rw [show nmX (exD "NoMore" []) = "NoMore" from rfl]
  rw [show isq "NoFigure" "NoMore" = false by decide +kernel, show isq "NoLooks" "NoMore" = false by decide +kernel, show isq "NoRoom" "NoMore" = false by decide +kernel, show isq "NoRow" "NoMore" = false by decide +kernel, show isq "NoTable" "NoMore" = false by decide +kernel, show isq "NoText" "NoMore" = false by decide +kernel, show isq "Spoilt" "NoMore" = false by decide +kernel, show isq "NoMore" "NoMore" = true by decide +kernel, show isq "NoWork" "NoMore" = false by decide +kernel, show isq "NoCell" "NoMore" = false by decide +kernel, show isq "NoDeed" "NoMore" = false by decide +kernel]
  rfl
theorem e_name_room : m__law_name_of (exD "NoRoom" []) = pu (.str "NoRoom+") := by
  unfold m__law_name_of
  rw [show nmX (exD "NoRoom" []) = "NoRoom" from rfl]
  rw [show isq "NoFigure" "NoRoom" = false by decide +kernel, show isq "NoLooks" "NoRoom" = false by decide +kernel, show isq "NoRoom" "NoRoom" = true by decide +kernel, show isq "NoRow" "NoRoom" = false by decide +kernel, show isq "NoTable" "NoRoom" = false by decide +kernel, show isq "NoText" "NoRoom" = false by decide +kernel, show isq "Spoilt" "NoRoom" = false by decide +kernel, show isq "NoMore" "NoRoom" = false by decide +kernel, show isq "NoWork" "NoRoom" = false by decide +kernel, show isq "NoCell" "NoRoom" = false by decide +kernel, show isq "NoDeed" "NoRoom" = false by decide +kernel]
  rfl
theorem e_name_work : m__law_name_of (exD "NoWork" []) = pu (.str "NoWork+") := by
  unfold m__law_name_of
  rw [show nmX (exD "NoWork" []) = "NoWork" from rfl]
  rw [show isq "NoFigure" "NoWork" = false by decide +kernel, show isq "NoLooks" "NoWork" = false by decide +kernel, show isq "NoRoom" "NoWork" = false by decide +kernel, show isq "NoRow" "NoWork" = false by decide +kernel, show isq "NoTable" "NoWork" = false by decide +kernel, show isq "NoText" "NoWork" = false by decide +kernel, show isq "Spoilt" "NoWork" = false by decide +kernel, show isq "NoMore" "NoWork" = false by decide +kernel, show isq "NoWork" "NoWork" = true by decide +kernel, show isq "NoCell" "NoWork" = false by decide +kernel, show isq "NoDeed" "NoWork" = false by decide +kernel]
  rfl
theorem e_name_cell : m__law_name_of (exD "NoCell" []) = pu (.str "NoCell+") := by
  unfold m__law_name_of
  rw [show nmX (exD "NoCell" []) = "NoCell" from rfl]
  rw [show isq "NoFigure" "NoCell" = false by decide +kernel, show isq "NoLooks" "NoCell" = false by decide +kernel, show isq "NoRoom" "NoCell" = false by decide +kernel, show isq "NoRow" "NoCell" = false by decide +kernel, show isq "NoTable" "NoCell" = false by decide +kernel, show isq "NoText" "NoCell" = false by decide +kernel, show isq "Spoilt" "NoCell" = false by decide +kernel, show isq "NoMore" "NoCell" = false by decide +kernel, show isq "NoWork" "NoCell" = false by decide +kernel, show isq "NoCell" "NoCell" = true by decide +kernel, show isq "NoDeed" "NoCell" = false by decide +kernel]
  rfl
theorem e_name_text : m__law_name_of (exD "NoText" []) = pu (.str "NoText+") := by
  unfold m__law_name_of
  rw [show nmX (exD "NoText" []) = "NoText" from rfl]
  rw [show isq "NoFigure" "NoText" = false by decide +kernel, show isq "NoLooks" "NoText" = false by decide +kernel, show isq "NoRoom" "NoText" = false by decide +kernel, show isq "NoRow" "NoText" = false by decide +kernel, show isq "NoTable" "NoText" = false by decide +kernel, show isq "NoText" "NoText" = true by decide +kernel, show isq "Spoilt" "NoText" = false by decide +kernel, show isq "NoMore" "NoText" = false by decide +kernel, show isq "NoWork" "NoText" = false by decide +kernel, show isq "NoCell" "NoText" = false by decide +kernel, show isq "NoDeed" "NoText" = false by decide +kernel]
  rfl
theorem e_name_deed (j : Int) : m__law_name_of (exD "NoDeed" [j]) = pu (.str "NoDeed+") := by
  unfold m__law_name_of
  rw [show nmX (exD "NoDeed" [j]) = "NoDeed" from rfl]
  rw [show isq "NoFigure" "NoDeed" = false by decide +kernel, show isq "NoLooks" "NoDeed" = false by decide +kernel, show isq "NoRoom" "NoDeed" = false by decide +kernel, show isq "NoRow" "NoDeed" = false by decide +kernel, show isq "NoTable" "NoDeed" = false by decide +kernel, show isq "NoText" "NoDeed" = false by decide +kernel, show isq "Spoilt" "NoDeed" = false by decide +kernel, show isq "NoMore" "NoDeed" = false by decide +kernel, show isq "NoWork" "NoDeed" = false by decide +kernel, show isq "NoCell" "NoDeed" = false by decide +kernel, show isq "NoDeed" "NoDeed" = true by decide +kernel]
  rfl
theorem e_name_spoilt (j : Int) : m__law_name_of (exD "Spoilt" [j]) = pu (.str "Spoilt+") := by
  unfold m__law_name_of
  rw [show nmX (exD "Spoilt" [j]) = "Spoilt" from rfl]
  rw [show isq "NoFigure" "Spoilt" = false by decide +kernel, show isq "NoLooks" "Spoilt" = false by decide +kernel, show isq "NoRoom" "Spoilt" = false by decide +kernel, show isq "NoRow" "Spoilt" = false by decide +kernel, show isq "NoTable" "Spoilt" = false by decide +kernel, show isq "NoText" "Spoilt" = false by decide +kernel, show isq "Spoilt" "Spoilt" = true by decide +kernel, show isq "NoMore" "Spoilt" = false by decide +kernel, show isq "NoWork" "Spoilt" = false by decide +kernel, show isq "NoCell" "Spoilt" = false by decide +kernel, show isq "NoDeed" "Spoilt" = false by decide +kernel]
  rfl
/-! ### summers: what the mirrors come to (S) -/
def smD (b m s : Int) (F : List Int) (p : Nat) (e : Bool) : D := .tuple [t2 b m, .int s, .list (F.map .int), .int (p : Int), .bool e]
section
variable {b m s x y S w : Int} {F : List Int} {p : Nat}
theorem e_near {k : Nat} (hw : 0 < w) (hz : Sz w k) (hk : k ≤ 8000) : m_nearest_figure (t2 b m) (.int s) (.int w) = pu (.int (nrF m s w)) := by
  unfold m_nearest_figure
  walk_at "ev"
  rw [d_fdiv (by decide) (by decide)]
  walk_at "ev"
  rw [d_fdiv hw (log_sz hw (by omega))]
  walk_at "ev"
  rfl
theorem isi_iI (i : Int) : isiD "int" (.int i) = some (.bool true) := by rw [d_isi, show tyN (.int i) = "int" from rfl, k_ii]; rfl
theorem isi_bI (i : Int) : isiD "bool" (.int i) = some (.bool false) := by rw [d_isi, show tyN (.int i) = "int" from rfl, k_ib]; rfl
theorem e_whole {i : Int} : m_is_whole (.int i) = pu (.bool true) := by
  unfold m_is_whole
  walk_at "ev"
  rw [isi_iI]
  walk_at "ev"
  rw [isi_bI]
  walk_at "ev"
theorem e_isfig {i : Int} : m_is_figure (t2 b m) (.int i) = pu (.bool (decide (-m ≤ i) && decide (i ≤ m))) := by
  unfold m_is_figure
  walk_at "ev"
  rw [e_whole]
  walk_at "ev"
  cases decide (-m ≤ i) <;> rfl
theorem map_app (F : List Int) (f : Int) : F.map PyData.int ++ [.int f] = (F ++ [f]).map PyData.int := by rw [List.map_append]; rfl
theorem sm_new : m_Summer_init (t2 b m) [] = .ok (smD b m 0 [] 0 false) [] := rfl
theorem app_figs (f : Int) (h : F.length < 100000) : appD (.list (F.map .int)) (.int f) = some (.list ((F ++ [f]).map .int)) := by
  rw [d_appX (by rw [List.length_map]; omega), map_app]
theorem sm_tell {e : Bool} {k : Nat} (hk : Kd b m) (hw : 0 < w) (hz : Sz w k) (h8 : k ≤ 8000) (hF : F.length < 100000) : m_Summer_tell (.int w) [smD b m s F p e] = .ok (.int (nrF m s w)) [smD b m (s - nrF m s w * w) (F ++ [nrF m s w]) p e] := by
  have kb := hk.bd
  have nb := nr_bd hk s w
  have iN : Sz (nrF m s w) 5 := ⟨by omega⟩
  unfold m_Summer_tell
  refine zb_ok (m := smD b m (s - nrF m s w * w) (F ++ [nrF m s w]) p e) (of_okS ?_) rfl
  show Ok (m_Summer_tell_b (.int w)) (smD b m s F p e) _
  unfold m_Summer_tell_b
  refine ok_fin ?_
  walk_at "fj"
  refine ok_rdP rfl ?_
  walk_at "fj"
  refine ok_rdP rfl ?_
  walk_at "fj"
  rw [e_near hw hz h8]
  walk_at "fj"
  refine ok_rdP rfl ?_
  rw [d_mul (fit_sz (by omega)) (fit_sz (by omega))]
  walk_at "fj"
  refine ok_mdP rfl rfl (m' := smD b m (s - nrF m s w * w) F p e) rfl ?_
  refine ok_mdP (r := .list (F.map .int)) rfl (app_figs _ hF) (m' := smD b m (s - nrF m s w * w) (F ++ [nrF m s w]) p e) rfl ?_
  walk_at "fj"
  exact ok_pu ⟨_, .inl rfl, rfl, rfl⟩
theorem sm_refuse : m_Summer_refuse_behind_end [smD b m s F p false] = .ok .none [smD b m s F p false] := by
  unfold m_Summer_refuse_behind_end
  refine zb_ok (m := smD b m s F p false) (of_okS ?_) rfl
  show Ok m_Summer_refuse_behind_end_b (smD b m s F p false) _
  unfold m_Summer_refuse_behind_end_b
  refine ok_fin ?_
  walk_at "fj"
  refine ok_rdP rfl ?_
  walk_at "fj"
  exact ok_pu ⟨_, .inr ⟨rfl, rfl⟩, rfl, rfl⟩
theorem sm_refuseX : m_Summer_refuse_behind_end [smD b m s F p true] = .exc (exD "NoMore" []) [smD b m s F p true] := rfl
def putS (b m s x y : Int) (p : Nat) : Int := if p = 0 then s * b + x + y else s * b + x + y - nrF m (s * b + x + y) (b * b) * (b * b)
def putF (b m s x y : Int) (p : Nat) : List Int := if p = 0 then [] else [nrF m (s * b + x + y) (b * b)]
theorem fg_true (hx : -m ≤ x ∧ x ≤ m) : (decide (-m ≤ x) && decide (x ≤ m)) = true := by rw [decide_eq_true hx.1, decide_eq_true hx.2]; rfl
theorem sm_put (hk : Kd b m) (hs : Sz s 64) (hx : -m ≤ x ∧ x ≤ m) (hy : -m ≤ y ∧ y ≤ m) (hF : F.length < 100000) : m_Summer_put (.int x) (.int y) [smD b m s F p false] = .ok (.list ((putF b m s x y p).map .int)) [smD b m (putS b m s x y p) (F ++ putF b m s x y p) (p + 1) false] := by
  have kb := hk.bd
  have ib := hk.sb
  unfold m_Summer_put
  refine zb_ok (m := smD b m (putS b m s x y p) (F ++ putF b m s x y p) (p + 1) false) (of_okS ?_) rfl
  show Ok (m_Summer_put_b (.int x) (.int y)) (smD b m s F p false) _
  unfold m_Summer_put_b
  refine ok_fin ?_
  walk_at "fj"
  refine ok_kZ (by rw [r_u0]; exact sm_refuse) rfl ?_
  refine ok_rdP rfl ?_
  walk_at "fj"
  rw [e_isfig]
  walk_at "fj"
  rw [fg_true hx]
  walk_at "fj"
  refine ok_rdP rfl ?_
  walk_at "fj"
  rw [e_isfig]
  walk_at "fj"
  rw [fg_true hy]
  walk_at "fj"
  refine ok_rdP rfl ?_
  walk_at "fj"
  refine ok_rdP rfl ?_
  rw [d_mul (fit_sz (by omega)) (fit_sz (by omega))]
  walk_at "fj"
  refine ok_mdP rfl rfl (m' := smD b m (s * b + x + y) F p false) rfl ?_
  refine ok_rdP rfl ?_
  walk_at "fj"
  refine ok_mdP rfl rfl (m' := smD b m (s * b + x + y) F (p + 1) false) rfl ?_
  refine ok_rdP rfl ?_
  walk_at "fj"
  by_cases c : p = 0
  · rw [decide_eq_true (show ((p + 1 : Nat) : Int) = 1 by omega)]
    walk_at "fj"
    refine ok_pu ⟨_, .inl rfl, ?_⟩
    unfold putF putS
    rw [if_pos c, if_pos c, List.append_nil]
    exact ⟨rfl, rfl⟩
  · rw [decide_eq_false (show ¬ ((p + 1 : Nat) : Int) = 1 by omega)]
    walk_at "fj"
    rw [d_mul (fit_sz (by omega)) (fit_sz (by omega))]
    walk_at "fj"
    have ibb : Sz (b * b) 10 := ⟨sz_mul ib.lt ib.lt⟩
    refine ok_kZ0 (by rw [r_u1]; exact sm_tell hk (Int.mul_pos (by omega) (by omega)) ibb (by omega) hF) rfl ?_
    walk_at "fj"
    refine ok_pu ⟨_, .inl rfl, ?_⟩
    unfold putF putS
    rw [if_neg c, if_neg c]
    exact ⟨rfl, rfl⟩
theorem sm_putX {v u : D} : m_Summer_put v u [smD b m s F p true] = .exc (exD "NoMore" []) [smD b m s F p true] := by
  unfold m_Summer_put
  refine zb_exc (m := smD b m s F p true) ?_ rfl
  exact ex_fin (ex_kZ (ts := [smD b m s F p true]) sm_refuseX rfl)
def endF (b m s : Int) (p : Nat) : List Int := if p = 0 then [nrF m s 1] else lastTwo b m s
theorem sm_endX : m_Summer_end [smD b m s F p true] = .exc (exD "NoMore" []) [smD b m s F p true] := by
  unfold m_Summer_end
  refine zb_exc (m := smD b m s F p true) ?_ rfl
  exact ex_fin (ex_kZ (ts := [smD b m s F p true]) sm_refuseX rfl)
theorem sm_end (hk : Kd b m) (hF : F.length < 90000) : ∃ s', m_Summer_end [smD b m s F p false] = .ok (.list ((endF b m s p).map .int)) [smD b m s' (F ++ endF b m s p) p true] := by
  have kb := hk.bd
  have ib := hk.sb
  have i1 : Sz (1 : Int) 5 := ⟨by decide⟩
  by_cases c : p = 0
  · refine ⟨s - nrF m s 1 * 1, ?_⟩
    unfold m_Summer_end
    refine zb_ok (m := smD b m (s - nrF m s 1 * 1) (F ++ endF b m s p) p true) (of_okS ?_) rfl
    show Ok m_Summer_end_b (smD b m s F p false) _
    unfold m_Summer_end_b
    refine ok_fin ?_
    walk_at "fj"
    refine ok_kZ (by rw [r_u0]; exact sm_refuse) rfl ?_
    refine ok_mdP rfl rfl (m' := smD b m s F p true) rfl ?_
    refine ok_rdP rfl ?_
    walk_at "fj"
    rw [decide_eq_true (show (p : Int) = 0 by omega)]
    walk_at "fj"
    refine ok_kZ0 (by rw [r_u1]; exact sm_tell hk (by decide) i1 (by omega) (by omega)) rfl ?_
    walk_at "fj"
    refine ok_pu ⟨_, .inl rfl, ?_⟩
    unfold endF
    rw [if_pos c]
    exact ⟨rfl, rfl⟩
  · refine ⟨s - nrF m s b * b - nrF m (s - nrF m s b * b) 1 * 1, ?_⟩
    unfold m_Summer_end
    refine zb_ok (m := smD b m (s - nrF m s b * b - nrF m (s - nrF m s b * b) 1 * 1) (F ++ endF b m s p) p true) (of_okS ?_) rfl
    show Ok m_Summer_end_b (smD b m s F p false) _
    unfold m_Summer_end_b
    refine ok_fin ?_
    walk_at "fj"
    refine ok_kZ (by rw [r_u0]; exact sm_refuse) rfl ?_
    refine ok_mdP rfl rfl (m' := smD b m s F p true) rfl ?_
    refine ok_rdP rfl ?_
    walk_at "fj"
    rw [decide_eq_false (show ¬ (p : Int) = 0 by omega)]
    walk_at "fj"
    refine ok_rdP rfl ?_
    walk_at "fj"
    refine ok_kZ0 (by rw [r_u1]; exact sm_tell hk (by omega) ib (by omega) (by omega)) rfl ?_
    walk_at "fj"
    refine ok_kZ0 (by rw [r_u1]; exact sm_tell hk (by decide) i1 (by omega) (by rw [List.length_append, List.length_singleton]; omega)) rfl ?_
    walk_at "fj"
    refine ok_pu ⟨_, .inl rfl, ?_⟩
    unfold endF lastTwo
    rw [if_neg c]
    refine ⟨rfl, ?_⟩
    rw [List.append_assoc]; rfl
theorem sm_told {e : Bool} : m_Summer_told [smD b m s F p e] = .ok (.list (F.map .int)) [smD b m s F p e] := rfl
/-- all together -/
theorem sumI_put (hk : Kd b m) (h : SumI b m s F p S) (hx : -m ≤ x ∧ x ≤ m) (hy : -m ≤ y ∧ y ≤ m) : SumI b m (putS b m s x y p) (F ++ putF b m s x y p) (p + 1) (S * b + x + y) := by
  unfold putS putF
  by_cases c : p = 0
  · subst c
    rw [if_pos rfl, if_pos rfl, List.append_nil]
    exact sumI_first hk h hx hy
  · rw [if_neg c, if_neg c]
    exact sumI_more hk (by omega) h hx hy
theorem sumI_fin (hk : Kd b m) (h : SumI b m s F p S) : (∀ f ∈ F ++ endF b m s p, -m ≤ f ∧ f ≤ m) ∧ worthF b (F ++ endF b m s p) = S ∧ (F ++ endF b m s p).length = p + 1 := by
  unfold endF
  by_cases c : p = 0
  · subst c
    obtain ⟨e1, rfl, rfl, rfl⟩ := sumI_end0 hk h
    have kb := hk.bd
    rw [if_pos rfl, e1]
    exact ⟨fun f hf => by rw [List.mem_singleton.mp hf]; omega, (by unfold worthF; simp), rfl⟩
  · rw [if_neg c]
    exact sumI_end hk (by omega) h
theorem SumI.sz (hk : Kd b m) (h : SumI b m s F p S) : Sz s 64 := by
  have h1 := h.lo
  have h2 := h.hi
  obtain ⟨h, _⟩ := hk
  refine ⟨?_⟩
  rcases h with e | e | e | e <;> subst e <;> simp only [Int.reduceMul, Int.reduceDiv] at h1 h2 <;> omega
end
local macro_rules | `(tactic| walk_at "pz") => `(tactic| refine ok_kD ((ok_pick (by assumption) (by omega) (by first | decide | omega) (by first | decide | exact log_sz (by omega) (by omega))).mono ?_))
theorem rg0_get {n : Int} {i : Nat} {z : D} (h : (rgL 0 n)[i]? = some z) : z = .int (i : Int) := by
  unfold rgL at h
  rw [List.getElem?_map] at h
  cases e : (List.range (n - 0).toNat)[i]? with
  | none => rw [e] at h; cases h
  | some k =>
    rw [e] at h
    cases h
    obtain ⟨h1, h2⟩ := List.getElem?_eq_some_iff.mp e
    rw [List.getElem_range] at h2
    subst h2
    exact congrArg PyData.int (by omega)
theorem rg2 : rgL 0 2 = [.int 0, .int 1] := rfl
/-! texts -/
theorem sh_str {s : Str} (h : (PyData.str s).canLay0 = true) : SeqAt.shaped (.str s) = true := (lay_str h (n := 0)).shaped (by decide)
theorem sh0 : SeqAt.shaped (.str "") = true := sh_str (by simp only [PyData.canLay0]; decide +kernel)
theorem shM : SeqAt.shaped (.str "NoMore+") = true := sh_str (by simp only [PyData.canLay0]; decide +kernel)
theorem shF : SeqAt.shaped (.str "NoFigure+") = true := sh_str (by simp only [PyData.canLay0]; decide +kernel)
theorem neM : neD (.str "NoMore+") (.str "") = some (.bool true) := by unfold neD; rw [shM, sh0]; rfl
theorem neF : neD (.str "NoFigure+") (.str "") = some (.bool true) := by unfold neD; rw [shF, sh0]; rfl
theorem eqM : eqD (.str "NoMore+") (.str "") = some (.bool false) := by unfold eqD; rw [shM, sh0]; rfl
theorem eqF : eqD (.str "NoFigure+") (.str "") = some (.bool false) := by unfold eqD; rw [shF, sh0]; rfl
section
variable {b m s x y S w : Int} {F : List Int} {p n k : Nat} {e : Bool} {d u v : D}
theorem e_law_worth {fs : List Int} (hk : Kd b m) (hf : ∀ f ∈ fs, -m ≤ f ∧ f ≤ m) (hl : fs.length ≤ 1000) : m__law_worth (t2 b m) (.list (fs.map .int)) = pu (.int (worthF b fs)) := by
  have i1 := hk.sb
  unfold m__law_worth
  walk_at "ev"
  rw [for_runW (fun i => PyData.int (worthF b (fs.take i))) ?_ ?_]
  · walk_at "ev"
    rw [List.length_map, List.take_length]
  · rfl
  · intro i x hx
    obtain ⟨hi, rfl⟩ := int_get hx
    have hb := worth_bd hk (fs.take i) fun f hf' => hf f (List.mem_of_mem_take hf')
    have i2 : Sz (worthF b (fs.take i)) 5000 := ⟨Nat.lt_of_lt_of_le (Nat.lt_of_succ_le hb) (Nat.pow_le_pow_right (by decide) (by rw [List.length_take]; omega))⟩
    walk_at "ev"
    rw [d_mul (fit_sz (by omega)) (fit_sz (by omega))]
    walk_at "ev"
    rw [List.take_succ_eq_append_getElem hi, worth_snoc]
/-- a pair is drawn -/
theorem ok_pair (hk : Kd b m) (hd : Dk d k) (h9 : k ≤ 800000) : Ok (m__law_pair (t2 b m)) d fun x d' => (x = .none ∨ ∃ u v, x = .list [u, v] ∧ Lay 3 u ∧ Lay 3 v) ∧ Dk d' (k + 300) := by
  have kb := hk.bd
  have ib := hk.sb
  have im := hk.sm
  unfold m__law_pair
  refine ok_fin ?_
  walk_at "fj"
  rw [d_rng1 (by decide) (by decide), rg2]
  walk_at "fj"
  refine ok_bd (ok_lcI (I := fun acc d' => (∀ x ∈ acc, ∃ i : Int, x = .int i) ∧ Dk d' (k + acc.length)) (fun _ _ => rfl) (by show 2 ≤ 1000000; decide) ⟨(fun x hx => by cases hx), hd⟩ ?_ ?_)
  · rintro x hx acc d1 hl ⟨h1, h2⟩
    have hl2 : acc.length < 2 := hl
    have i02 : Sz (2 : Int) 5 := ⟨by decide⟩
    walk_at "fl"
    rw [d_mul (fit_sz (n := 5) (by omega)) (fit_sz (by omega))]
    walk_at "fl"
    have i2 : Sz (2 * m + 1) 10 := ⟨by omega⟩
    walk_at "pk"
    rintro _ d2 ⟨v1, rfl, v10, v11, hd2⟩
    walk_at "fl"
    refine ok_pu ⟨fun z hz => ?_, hd2.le (by rw [List.length_append, List.length_singleton]; omega)⟩
    rcases List.mem_append.mp hz with e | e
    · exact h1 z e
    · rw [List.mem_singleton.mp e]; exact ⟨_, rfl⟩
  · rintro ys d3 hl ⟨h1, hd3⟩
    have hl2 : ys.length = 2 := hl
    match ys, hl2, h1 with
    | [a, c], _, h1 =>
    obtain ⟨a, rfl⟩ := h1 a (.head _)
    obtain ⟨c, rfl⟩ := h1 c (.tail _ (.head _))
    have hd3 : Dk d3 (k + 2) := hd3
    walk_at "fj"
    rw [r_sqb]
    walk_at "pk"
    rintro _ d4 ⟨v4, rfl, v40, v41, hd4⟩
    walk_at "fj"
    refine ok_sq (Ok.mono (P := fun o d' => ∃ u v, o = .nx (.list [u, v]) ∧ Lay 3 u ∧ Lay 3 v ∧ Dk d' (k + 250)) ?_ ?_)
    · by_cases c0 : v4 = 0
      · rw [decide_eq_true c0]
        walk_at "fj"
        refine ok_bd (ok_qx ((ok_thing_r 2 6 d4 _ (by omega) hd4 (by show k + 2 + 1 + 210 ≤ 900000000; omega)).mono ?_))
        rintro th d5 ⟨hth, hd5⟩
        have hd5 : Dk d5 (k + 2 + 1 + 210) := hd5
        walk_at "fj"
        rw [d_lst (by show 8 ≤ sizeLine; decide)]
        walk_at "fj"
        walk_at "pk"
        rintro _ d6 ⟨v6, rfl, v60, v61, hd6⟩
        walk_at "fj"
        obtain ⟨q, hq, eq⟩ := ix_some (xs := [PyData.int (m + 1), .int (0 - m - 1), .bool true, .str "1", .none, .tuple [.int 1], .int b, th]) v60 (by show v6 < 8; exact v61)
        rw [eq]
        walk_at "fj"
        have hql : Lay 3 q := by
          simp only [List.mem_cons, List.not_mem_nil, or_false] at hq
          rcases hq with e | e | e | e | e | e | e | e <;> rw [e]
          · exact lay_int _
          · exact lay_int _
          · exact lay_bool _
          · exact lay_str (by simp only [PyData.canLay0]; decide +kernel)
          · exact lay_none
          · exact lay_tup fun y hy => by rw [List.mem_singleton.mp hy]; exact lay_int _
          · exact lay_int _
          · exact hth
        walk_at "pk"
        rintro _ d7 ⟨v7, rfl, v70, v71, hd7⟩
        walk_at "fj"
        by_cases c7 : v7 = 0
        · subst c7
          refine ok_ofS (x := .list [q, .int c]) rfl ?_
          exact ok_pu ⟨_, _, rfl, hql, lay_int _, hd7.le (by omega)⟩
        · have : v7 = 1 := by omega
          subst this
          refine ok_ofS (x := .list [.int a, q]) rfl ?_
          exact ok_pu ⟨_, _, rfl, lay_int _, hql, hd7.le (by omega)⟩
      · rw [decide_eq_false c0]
        walk_at "fj"
        exact ok_pu ⟨_, _, rfl, lay_int _, lay_int _, hd4.le (by omega)⟩
    · rintro _ d8 ⟨u, v, rfl, hu, hv, hd8⟩
      refine ⟨_, rfl, ?_⟩
      walk_at "fj"
      walk_at "pk"
      rintro _ d9 ⟨v9, rfl, v90, v91, hd9⟩
      walk_at "fj"
      by_cases c9 : v9 = 0
      · rw [decide_eq_true c9]
        walk_at "fj"
        exact ok_pu ⟨_, .inl rfl, .inl rfl, hd9.le (by omega)⟩
      · rw [decide_eq_false c9]
        walk_at "fj"
        exact ok_pu ⟨_, .inl rfl, .inr ⟨u, v, rfl, hu, hv⟩, hd9.le (by omega)⟩
/-! a summer is told a pair, or its end -/
theorem sm_putN (hu : u.canLay0 = true) (hv : v.canLay0 = true) (h : (figB m u && figB m v) = false) : m_Summer_put u v [smD b m s F p false] = .exc (exD "NoFigure" []) [smD b m s F p false] := by
  unfold m_Summer_put
  refine zb_exc (m := smD b m s F p false) ?_ rfl
  refine ex_fin ?_
  refine ex_kZo (ts := [smD b m s F p false]) sm_refuse rfl ?_
  walk_at "fj"
  refine ex_rdP (r := t2 b m) rfl ?_
  walk_at "fj"
  rw [e_is_figure hu]
  cases c : figB m u with
  | false =>
    walk_at "fj"
    exact ex_raise
  | true =>
    walk_at "fj"
    refine ex_rdP (r := t2 b m) rfl ?_
    walk_at "fj"
    rw [e_is_figure hv]
    rw [c, Bool.true_and] at h
    rw [h]
    walk_at "fj"
    exact ex_raise
theorem tr_more (hx : u = .none ∨ ∃ x y, u = .list [x, y]) : m__law_tried u [smD b m s F p true] = .ok (.tuple [.none, .str "NoMore+"]) [smD b m s F p true] := by
  unfold m__law_tried
  refine zb_ok (m := smD b m s F p true) (of_okS ?_) rfl
  show Ok (m__law_tried_b u) (smD b m s F p true) _
  unfold m__law_tried_b
  refine ok_fin ?_
  walk_at "fj"
  refine ok_sq (ok_tryX (e := exD "NoMore" []) (m' := smD b m s F p true) ?_ (by decide) ?_)
  · rcases hx with rfl | ⟨x, y, rfl⟩
    · walk_at "fj"
      exact ex_kZ (by rw [r_u0]; exact sm_endX) rfl
    · walk_at "fj"
      exact ex_kZ (by rw [r_u2]; exact sm_putX) rfl
  · rw [e_name_more]
    walk_at "fj"
    refine ok_pu ⟨_, rfl, ?_⟩
    walk_at "fj"
    exact ok_pu ⟨_, .inl rfl, rfl, rfl⟩
theorem tr_end (hk : Kd b m) (hF : F.length < 90000) : ∃ s', m__law_tried .none [smD b m s F p false] = .ok (.tuple [.list ((endF b m s p).map .int), .str ""]) [smD b m s' (F ++ endF b m s p) p true] := by
  obtain ⟨s', es⟩ := sm_end (p := p) (s := s) hk hF
  refine ⟨s', ?_⟩
  unfold m__law_tried
  refine zb_ok (m := smD b m s' (F ++ endF b m s p) p true) (of_okS ?_) rfl
  show Ok (m__law_tried_b .none) (smD b m s F p false) _
  unfold m__law_tried_b
  refine ok_fin ?_
  walk_at "fj"
  refine ok_sq (ok_try ?_)
  walk_at "fj"
  refine ok_kZ (by rw [r_u0]; exact es) rfl ?_
  refine ok_pu ⟨_, rfl, ?_⟩
  walk_at "fj"
  exact ok_pu ⟨_, .inl rfl, rfl, rfl⟩
theorem tr_put (hk : Kd b m) (hs : Sz s 64) (hx : -m ≤ x ∧ x ≤ m) (hy : -m ≤ y ∧ y ≤ m) (hF : F.length < 100000) : m__law_tried (.list [.int x, .int y]) [smD b m s F p false] = .ok (.tuple [.list ((putF b m s x y p).map .int), .str ""]) [smD b m (putS b m s x y p) (F ++ putF b m s x y p) (p + 1) false] := by
  unfold m__law_tried
  refine zb_ok (m := smD b m (putS b m s x y p) (F ++ putF b m s x y p) (p + 1) false) (of_okS ?_) rfl
  show Ok (m__law_tried_b _) (smD b m s F p false) _
  unfold m__law_tried_b
  refine ok_fin ?_
  walk_at "fj"
  refine ok_sq (ok_try ?_)
  walk_at "fj"
  refine ok_kZ (by rw [r_u2]; exact sm_put hk hs hx hy hF) rfl ?_
  refine ok_pu ⟨_, rfl, ?_⟩
  walk_at "fj"
  exact ok_pu ⟨_, .inl rfl, rfl, rfl⟩
theorem tr_fig (hu : u.canLay0 = true) (hv : v.canLay0 = true) (h : (figB m u && figB m v) = false) : m__law_tried (.list [u, v]) [smD b m s F p false] = .ok (.tuple [.none, .str "NoFigure+"]) [smD b m s F p false] := by
  unfold m__law_tried
  refine zb_ok (m := smD b m s F p false) (of_okS ?_) rfl
  show Ok (m__law_tried_b _) (smD b m s F p false) _
  unfold m__law_tried_b
  refine ok_fin ?_
  walk_at "fj"
  refine ok_sq (ok_tryX (e := exD "NoFigure" []) (m' := smD b m s F p false) ?_ (by decide) ?_)
  · walk_at "fj"
    exact ex_kZ (by rw [r_u2]; exact sm_putN hu hv h) rfl
  · rw [e_name_figure]
    walk_at "fj"
    refine ok_pu ⟨_, rfl, ?_⟩
    walk_at "fj"
    exact ok_pu ⟨_, .inl rfl, rfl, rfl⟩
/-! what is kept beside a summer -/
def pD (r : Int × Int) : D := .list [.int r.1, .int r.2]
def owD (b m s : Int) (F : List Int) (p : Nat) (e : Bool) (rows : List (Int × Int)) (G : List Int) (c : Bool) : D := .tuple [t2 b m, smD b m s F p e, .list (rows.map pD), .list (G.map .int), .bool c]
structure OwI (b m s : Int) (F : List Int) (p : Nat) (e : Bool) (rows : List (Int × Int)) : Prop where
  go : e = false → p = rows.length ∧ SumI b m s F p (worthF b (rows.map (·.1)) + worthF b (rows.map (·.2)))
  fin : e = true → (∀ f ∈ F, -m ≤ f ∧ f ≤ m) ∧ worthF b F = worthF b (rows.map (·.1)) + worthF b (rows.map (·.2)) ∧ F.length = rows.length + 1
  rw : ∀ r ∈ rows, (-m ≤ r.1 ∧ r.1 ≤ m) ∧ -m ≤ r.2 ∧ r.2 ≤ m
theorem OwI.len {rows : List (Int × Int)} (h : OwI b m s F p e rows) : F.length ≤ rows.length + 1 := by
  cases e with
  | false => have := (h.go rfl).2.len; have := (h.go rfl).1; omega
  | true => have := (h.fin rfl).2.2; omega
theorem ow_new (hk : Kd b m) : OwI b m 0 [] 0 false [] := ⟨fun _ => ⟨rfl, by have := sumI0 hk; unfold worthF; simpa using this⟩, fun h => (by cases h), fun r h => (by cases h)⟩
theorem endF_len : (endF b m s p).length ≤ 2 := by unfold endF lastTwo; split <;> simp
theorem putF_len : (putF b m s x y p).length ≤ 1 := by unfold putF; split <;> simp
theorem one_right {rows : List (Int × Int)} (hk : Kd b m) (hd : Dk d k) (h9 : k ≤ 700000) (hr : rows.length ≤ 100) (hI : OwI b m s F p e rows) : ∃ s' F' p' e' rows' d', m__law_one_right [d, owD b m s F p e rows F e] = .ok (.bool true) [d', owD b m s' F' p' e' rows' F' e'] ∧ OwI b m s' F' p' e' rows' ∧ rows'.length ≤ rows.length + 1 := by
  have hF := hI.len
  suffices key : Ok m__law_one_right_b (d, owD b m s F p e rows F e) fun o mm => o = .bool true ∧ ∃ s' F' p' e' rows' d', mm = (d', owD b m s' F' p' e' rows' F' e') ∧ OwI b m s' F' p' e' rows' ∧ rows'.length ≤ rows.length + 1 by
    obtain ⟨a, mm, e1, rfl, s', F', p', e', rows', d', rfl, h1, h2⟩ := key
    refine ⟨s', F', p', e', rows', d', ?_, h1, h2⟩
    unfold m__law_one_right
    exact zb_ok e1 rfl
  unfold m__law_one_right_b
  refine ok_fin ?_
  walk_at "fj"
  refine ok_rdP (r := t2 b m) rfl ?_
  refine ok_kD ((ok_pair hk hd (by omega)).mono ?_)
  rintro q d1 ⟨hq, hd1⟩
  walk_at "fj"
  refine ok_getG ?_
  refine ok_ofS (x := smD b m s F p e) rfl ?_
  walk_at "fj"
  cases e with
  | true =>
    have hq2 : q = .none ∨ ∃ x y, q = .list [x, y] := hq.imp id fun ⟨u, v, h, _⟩ => ⟨u, v, h⟩
    refine ok_kZ0 (m' := (d1, owD b m s F p true rows F true)) (by rw [r_u1]; exact tr_more hq2) rfl ?_
    walk_at "fj"
    refine ok_sq (Ok.mono (P := fun o mm => o = .nx (.str "NoMore+") ∧ mm = (d1, owD b m s F p true rows F true)) ?_ ?_)
    · refine ok_rdP (r := .bool true) rfl ?_
      walk_at "fj"
      exact ok_pu ⟨rfl, rfl⟩
    rintro _ _ ⟨rfl, rfl⟩
    refine ⟨_, rfl, ?_⟩
    walk_at "fj"
    rw [d_neS shM]
    walk_at "fj"
    rw [neM]
    walk_at "fj"
    rw [decide_eq_true trivial]
    walk_at "fj"
    rw [eqM]
    walk_at "fj"
    refine ok_getG ?_
    refine ok_ofS (x := smD b m s F p true) rfl ?_
    walk_at "fj"
    refine ok_kZ0 (by rw [r_u0]; exact sm_told) rfl ?_
    refine ok_rdP (r := .list (F.map .int)) rfl ?_
    rw [d_eqL, decide_eq_true rfl]
    walk_at "fj"
    exact ok_pu ⟨_, .inl rfl, rfl, s, F, p, true, rows, d1, rfl, hI, by omega⟩
  | false =>
    obtain ⟨hp, hS⟩ := hI.go rfl
    rcases hq with rfl | ⟨u, v, rfl, hu, hv⟩
    · obtain ⟨s', es⟩ := tr_end (p := p) (s := s) (F := F) hk (by omega)
      have hfin := sumI_fin hk hS
      have hel := endF_len (b := b) (m := m) (s := s) (p := p)
      refine ok_kZ0 (m' := (d1, owD b m s' (F ++ endF b m s p) p true rows F false)) (by rw [r_u1]; exact es) rfl ?_
      walk_at "fj"
      refine ok_sq (Ok.mono (P := fun o mm => o = .nx (.str "") ∧ mm = (d1, owD b m s' (F ++ endF b m s p) p true rows F false)) ?_ ?_)
      · refine ok_rdP (r := .bool false) rfl ?_
        walk_at "fj"
        exact ok_pu ⟨rfl, rfl⟩
      rintro _ _ ⟨rfl, rfl⟩
      refine ⟨_, rfl, ?_⟩
      walk_at "fj"
      rw [d_neS sh0]
      walk_at "fj"
      rw [decide_eq_true trivial]
      walk_at "fj"
      rw [d_eqS sh0]
      walk_at "fj"
      refine ok_sq (Ok.mono (P := fun o mm => o = .nx () ∧ mm = (d1, owD b m s' (F ++ endF b m s p) p true rows (F ++ endF b m s p) true)) ?_ ?_)
      · refine ok_rdP (r := .list (F.map .int)) rfl ?_
        rw [d_cat (line_le (by rw [List.length_map, List.length_map]; omega)), ← List.map_append]
        walk_at "fj"
        refine ok_mdP rfl rfl (m' := (d1, owD b m s' (F ++ endF b m s p) p true rows (F ++ endF b m s p) false)) rfl ?_
        walk_at "fj"
        refine ok_mdP rfl rfl (m' := (d1, owD b m s' (F ++ endF b m s p) p true rows (F ++ endF b m s p) true)) rfl ?_
        exact ok_pu ⟨rfl, rfl⟩
      rintro _ _ ⟨rfl, rfl⟩
      refine ⟨_, rfl, ?_⟩
      walk_at "fj"
      refine ok_getG ?_
      refine ok_ofS (x := smD b m s' (F ++ endF b m s p) p true) rfl ?_
      walk_at "fj"
      refine ok_kZ0 (by rw [r_u0]; exact sm_told) rfl ?_
      refine ok_rdP (r := .list ((F ++ endF b m s p).map .int)) rfl ?_
      rw [d_eqL, decide_eq_true rfl]
      walk_at "fj"
      exact ok_pu ⟨_, .inl rfl, rfl, s', F ++ endF b m s p, p, true, rows, d1, rfl, ⟨fun h => (by cases h), fun _ => ⟨hfin.1, hfin.2.1, by rw [hfin.2.2, hp]⟩, hI.rw⟩, by omega⟩
    · cases c : (figB m u && figB m v) with
      | true =>
        rw [Bool.and_eq_true] at c
        obtain ⟨x, rfl, x1, x2⟩ := figB_inv c.1
        obtain ⟨y, rfl, y1, y2⟩ := figB_inv c.2
        have hpl := putF_len (b := b) (m := m) (s := s) (x := x) (y := y) (p := p)
        have hpt := sumI_put hk hS ⟨x1, x2⟩ ⟨y1, y2⟩
        refine ok_kZ0 (m' := (d1, owD b m (putS b m s x y p) (F ++ putF b m s x y p) (p + 1) false rows F false)) (by rw [r_u1]; exact tr_put hk (hS.sz hk) ⟨x1, x2⟩ ⟨y1, y2⟩ (by omega)) rfl ?_
        walk_at "fj"
        refine ok_sq (Ok.mono (P := fun o mm => o = .nx (.str "") ∧ mm = (d1, owD b m (putS b m s x y p) (F ++ putF b m s x y p) (p + 1) false rows F false)) ?_ ?_)
        · refine ok_rdP (r := .bool false) rfl ?_
          walk_at "fj"
          rw [r_lcN (fun z hz => by
            simp only [List.mem_cons, List.not_mem_nil, or_false] at hz
            rcases hz with e | e <;> rw [e]
            · rw [e_law_is_figure (lay_int (n := 0) x).1, c.1]; rfl
            · rw [e_law_is_figure (lay_int (n := 0) y).1, c.2]; rfl)]
          walk_at "fj"
          rw [ne_nil]
          walk_at "fj"
          exact ok_pu ⟨rfl, rfl⟩
        rintro _ _ ⟨rfl, rfl⟩
        refine ⟨_, rfl, ?_⟩
        walk_at "fj"
        rw [d_neS sh0]
        walk_at "fj"
        rw [decide_eq_true trivial]
        walk_at "fj"
        rw [d_eqS sh0]
        walk_at "fj"
        refine ok_sq (Ok.mono (P := fun o mm => o = .nx () ∧ mm = (d1, owD b m (putS b m s x y p) (F ++ putF b m s x y p) (p + 1) false (rows ++ [(x, y)]) (F ++ putF b m s x y p) false)) ?_ ?_)
        · refine ok_rdP (r := .list (F.map .int)) rfl ?_
          rw [d_cat (line_le (by rw [List.length_map, List.length_map]; omega)), ← List.map_append]
          walk_at "fj"
          refine ok_mdP rfl rfl (m' := (d1, owD b m (putS b m s x y p) (F ++ putF b m s x y p) (p + 1) false rows (F ++ putF b m s x y p) false)) rfl ?_
          walk_at "fj"
          refine ok_mdP (r := .list (rows.map pD)) rfl (d_appX (by rw [List.length_map]; omega)) (m' := (d1, owD b m (putS b m s x y p) (F ++ putF b m s x y p) (p + 1) false (rows ++ [(x, y)]) (F ++ putF b m s x y p) false)) (by unfold owD; rw [show (rows ++ [(x, y)]).map pD = rows.map pD ++ [PyData.list [PyData.int x, PyData.int y]] by rw [List.map_append]; rfl]; rfl) ?_
          exact ok_pu ⟨rfl, rfl⟩
        rintro _ _ ⟨rfl, rfl⟩
        refine ⟨_, rfl, ?_⟩
        walk_at "fj"
        refine ok_getG ?_
        refine ok_ofS (x := smD b m (putS b m s x y p) (F ++ putF b m s x y p) (p + 1) false) rfl ?_
        walk_at "fj"
        refine ok_kZ0 (by rw [r_u0]; exact sm_told) rfl ?_
        refine ok_rdP (r := .list ((F ++ putF b m s x y p).map .int)) rfl ?_
        rw [d_eqL, decide_eq_true rfl]
        walk_at "fj"
        refine ok_pu ⟨_, .inl rfl, rfl, _, F ++ putF b m s x y p, p + 1, false, rows ++ [(x, y)], d1, rfl, ⟨fun _ => ⟨by rw [List.length_append, hp]; rfl, ?_⟩, fun h => (by cases h), fun r hr => ?_⟩, by rw [List.length_append]; exact Nat.le_refl _⟩
        · have e3 : worthF b (rows.map (·.1)) * b + x + (worthF b (rows.map (·.2)) * b + y) = (worthF b (rows.map (·.1)) + worthF b (rows.map (·.2))) * b + x + y := by grind
          rw [← e3, ← worth_snoc, ← worth_snoc] at hpt
          rw [List.map_append, List.map_append]
          exact hpt
        · rcases List.mem_append.mp hr with z | z
          · exact hI.rw r z
          · rw [List.mem_singleton.mp z]; exact ⟨⟨x1, x2⟩, y1, y2⟩
      | false =>
        refine ok_kZ0 (m' := (d1, owD b m s F p false rows F false)) (by rw [r_u1]; exact tr_fig hu.1 hv.1 c) rfl ?_
        walk_at "fj"
        refine ok_sq (Ok.mono (P := fun o mm => o = .nx (.str "NoFigure+") ∧ mm = (d1, owD b m s F p false rows F false)) ?_ ?_)
        · refine ok_rdP (r := .bool false) rfl ?_
          walk_at "fj"
          rw [r_lc2 (x := u) (y := v) (c1 := !figB m u) (c2 := !figB m v) (by rw [e_law_is_figure hu.1]; rfl) (by rw [e_law_is_figure hv.1]; rfl) rfl rfl]
          walk_at "fj"
          rw [d_ne0 (n := 3) (fun z hz => by
            rcases List.mem_append.mp hz with e | e
            · split at e
              · rw [List.mem_singleton.mp e]; exact hu
              · cases e
            · split at e
              · rw [List.mem_singleton.mp e]; exact hv
              · cases e) (by decide)]
          have hne : ((if (!figB m u) = true then [u] else []) ++ (if (!figB m v) = true then [v] else [])).isEmpty = false := by
            revert c
            cases figB m u <;> cases figB m v <;> intro c <;> first | rfl | cases c
          rw [hne]
          walk_at "fj"
          exact ok_pu ⟨rfl, rfl⟩
        rintro _ _ ⟨rfl, rfl⟩
        refine ⟨_, rfl, ?_⟩
        walk_at "fj"
        rw [d_neS shF]
        walk_at "fj"
        rw [neF]
        walk_at "fj"
        rw [decide_eq_true trivial]
        walk_at "fj"
        rw [eqF]
        walk_at "fj"
        refine ok_getG ?_
        refine ok_ofS (x := smD b m s F p false) rfl ?_
        walk_at "fj"
        refine ok_kZ0 (by rw [r_u0]; exact sm_told) rfl ?_
        refine ok_rdP (r := .list (F.map .int)) rfl ?_
        rw [d_eqL, decide_eq_true rfl]
        walk_at "fj"
        exact ok_pu ⟨_, .inl rfl, rfl, s, F, p, false, rows, d1, rfl, hI, by omega⟩
theorem e_worths {rows : List (Int × Int)} {G : List Int} {c : Bool} (hk : Kd b m) (hr : rows.length ≤ 100) (hR : ∀ r ∈ rows, (-m ≤ r.1 ∧ r.1 ≤ m) ∧ -m ≤ r.2 ∧ r.2 ≤ m) :
    (SM.lc (pu (rows.map pD)) (fun _ => pu true) (fun pair => op2 idxD (pu pair) (pu (.int 0))) : SM Unit D) = pu (.list ((rows.map (·.1)).map .int)) ∧ (SM.lc (pu (rows.map pD)) (fun _ => pu true) (fun pair => op2 idxD (pu pair) (pu (.int 1))) : SM Unit D) = pu (.list ((rows.map (·.2)).map .int)) := by
  constructor
  · rw [r_lcM (g := fun r : Int × Int => PyData.int r.1) (fun _ _ => rfl) (fun x _ => by unfold pD; walk_at "ev") (by omega), List.map_map]; rfl
  · rw [r_lcM (g := fun r : Int × Int => PyData.int r.2) (fun _ _ => rfl) (fun x _ => by unfold pD; walk_at "ev") (by omega), List.map_map]; rfl
theorem sums_right {rows : List (Int × Int)} (hk : Kd b m) (hr : rows.length ≤ 100) (hI : OwI b m s F p e rows) : ∃ x', m__law_sums_right [owD b m s F p e rows F e] = .ok (.bool true) [x'] := by
  have hF := hI.len
  suffices key : Ok m__law_sums_right_b (owD b m s F p e rows F e) fun o _ => o = .bool true by
    obtain ⟨a, mm, e1, rfl⟩ := key
    refine ⟨mm, ?_⟩
    unfold m__law_sums_right
    exact zb_ok e1 rfl
  unfold m__law_sums_right_b
  refine ok_fin ?_
  walk_at "fj"
  refine ok_sq (Ok.mono (P := fun o mm => o = .nx () ∧ ∃ s' F', mm = owD b m s' F' p true rows F' e ∧ (∀ f ∈ F', -m ≤ f ∧ f ≤ m) ∧ worthF b F' = worthF b (rows.map (·.1)) + worthF b (rows.map (·.2)) ∧ F'.length = rows.length + 1) ?_ ?_)
  · refine ok_rdP (r := .bool e) rfl ?_
    walk_at "fj"
    cases e with
    | true =>
      walk_at "fj"
      exact ok_pu ⟨rfl, s, F, rfl, hI.fin rfl⟩
    | false =>
      obtain ⟨hp, hS⟩ := hI.go rfl
      obtain ⟨s', es⟩ := sm_end (p := p) (s := s) (F := F) hk (by omega)
      have hfin := sumI_fin hk hS
      have hel := endF_len (b := b) (m := m) (s := s) (p := p)
      walk_at "fj"
      refine ok_rdP (r := .list (F.map .int)) rfl ?_
      refine ok_getG ?_
      refine ok_ofS (x := smD b m s F p false) rfl ?_
      walk_at "fj"
      refine ok_kZ (m' := owD b m s' (F ++ endF b m s p) p true rows F false) (by rw [r_u0]; exact es) rfl ?_
      rw [d_cat (line_le (by rw [List.length_map, List.length_map]; omega)), ← List.map_append]
      walk_at "fj"
      refine ok_mdP rfl rfl (m' := owD b m s' (F ++ endF b m s p) p true rows (F ++ endF b m s p) false) rfl ?_
      exact ok_pu ⟨rfl, s', _, rfl, hfin.1, hfin.2.1, by rw [hfin.2.2, hp]⟩
  rintro _ _ ⟨rfl, s', F', rfl, h1, h2, h3⟩
  refine ⟨_, rfl, ?_⟩
  walk_at "fj"
  obtain ⟨w1, w2⟩ := e_worths (G := F') (c := e) hk hr hI.rw
  have r1 : m__law_worth (t2 b m) (.list ((rows.map (·.1)).map .int)) = pu (.int (worthF b (rows.map (·.1)))) := e_law_worth hk (fun f hf => by
    obtain ⟨r, hr2, rfl⟩ := List.mem_map.mp hf
    exact (hI.rw r hr2).1) (by rw [List.length_map]; omega)
  have r2 : m__law_worth (t2 b m) (.list ((rows.map (·.2)).map .int)) = pu (.int (worthF b (rows.map (·.2)))) := e_law_worth hk (fun f hf => by
    obtain ⟨r, hr2, rfl⟩ := List.mem_map.mp hf
    exact (hI.rw r hr2).2) (by rw [List.length_map]; omega)
  have k0 : kidO 0 (owD b m s' F' p true rows F' e) = some (t2 b m) := rfl
  have k2 : kidO 2 (owD b m s' F' p true rows F' e) = some (.list (rows.map pD)) := rfl
  have k3 : kidO 3 (owD b m s' F' p true rows F' e) = some (.list (F'.map .int)) := rfl
  refine ok_rdr (x := .int (worthF b (rows.map (·.1)) + worthF b (rows.map (·.2)))) ?_ (by simp [lfr]) ?_
  · walk_at "ev"
    rw [d_rng1 (by decide) (by decide), rg2]
    walk_at "ev"
    rw [k0, k2]
    walk_at "ev"
    rw [r_lcT (a := .int (worthF b (rows.map (·.1)))) (b := .int (worthF b (rows.map (·.2)))) (by
      have := w1
      simp only [r_op2] at this ⊢
      rw [this]
      walk_at "ev"
      rw [r1]; rfl) (by
      have := w2
      simp only [r_op2] at this ⊢
      rw [this]
      walk_at "ev"
      rw [r2]; rfl)]
    walk_at "ev"
    rw [show [PyData.int (worthF b (rows.map (·.1))), .int (worthF b (rows.map (·.2)))] = [worthF b (rows.map (·.1)), worthF b (rows.map (·.2))].map .int from rfl, ints_sum]
    walk_at "ev"
    simp
  refine ok_rdr (x := .bool true) ?_ (by simp [lfr]) ?_
  · walk_at "ev"
    rw [k0, k2, k3]
    walk_at "ev"
    rw [List.length_map, List.length_map, h3, decide_eq_true (by omega)]
    walk_at "ev"
    rw [e_law_worth hk h1 (by omega), h2]
    walk_at "ev"
    rfl
  walk_at "fj"
  exact ok_pu ⟨_, .inl rfl, rfl⟩
end
def OwP (n : Nat) (x : D) : Prop := ∃ (b m s : Int) (F : List Int) (p : Nat) (e : Bool) (rows : List (Int × Int)), Kd b m ∧ x = owD b m s F p e rows F e ∧ OwI b m s F p e rows ∧ rows.length ≤ n
theorem OwP.le {n k : Nat} {x : D} (h : OwP n x) (e : n ≤ k) : OwP k x := by
  obtain ⟨b, m, s, F, p, c, rows, h1, h2, h3, h4⟩ := h
  exact ⟨b, m, s, F, p, c, rows, h1, h2, h3, by omega⟩
theorem ow_one {n k : Nat} {x d : D} (h : OwP n x) (hn : n ≤ 100) (hd : Dk d k) (h9 : k ≤ 700000) : ∃ x' d', m__law_one_right [d, x] = .ok (.bool true) [d', x'] ∧ OwP (n + 1) x' := by
  obtain ⟨b, m, s, F, p, c, rows, h1, rfl, h3, h4⟩ := h
  obtain ⟨s', F', p', e', rows', d', e1, e2, e3⟩ := one_right h1 hd h9 (by omega) h3
  exact ⟨_, d', e1, b, m, s', F', p', e', rows', h1, rfl, e2, by omega⟩
theorem ow_sum {n : Nat} {x : D} (h : OwP n x) (hn : n ≤ 100) : ∃ x', m__law_sums_right [x] = .ok (.bool true) [x'] := by
  obtain ⟨b, m, s, F, p, c, rows, h1, rfl, h3, h4⟩ := h
  exact sums_right h1 (by omega) h3
theorem law_true : ∀ ns : List Int, ns.length ≤ 63 → (∀ z ∈ ns, Builtin.Int.intBits z ≤ 1048576) → ∃ m', m_law (scrD (ns.map .int)) (.none, .none) = .ok (.bool true) m' := fun ns hn _ => by
  have key : Ok (m_law (scrD (ns.map .int))) (.none, .none) fun x _ => x = .bool true := by
    unfold m_law
    refine ok_fin ?_
    walk_at "fj"
    rw [d_catS (by rw [List.length_map]; exact line_le (by show ns.length + 1 ≤ _; omega))]
    walk_at "fj"
    obtain ⟨z, hz⟩ : ∃ z : Int, idxD (.list (ns.map PyData.int ++ [.int 0])) (.int 0) = some (.int z) := by
      cases ns with
      | nil => exact ⟨0, d_ixl0 _ _⟩
      | cons y ys => exact ⟨y, d_ixl0 _ _⟩
    rw [hz]
    walk_at "fj"
    obtain ⟨dk, e, hd⟩ := ok_deck (c := z) (t := 0) (n := 0) (by omega) (by omega)
    rw [e]
    walk_at "fj"
    refine ok_putG rfl ?_
    refine ok_kT (x := .list []) rfl rfl ?_
    refine ok_putG rfl ?_
    rw [d_rng1 (by decide) (by decide), rg2]
    walk_at "fj"
    refine ok_sq ((ok_for (fun i (_ : Unit) mm => ∃ dk xs, mm = (dk, .list xs) ∧ xs.length = i ∧ (∀ x ∈ xs, OwP 0 x) ∧ Dk dk (100 * i)) ⟨dk, [], rfl, rfl, fun x h => (by cases h), hd⟩ ?_).mono ?_)
    · rintro i _ _ _ hz ⟨dk2, xs, rfl, hl, hxs, hd2⟩
      have hi : i < 2 := (List.getElem?_eq_some_iff.mp hz).1
      walk_at "fj"
      refine ok_kD ((ok_kind hd2 (by omega)).mono ?_)
      rintro _ d3 ⟨b, m, rfl, hk, hd3⟩
      have hk : Kd b m := hk
      walk_at "fj"
      refine ok_nr1O ?_
      refine ok_kM0 (x := smD b m 0 [] 0 false) (by rw [r_u1]; exact sm_new) rfl ?_
      walk_at "fj"
      refine ⟨owD b m 0 [] 0 false [] [] false, (d3, .list xs), rfl, ?_⟩
      refine ok_mdP (r := .list xs) rfl (d_appX (by omega)) (m' := (d3, .list (xs ++ [owD b m 0 [] 0 false [] [] false]))) rfl ?_
      refine ok_pu ⟨_, .inl rfl, d3, _, rfl, by rw [List.length_append, hl]; rfl, fun x hx => ?_, hd3.le (by omega)⟩
      rcases List.mem_append.mp hx with z | z
      · exact hxs x z
      · rw [List.mem_singleton.mp z]
        exact ⟨b, m, 0, [], 0, false, [], hk, rfl, ow_new hk, Nat.le_refl _⟩
    rintro _ _ ⟨_, rfl, dk2, xs, rfl, hl, hxs, hd2⟩
    refine ⟨_, rfl, ?_⟩
    have hl : xs.length = 2 := hl
    match xs, hl, hxs with
    | [x0, y0], _, hxs =>
    have hx0 := hxs x0 (.head _)
    have hy0 := hxs y0 (.tail _ (.head _))
    walk_at "fj"
    obtain ⟨ms, hms, es⟩ := sli_scr (lo := some 1) (hi := some 61) hn
    rw [es]
    walk_at "fj"
    rw [d_cat (by rw [List.length_map]; exact line_le (by show ms.length + 1 ≤ _; omega))]
    walk_at "fj"
    rw [show (ms.map PyData.int ++ [.int 0]) = (ms ++ [0]).map .int by rw [List.map_append]; rfl]
    refine ok_sq ((ok_for (fun i (_ : Unit) mm => ∃ dk x y, mm = (dk, .list [x, y]) ∧ OwP i x ∧ OwP i y) ⟨dk2, x0, y0, rfl, hx0, hy0⟩ ?_).mono ?_)
    · rintro i z _ _ hz ⟨dk3, x, y, rfl, hx, hy⟩
      obtain ⟨hi, rfl⟩ := int_get hz
      rw [List.length_append, List.length_singleton] at hi
      obtain ⟨dk4, e4, hd4⟩ := ok_deck (c := (ms ++ [0])[i]) (t := 330) (n := 330) (by omega) (by omega)
      walk_at "fj"
      rw [e4]
      walk_at "fj"
      refine ok_putG rfl ?_
      refine ok_nr1O ?_
      walk_at "fj"
      walk_at "pz"
      rintro _ d5 ⟨v, rfl, v0, v1, hd5⟩
      walk_at "fj"
      by_cases c : v = 0
      · rw [decide_eq_true c]
        obtain ⟨x', d', e1, h1⟩ := ow_one hy (by omega) hd5 (by omega)
        refine ⟨[1], (d5, .list [x, y]), rfl, ?_⟩
        refine ok_getG ?_
        refine ok_ofS (x := y) rfl ?_
        walk_at "fj"
        refine ok_kZ0 (m' := (d', .list [x, x'])) (by rw [r_u0]; exact e1) rfl ?_
        walk_at "fj"
        exact ok_pu ⟨_, .inl rfl, d', x, x', rfl, hx.le (by omega), h1⟩
      · rw [decide_eq_false c]
        obtain ⟨x', d', e1, h1⟩ := ow_one hx (by omega) hd5 (by omega)
        refine ⟨[0], (d5, .list [x, y]), rfl, ?_⟩
        refine ok_getG ?_
        refine ok_ofS (x := x) rfl ?_
        walk_at "fj"
        refine ok_kZ0 (m' := (d', .list [x', y])) (by rw [r_u0]; exact e1) rfl ?_
        walk_at "fj"
        exact ok_pu ⟨_, .inl rfl, d', x', y, rfl, h1, hy.le (by omega)⟩
    · rintro _ _ ⟨_, rfl, dk3, x, y, rfl, hx, hy⟩
      rw [List.length_map, List.length_append, List.length_singleton] at hx hy
      refine ⟨_, rfl, ?_⟩
      obtain ⟨x', ex⟩ := ow_sum hx (by omega)
      obtain ⟨y', ey⟩ := ow_sum hy (by omega)
      walk_at "fj"
      refine ok_nr1 (p := [0]) (m' := (dk3, .list [x, y])) rfl ?_
      refine ok_getG ?_
      refine ok_ofS (x := x) rfl ?_
      walk_at "fj"
      refine ok_kZ0 (m' := (dk3, .list [x', y])) (by rw [r_u0]; exact ex) rfl ?_
      walk_at "fj"
      refine ok_nr1 (p := [1]) (m' := (dk3, .list [x', y])) rfl ?_
      refine ok_getG ?_
      refine ok_ofS (x := y) rfl ?_
      walk_at "fj"
      refine ok_kZ0 (m' := (dk3, .list [x', y'])) (by rw [r_u0]; exact ey) rfl ?_
      walk_at "fj"
      exact ok_pu ⟨_, .inl rfl, rfl⟩
  obtain ⟨a, m', e, rfl⟩ := key
  exact ⟨m', e⟩
section
variable {P : Program} {w : World} {K : PySem.W.Frag} {mg : Str → Option Value} {base : Heap}
theorem ok_law (T : Txt K mg) : FnOk P w K mg base CX0 11 T.a_law T.fd_law ["script"] (sp_law K) := ok_law_of T law_true
end
theorem all_mk {l : PySem.W.OpenLaw} {w : World} {K : PySem.W.Frag} {h : Heap} {mg : Str → Option Value} {fa : Addr} (X : K.In h) (G : h.Ns mainGlobals mg) (hfa : mg "law" = some (.ref fa))
    {CSummer : Addr}
    {CNoFigure : Addr}
    {CNoMore : Addr}
    {CNoLooks : Addr}
    {CNoRoom : Addr}
    {CNoRow : Addr}
    {CNoTable : Addr}
    {CNoText : Addr}
    {CSpoilt : Addr}
    {CNoWork : Addr}
    {CNoCell : Addr}
    {CNoDeed : Addr}
    {CSlackError : Addr}
    {f0 : Addr} {od0 an0 : Option Addr} {sl0 : Array (Option Value)} {oc0 kV0 dc0 pm0 cd0 ct0 : Value}
    {f1 : Addr} {od1 an1 : Option Addr} {sl1 : Array (Option Value)} {oc1 kV1 dc1 pm1 cd1 ct1 : Value}
    {f2 : Addr} {od2 an2 : Option Addr} {sl2 : Array (Option Value)} {oc2 kV2 dc2 pm2 cd2 ct2 : Value}
    {f3 : Addr} {od3 an3 : Option Addr} {sl3 : Array (Option Value)} {oc3 kV3 dc3 pm3 cd3 ct3 : Value}
    {f4 : Addr} {od4 an4 : Option Addr} {sl4 : Array (Option Value)} {oc4 kV4 dc4 pm4 cd4 ct4 : Value}
    {f5 : Addr} {od5 an5 : Option Addr} {sl5 : Array (Option Value)} {oc5 kV5 dc5 pm5 cd5 ct5 : Value}
    {f6 : Addr} {od6 an6 : Option Addr} {sl6 : Array (Option Value)} {oc6 kV6 dc6 pm6 cd6 ct6 : Value}
    {f7 : Addr} {od7 an7 : Option Addr} {sl7 : Array (Option Value)} {oc7 kV7 dc7 pm7 cd7 ct7 : Value}
    {f8 : Addr} {od8 an8 : Option Addr} {sl8 : Array (Option Value)} {oc8 kV8 dc8 pm8 cd8 ct8 : Value}
    {f9 : Addr} {od9 an9 : Option Addr} {sl9 : Array (Option Value)} {oc9 kV9 dc9 pm9 cd9 ct9 : Value}
    {f10 : Addr} {od10 an10 : Option Addr} {sl10 : Array (Option Value)} {oc10 kV10 dc10 pm10 cd10 ct10 : Value}
    {f11 : Addr} {od11 an11 : Option Addr} {sl11 : Array (Option Value)} {oc11 kV11 dc11 pm11 cd11 ct11 : Value}
    {f12 : Addr} {od12 an12 : Option Addr} {sl12 : Array (Option Value)} {oc12 kV12 dc12 pm12 cd12 ct12 : Value}
    {f13 : Addr} {od13 an13 : Option Addr} {sl13 : Array (Option Value)} {oc13 kV13 dc13 pm13 cd13 ct13 : Value}
    {f14 : Addr} {od14 an14 : Option Addr} {sl14 : Array (Option Value)} {oc14 kV14 dc14 pm14 cd14 ct14 : Value}
    {f15 : Addr} {od15 an15 : Option Addr} {sl15 : Array (Option Value)} {oc15 kV15 dc15 pm15 cd15 ct15 : Value}
    {f16 : Addr} {od16 an16 : Option Addr} {sl16 : Array (Option Value)} {oc16 kV16 dc16 pm16 cd16 ct16 : Value}
    {f17 : Addr} {od17 an17 : Option Addr} {sl17 : Array (Option Value)} {oc17 kV17 dc17 pm17 cd17 ct17 : Value}
    {f18 : Addr} {od18 an18 : Option Addr} {sl18 : Array (Option Value)} {oc18 kV18 dc18 pm18 cd18 ct18 : Value}
    {f19 : Addr} {od19 an19 : Option Addr} {sl19 : Array (Option Value)} {oc19 kV19 dc19 pm19 cd19 ct19 : Value}
    {f20 : Addr} {od20 an20 : Option Addr} {sl20 : Array (Option Value)} {oc20 kV20 dc20 pm20 cd20 ct20 : Value}
    {f21 : Addr} {od21 an21 : Option Addr} {sl21 : Array (Option Value)} {oc21 kV21 dc21 pm21 cd21 ct21 : Value}
    (aCSummer : PySem.W.nsIn K mainGlobals "Summer" = some (some (.ref CSummer))) (pgSummer : PySem.W.plainGet K CSummer Str.empty = true) (hdSummer : PySem.W.hasDictIn K CSummer = true) (poSummer : PySem.W.plainOver K CSummer = true) (saSummer : PySem.W.findIn K (.ref CSummer) "__setattr__" = some (some (.builtin "object.__setattr__"))) (mkSummer : PySem.W.makesIn K CSummer = true) (kcSummer : PySem.W.keepIn K (.ref CSummer) = true)
    (nSummer_kind : PySem.W.findIn K (.ref CSummer) "kind" = some none)
    (nSummer_short : PySem.W.findIn K (.ref CSummer) "short" = some none)
    (nSummer_figures : PySem.W.findIn K (.ref CSummer) "figures" = some none)
    (nSummer_pairs : PySem.W.findIn K (.ref CSummer) "pairs" = some none)
    (nSummer_ended : PySem.W.findIn K (.ref CSummer) "ended" = some none)
    (aCNoFigure : PySem.W.nsIn K mainGlobals "NoFigure" = some (some (.ref CNoFigure)))
    (aCNoMore : PySem.W.nsIn K mainGlobals "NoMore" = some (some (.ref CNoMore)))
    (aCNoLooks : PySem.W.nsIn K mainGlobals "NoLooks" = some (some (.ref CNoLooks)))
    (aCNoRoom : PySem.W.nsIn K mainGlobals "NoRoom" = some (some (.ref CNoRoom)))
    (aCNoRow : PySem.W.nsIn K mainGlobals "NoRow" = some (some (.ref CNoRow)))
    (aCNoTable : PySem.W.nsIn K mainGlobals "NoTable" = some (some (.ref CNoTable)))
    (aCNoText : PySem.W.nsIn K mainGlobals "NoText" = some (some (.ref CNoText)))
    (aCSpoilt : PySem.W.nsIn K mainGlobals "Spoilt" = some (some (.ref CSpoilt)))
    (aCNoWork : PySem.W.nsIn K mainGlobals "NoWork" = some (some (.ref CNoWork)))
    (aCNoCell : PySem.W.nsIn K mainGlobals "NoCell" = some (some (.ref CNoCell)))
    (aCNoDeed : PySem.W.nsIn K mainGlobals "NoDeed" = some (some (.ref CNoDeed)))
    (aCSlackError : PySem.W.nsIn K mainGlobals "SlackError" = some (some (.ref CSlackError)))
    (xb_SlackError : PySem.W.subIn K (.ref CSlackError) (.type "BaseException") = some true)
    (xd_SlackError : PySem.W.hasDictIn K CSlackError = true)
    (xt_SlackError : PySem.W.typeIn K (.ref CSlackError) = some (.type "type"))
    (xu_NoFigure_SlackError : PySem.W.subIn K (.ref CNoFigure) (.ref CSlackError) = some true)
    (xu_NoMore_SlackError : PySem.W.subIn K (.ref CNoMore) (.ref CSlackError) = some true)
    (kc_NoFigure : PySem.W.keepIn K (.ref CNoFigure) = true)
    (eb_NoFigure : PySem.W.subIn K (.ref CNoFigure) (.type "BaseException") = some true)
    (et_NoFigure : PySem.W.typeIn K (.ref CNoFigure) = some (.type "type"))
    (ed_NoFigure : PySem.W.hasDictIn K CNoFigure = true)
    (eg_NoFigure : PySem.W.findIn K (.ref CNoFigure) "__getattribute__" = some (some (.builtin "BaseException.__getattribute__")))
    (ek_NoFigure : PySem.W.findIn K (.ref CNoFigure) "__getattr__" = some none)
    (ea_NoFigure : PySem.W.findIn K (.ref CNoFigure) "__class__" = some (some (.builtin "object.__class__")))
    (em_NoFigure : PySem.W.mroIn K CNoFigure (.type "object") = some true)
    (xq_NoFigure : PySem.W.excIn K CNoFigure [.type "ValueError", .type "Exception", .type "BaseException", .type "object"] "ValueError.__new__" = true)
    (ss_NoFigure : PySem.W.subIn K (.ref CNoFigure) (.ref CNoFigure) = some true)
    (ii_NoFigure_NoFigure : PySem.W.subIn K (.ref CNoFigure) (.ref CNoFigure) = some true)
    (ii_NoFigure_NoLooks : PySem.W.subIn K (.ref CNoFigure) (.ref CNoLooks) = some false)
    (ii_NoFigure_NoRoom : PySem.W.subIn K (.ref CNoFigure) (.ref CNoRoom) = some false)
    (ii_NoFigure_NoRow : PySem.W.subIn K (.ref CNoFigure) (.ref CNoRow) = some false)
    (ii_NoFigure_NoTable : PySem.W.subIn K (.ref CNoFigure) (.ref CNoTable) = some false)
    (ii_NoFigure_NoText : PySem.W.subIn K (.ref CNoFigure) (.ref CNoText) = some false)
    (ii_NoFigure_Spoilt : PySem.W.subIn K (.ref CNoFigure) (.ref CSpoilt) = some false)
    (ii_NoFigure_NoMore : PySem.W.subIn K (.ref CNoFigure) (.ref CNoMore) = some false)
    (ii_NoFigure_NoWork : PySem.W.subIn K (.ref CNoFigure) (.ref CNoWork) = some false)
    (ii_NoFigure_NoCell : PySem.W.subIn K (.ref CNoFigure) (.ref CNoCell) = some false)
    (ii_NoFigure_NoDeed : PySem.W.subIn K (.ref CNoFigure) (.ref CNoDeed) = some false)
    (ii_NoFigure_ValueError : PySem.W.subIn K (.ref CNoFigure) (.type "ValueError") = some true)
    (kc_NoMore : PySem.W.keepIn K (.ref CNoMore) = true)
    (eb_NoMore : PySem.W.subIn K (.ref CNoMore) (.type "BaseException") = some true)
    (et_NoMore : PySem.W.typeIn K (.ref CNoMore) = some (.type "type"))
    (ed_NoMore : PySem.W.hasDictIn K CNoMore = true)
    (eg_NoMore : PySem.W.findIn K (.ref CNoMore) "__getattribute__" = some (some (.builtin "BaseException.__getattribute__")))
    (ek_NoMore : PySem.W.findIn K (.ref CNoMore) "__getattr__" = some none)
    (ea_NoMore : PySem.W.findIn K (.ref CNoMore) "__class__" = some (some (.builtin "object.__class__")))
    (em_NoMore : PySem.W.mroIn K CNoMore (.type "object") = some true)
    (xq_NoMore : PySem.W.excIn K CNoMore [.type "ValueError", .type "Exception", .type "BaseException", .type "object"] "ValueError.__new__" = true)
    (ss_NoMore : PySem.W.subIn K (.ref CNoMore) (.ref CNoMore) = some true)
    (ii_NoMore_NoFigure : PySem.W.subIn K (.ref CNoMore) (.ref CNoFigure) = some false)
    (ii_NoMore_NoLooks : PySem.W.subIn K (.ref CNoMore) (.ref CNoLooks) = some false)
    (ii_NoMore_NoRoom : PySem.W.subIn K (.ref CNoMore) (.ref CNoRoom) = some false)
    (ii_NoMore_NoRow : PySem.W.subIn K (.ref CNoMore) (.ref CNoRow) = some false)
    (ii_NoMore_NoTable : PySem.W.subIn K (.ref CNoMore) (.ref CNoTable) = some false)
    (ii_NoMore_NoText : PySem.W.subIn K (.ref CNoMore) (.ref CNoText) = some false)
    (ii_NoMore_Spoilt : PySem.W.subIn K (.ref CNoMore) (.ref CSpoilt) = some false)
    (ii_NoMore_NoMore : PySem.W.subIn K (.ref CNoMore) (.ref CNoMore) = some true)
    (ii_NoMore_NoWork : PySem.W.subIn K (.ref CNoMore) (.ref CNoWork) = some false)
    (ii_NoMore_NoCell : PySem.W.subIn K (.ref CNoMore) (.ref CNoCell) = some false)
    (ii_NoMore_NoDeed : PySem.W.subIn K (.ref CNoMore) (.ref CNoDeed) = some false)
    (ii_NoMore_ValueError : PySem.W.subIn K (.ref CNoMore) (.type "ValueError") = some true)
    (id_NoFigure : PySem.W.hasDictIn K CNoFigure = true)
    (it_NoFigure : PySem.W.typeIn K (.ref CNoFigure) = some (.type "type"))
    (id_NoLooks : PySem.W.hasDictIn K CNoLooks = true)
    (it_NoLooks : PySem.W.typeIn K (.ref CNoLooks) = some (.type "type"))
    (id_NoRoom : PySem.W.hasDictIn K CNoRoom = true)
    (it_NoRoom : PySem.W.typeIn K (.ref CNoRoom) = some (.type "type"))
    (id_NoRow : PySem.W.hasDictIn K CNoRow = true)
    (it_NoRow : PySem.W.typeIn K (.ref CNoRow) = some (.type "type"))
    (id_NoTable : PySem.W.hasDictIn K CNoTable = true)
    (it_NoTable : PySem.W.typeIn K (.ref CNoTable) = some (.type "type"))
    (id_NoText : PySem.W.hasDictIn K CNoText = true)
    (it_NoText : PySem.W.typeIn K (.ref CNoText) = some (.type "type"))
    (id_Spoilt : PySem.W.hasDictIn K CSpoilt = true)
    (it_Spoilt : PySem.W.typeIn K (.ref CSpoilt) = some (.type "type"))
    (id_NoMore : PySem.W.hasDictIn K CNoMore = true)
    (it_NoMore : PySem.W.typeIn K (.ref CNoMore) = some (.type "type"))
    (id_NoWork : PySem.W.hasDictIn K CNoWork = true)
    (it_NoWork : PySem.W.typeIn K (.ref CNoWork) = some (.type "type"))
    (id_NoCell : PySem.W.hasDictIn K CNoCell = true)
    (it_NoCell : PySem.W.typeIn K (.ref CNoCell) = some (.type "type"))
    (id_NoDeed : PySem.W.hasDictIn K CNoDeed = true)
    (it_NoDeed : PySem.W.typeIn K (.ref CNoDeed) = some (.type "type"))
    (e_n : PySem.W.specialIn K (.builtin "object.__class__") "__get__" = some (some (.builtin "getset_descriptor.__get__")))
    (e_k : PySem.W.takesIn K (.builtin "object.__class__") = some true)
    (a0 : PySem.W.nsIn K mainGlobals "is_whole" = some (some (.ref f0))) (l0 : K.lookup f0 = some ⟨oc0, od0, .func (PySem.W.fnOf "is_whole" "is_whole" (defArgs s_is_whole) (defBody s_is_whole) (defScope s_is_whole) .none kV0 dc0 pm0 an0 cd0 ct0), sl0⟩) (c0 : PySem.W.codeIn K cd0 "is_whole" = true) (k0 : PySem.W.keepIn K (.ref f0) = true)
    (a1 : PySem.W.nsIn K mainGlobals "is_figure" = some (some (.ref f1))) (l1 : K.lookup f1 = some ⟨oc1, od1, .func (PySem.W.fnOf "is_figure" "is_figure" (defArgs s_is_figure) (defBody s_is_figure) (defScope s_is_figure) .none kV1 dc1 pm1 an1 cd1 ct1), sl1⟩) (c1 : PySem.W.codeIn K cd1 "is_figure" = true) (k1 : PySem.W.keepIn K (.ref f1) = true)
    (a2 : PySem.W.nsIn K mainGlobals "nearest_figure" = some (some (.ref f2))) (l2 : K.lookup f2 = some ⟨oc2, od2, .func (PySem.W.fnOf "nearest_figure" "nearest_figure" (defArgs s_nearest_figure) (defBody s_nearest_figure) (defScope s_nearest_figure) .none kV2 dc2 pm2 an2 cd2 ct2), sl2⟩) (c2 : PySem.W.codeIn K cd2 "nearest_figure" = true) (k2 : PySem.W.keepIn K (.ref f2) = true)
    (a3 : PySem.W.findIn K (.ref CSummer) "__init__" = some (some (.ref f3))) (i3 : PySem.W.isFn K (.ref f3) = true) (l3 : K.lookup f3 = some ⟨oc3, od3, .func (PySem.W.fnOf "__init__" "Summer.__init__" (defArgs s_Summer_init) (defBody s_Summer_init) (defScope s_Summer_init) .none kV3 dc3 pm3 an3 cd3 ct3), sl3⟩) (c3 : PySem.W.codeIn K cd3 "Summer.__init__" = true) (k3 : PySem.W.keepIn K (.ref f3) = true)
    (a4 : PySem.W.findIn K (.ref CSummer) "tell" = some (some (.ref f4))) (i4 : PySem.W.isFn K (.ref f4) = true) (l4 : K.lookup f4 = some ⟨oc4, od4, .func (PySem.W.fnOf "tell" "Summer.tell" (defArgs s_Summer_tell) (defBody s_Summer_tell) (defScope s_Summer_tell) .none kV4 dc4 pm4 an4 cd4 ct4), sl4⟩) (c4 : PySem.W.codeIn K cd4 "Summer.tell" = true) (k4 : PySem.W.keepIn K (.ref f4) = true)
    (a5 : PySem.W.findIn K (.ref CSummer) "put" = some (some (.ref f5))) (i5 : PySem.W.isFn K (.ref f5) = true) (l5 : K.lookup f5 = some ⟨oc5, od5, .func (PySem.W.fnOf "put" "Summer.put" (defArgs s_Summer_put) (defBody s_Summer_put) (defScope s_Summer_put) .none kV5 dc5 pm5 an5 cd5 ct5), sl5⟩) (c5 : PySem.W.codeIn K cd5 "Summer.put" = true) (k5 : PySem.W.keepIn K (.ref f5) = true)
    (a6 : PySem.W.findIn K (.ref CSummer) "end" = some (some (.ref f6))) (i6 : PySem.W.isFn K (.ref f6) = true) (l6 : K.lookup f6 = some ⟨oc6, od6, .func (PySem.W.fnOf "end" "Summer.end" (defArgs s_Summer_end) (defBody s_Summer_end) (defScope s_Summer_end) .none kV6 dc6 pm6 an6 cd6 ct6), sl6⟩) (c6 : PySem.W.codeIn K cd6 "Summer.end" = true) (k6 : PySem.W.keepIn K (.ref f6) = true)
    (a7 : PySem.W.findIn K (.ref CSummer) "refuse_behind_end" = some (some (.ref f7))) (i7 : PySem.W.isFn K (.ref f7) = true) (l7 : K.lookup f7 = some ⟨oc7, od7, .func (PySem.W.fnOf "refuse_behind_end" "Summer.refuse_behind_end" (defArgs s_Summer_refuse_behind_end) (defBody s_Summer_refuse_behind_end) (defScope s_Summer_refuse_behind_end) .none kV7 dc7 pm7 an7 cd7 ct7), sl7⟩) (c7 : PySem.W.codeIn K cd7 "Summer.refuse_behind_end" = true) (k7 : PySem.W.keepIn K (.ref f7) = true)
    (a8 : PySem.W.findIn K (.ref CSummer) "told" = some (some (.ref f8))) (i8 : PySem.W.isFn K (.ref f8) = true) (l8 : K.lookup f8 = some ⟨oc8, od8, .func (PySem.W.fnOf "told" "Summer.told" (defArgs s_Summer_told) (defBody s_Summer_told) (defScope s_Summer_told) .none kV8 dc8 pm8 an8 cd8 ct8), sl8⟩) (c8 : PySem.W.codeIn K cd8 "Summer.told" = true) (k8 : PySem.W.keepIn K (.ref f8) = true)
    (a9 : PySem.W.nsIn K mainGlobals "_law_deck" = some (some (.ref f9))) (l9 : K.lookup f9 = some ⟨oc9, od9, .func (PySem.W.fnOf "_law_deck" "_law_deck" (defArgs s__law_deck) (defBody s__law_deck) (defScope s__law_deck) .none kV9 dc9 pm9 an9 cd9 ct9), sl9⟩) (c9 : PySem.W.codeIn K cd9 "_law_deck" = true) (k9 : PySem.W.keepIn K (.ref f9) = true)
    (a10 : PySem.W.nsIn K mainGlobals "_law_pick" = some (some (.ref f10))) (l10 : K.lookup f10 = some ⟨oc10, od10, .func (PySem.W.fnOf "_law_pick" "_law_pick" (defArgs s__law_pick) (defBody s__law_pick) (defScope s__law_pick) .none kV10 dc10 pm10 an10 cd10 ct10), sl10⟩) (c10 : PySem.W.codeIn K cd10 "_law_pick" = true) (k10 : PySem.W.keepIn K (.ref f10) = true)
    (a11 : PySem.W.nsIn K mainGlobals "_law_kind" = some (some (.ref f11))) (l11 : K.lookup f11 = some ⟨oc11, od11, .func (PySem.W.fnOf "_law_kind" "_law_kind" (defArgs s__law_kind) (defBody s__law_kind) (defScope s__law_kind) .none kV11 dc11 pm11 an11 cd11 ct11), sl11⟩) (c11 : PySem.W.codeIn K cd11 "_law_kind" = true) (k11 : PySem.W.keepIn K (.ref f11) = true)
    (a12 : PySem.W.nsIn K mainGlobals "_law_whole" = some (some (.ref f12))) (l12 : K.lookup f12 = some ⟨oc12, od12, .func (PySem.W.fnOf "_law_whole" "_law_whole" (defArgs s__law_whole) (defBody s__law_whole) (defScope s__law_whole) .none kV12 dc12 pm12 an12 cd12 ct12), sl12⟩) (c12 : PySem.W.codeIn K cd12 "_law_whole" = true) (k12 : PySem.W.keepIn K (.ref f12) = true)
    (a13 : PySem.W.nsIn K mainGlobals "_law_name_of" = some (some (.ref f13))) (l13 : K.lookup f13 = some ⟨oc13, od13, .func (PySem.W.fnOf "_law_name_of" "_law_name_of" (defArgs s__law_name_of) (defBody s__law_name_of) (defScope s__law_name_of) .none kV13 dc13 pm13 an13 cd13 ct13), sl13⟩) (c13 : PySem.W.codeIn K cd13 "_law_name_of" = true) (k13 : PySem.W.keepIn K (.ref f13) = true)
    (a14 : PySem.W.nsIn K mainGlobals "_law_thing" = some (some (.ref f14))) (l14 : K.lookup f14 = some ⟨oc14, od14, .func (PySem.W.fnOf "_law_thing" "_law_thing" (defArgs s__law_thing) (defBody s__law_thing) (defScope s__law_thing) .none kV14 dc14 pm14 an14 cd14 ct14), sl14⟩) (c14 : PySem.W.codeIn K cd14 "_law_thing" = true) (k14 : PySem.W.keepIn K (.ref f14) = true)
    (a15 : PySem.W.nsIn K mainGlobals "_law_worth" = some (some (.ref f15))) (l15 : K.lookup f15 = some ⟨oc15, od15, .func (PySem.W.fnOf "_law_worth" "_law_worth" (defArgs s__law_worth) (defBody s__law_worth) (defScope s__law_worth) .none kV15 dc15 pm15 an15 cd15 ct15), sl15⟩) (c15 : PySem.W.codeIn K cd15 "_law_worth" = true) (k15 : PySem.W.keepIn K (.ref f15) = true)
    (a16 : PySem.W.nsIn K mainGlobals "_law_is_figure" = some (some (.ref f16))) (l16 : K.lookup f16 = some ⟨oc16, od16, .func (PySem.W.fnOf "_law_is_figure" "_law_is_figure" (defArgs s__law_is_figure) (defBody s__law_is_figure) (defScope s__law_is_figure) .none kV16 dc16 pm16 an16 cd16 ct16), sl16⟩) (c16 : PySem.W.codeIn K cd16 "_law_is_figure" = true) (k16 : PySem.W.keepIn K (.ref f16) = true)
    (a17 : PySem.W.nsIn K mainGlobals "_law_tried" = some (some (.ref f17))) (l17 : K.lookup f17 = some ⟨oc17, od17, .func (PySem.W.fnOf "_law_tried" "_law_tried" (defArgs s__law_tried) (defBody s__law_tried) (defScope s__law_tried) .none kV17 dc17 pm17 an17 cd17 ct17), sl17⟩) (c17 : PySem.W.codeIn K cd17 "_law_tried" = true) (k17 : PySem.W.keepIn K (.ref f17) = true)
    (a18 : PySem.W.nsIn K mainGlobals "_law_pair" = some (some (.ref f18))) (l18 : K.lookup f18 = some ⟨oc18, od18, .func (PySem.W.fnOf "_law_pair" "_law_pair" (defArgs s__law_pair) (defBody s__law_pair) (defScope s__law_pair) .none kV18 dc18 pm18 an18 cd18 ct18), sl18⟩) (c18 : PySem.W.codeIn K cd18 "_law_pair" = true) (k18 : PySem.W.keepIn K (.ref f18) = true)
    (a19 : PySem.W.nsIn K mainGlobals "_law_one_right" = some (some (.ref f19))) (l19 : K.lookup f19 = some ⟨oc19, od19, .func (PySem.W.fnOf "_law_one_right" "_law_one_right" (defArgs s__law_one_right) (defBody s__law_one_right) (defScope s__law_one_right) .none kV19 dc19 pm19 an19 cd19 ct19), sl19⟩) (c19 : PySem.W.codeIn K cd19 "_law_one_right" = true) (k19 : PySem.W.keepIn K (.ref f19) = true)
    (a20 : PySem.W.nsIn K mainGlobals "_law_sums_right" = some (some (.ref f20))) (l20 : K.lookup f20 = some ⟨oc20, od20, .func (PySem.W.fnOf "_law_sums_right" "_law_sums_right" (defArgs s__law_sums_right) (defBody s__law_sums_right) (defScope s__law_sums_right) .none kV20 dc20 pm20 an20 cd20 ct20), sl20⟩) (c20 : PySem.W.codeIn K cd20 "_law_sums_right" = true) (k20 : PySem.W.keepIn K (.ref f20) = true)
    (a21 : PySem.W.nsIn K mainGlobals "law" = some (some (.ref f21))) (l21 : K.lookup f21 = some ⟨oc21, od21, .func (PySem.W.fnOf "law" "law" (defArgs s_law) (defBody s_law) (defScope s_law) .none kV21 dc21 pm21 an21 cd21 ct21), sl21⟩) (c21 : PySem.W.codeIn K cd21 "law" = true) (k21 : PySem.W.keepIn K (.ref f21) = true)
    (z0 : PySem.W.nsIn K mainGlobals "isinstance" = some none)
    (z1 : PySem.W.nsIn K mainGlobals "int" = some none)
    (z2 : PySem.W.nsIn K mainGlobals "bool" = some none)
    (z3 : PySem.W.nsIn K mainGlobals "max" = some none)
    (z4 : PySem.W.nsIn K mainGlobals "min" = some none)
    (z5 : PySem.W.nsIn K mainGlobals "list" = some none)
    (z6 : PySem.W.nsIn K mainGlobals "ValueError" = some none)
    (z7 : PySem.W.nsIn K mainGlobals "zip" = some none)
    (z8 : PySem.W.nsIn K mainGlobals "range" = some none)
    (z9 : PySem.W.nsIn K mainGlobals "tuple" = some none)
    (z10 : PySem.W.nsIn K mainGlobals "sum" = some none)
    (z11 : PySem.W.nsIn K mainGlobals "len" = some none) :
    ∃ fd : FuncData, (∀ (s : Shared) (v : Value), BindsTo s fd ⟨[v], []⟩ [("script", v)]) ∧ ∀ base : Heap, K.In base → base.Ns mainGlobals mg → FnOk l.prog w K mg base CX0 11 fa fd ["script"] (sp_law K) := by
  have e := hfa.symm.trans (PySem.W.mg_of X G a21)
  cases e
  have F0 := fun_mk (st := s_is_whole) l0 c0 k0
  have b0 := F0.binds (ps := ["thing"]) fun _ _ _ _ _ _ us hl => match us, hl with | [_], _ => rfl
  have F1 := fun_mk (st := s_is_figure) l1 c1 k1
  have b1 := F1.binds (ps := ["kind", "thing"]) fun _ _ _ _ _ _ us hl => match us, hl with | [_, _], _ => rfl
  have F2 := fun_mk (st := s_nearest_figure) l2 c2 k2
  have b2 := F2.binds (ps := ["kind", "number", "weight"]) fun _ _ _ _ _ _ us hl => match us, hl with | [_, _, _], _ => rfl
  have F3 := fun_mk (st := s_Summer_init) l3 c3 k3
  have b3 := F3.binds (ps := ["self", "kind"]) fun _ _ _ _ _ _ us hl => match us, hl with | [_, _], _ => rfl
  have F4 := fun_mk (st := s_Summer_tell) l4 c4 k4
  have b4 := F4.binds (ps := ["self", "weight"]) fun _ _ _ _ _ _ us hl => match us, hl with | [_, _], _ => rfl
  have F5 := fun_mk (st := s_Summer_put) l5 c5 k5
  have b5 := F5.binds (ps := ["self", "one", "other"]) fun _ _ _ _ _ _ us hl => match us, hl with | [_, _, _], _ => rfl
  have F6 := fun_mk (st := s_Summer_end) l6 c6 k6
  have b6 := F6.binds (ps := ["self"]) fun _ _ _ _ _ _ us hl => match us, hl with | [_], _ => rfl
  have F7 := fun_mk (st := s_Summer_refuse_behind_end) l7 c7 k7
  have b7 := F7.binds (ps := ["self"]) fun _ _ _ _ _ _ us hl => match us, hl with | [_], _ => rfl
  have F8 := fun_mk (st := s_Summer_told) l8 c8 k8
  have b8 := F8.binds (ps := ["self"]) fun _ _ _ _ _ _ us hl => match us, hl with | [_], _ => rfl
  have F9 := fun_mk (st := s__law_deck) l9 c9 k9
  have b9 := F9.binds (ps := ["cell", "turn"]) fun _ _ _ _ _ _ us hl => match us, hl with | [_, _], _ => rfl
  have F10 := fun_mk (st := s__law_pick) l10 c10 k10
  have b10 := F10.binds (ps := ["deck", "many"]) fun _ _ _ _ _ _ us hl => match us, hl with | [_, _], _ => rfl
  have F11 := fun_mk (st := s__law_kind) l11 c11 k11
  have b11 := F11.binds (ps := ["deck"]) fun _ _ _ _ _ _ us hl => match us, hl with | [_], _ => rfl
  have F12 := fun_mk (st := s__law_whole) l12 c12 k12
  have b12 := F12.binds (ps := ["thing"]) fun _ _ _ _ _ _ us hl => match us, hl with | [_], _ => rfl
  have F13 := fun_mk (st := s__law_name_of) l13 c13 k13
  have b13 := F13.binds (ps := ["e"]) fun _ _ _ _ _ _ us hl => match us, hl with | [_], _ => rfl
  have F14 := fun_mk (st := s__law_thing) l14 c14 k14
  have b14 := F14.binds (ps := ["deck", "deep"]) fun _ _ _ _ _ _ us hl => match us, hl with | [_, _], _ => rfl
  have F15 := fun_mk (st := s__law_worth) l15 c15 k15
  have b15 := F15.binds (ps := ["kind", "row"]) fun _ _ _ _ _ _ us hl => match us, hl with | [_, _], _ => rfl
  have F16 := fun_mk (st := s__law_is_figure) l16 c16 k16
  have b16 := F16.binds (ps := ["kind", "thing"]) fun _ _ _ _ _ _ us hl => match us, hl with | [_, _], _ => rfl
  have F17 := fun_mk (st := s__law_tried) l17 c17 k17
  have b17 := F17.binds (ps := ["summer", "pair"]) fun _ _ _ _ _ _ us hl => match us, hl with | [_, _], _ => rfl
  have F18 := fun_mk (st := s__law_pair) l18 c18 k18
  have b18 := F18.binds (ps := ["deck", "kind"]) fun _ _ _ _ _ _ us hl => match us, hl with | [_, _], _ => rfl
  have F19 := fun_mk (st := s__law_one_right) l19 c19 k19
  have b19 := F19.binds (ps := ["deck", "own"]) fun _ _ _ _ _ _ us hl => match us, hl with | [_, _], _ => rfl
  have F20 := fun_mk (st := s__law_sums_right) l20 c20 k20
  have b20 := F20.binds (ps := ["own"]) fun _ _ _ _ _ _ us hl => match us, hl with | [_], _ => rfl
  have F21 := fun_mk (st := s_law) l21 c21 k21
  have b21 := F21.binds (ps := ["script"]) fun _ _ _ _ _ _ us hl => match us, hl with | [_], _ => rfl
  let T : Txt K mg := { C_Summer := CSummer, c_Summer := ⟨pgSummer, hdSummer, poSummer, saSummer⟩, g_Summer := PySem.W.mg_of X G aCSummer, n_Summer_kind := nSummer_kind, n_Summer_short := nSummer_short, n_Summer_figures := nSummer_figures, n_Summer_pairs := nSummer_pairs, n_Summer_ended := nSummer_ended, C_NoFigure := CNoFigure, g_NoFigure := PySem.W.mg_of X G aCNoFigure, C_NoMore := CNoMore, g_NoMore := PySem.W.mg_of X G aCNoMore, C_NoLooks := CNoLooks, g_NoLooks := PySem.W.mg_of X G aCNoLooks, C_NoRoom := CNoRoom, g_NoRoom := PySem.W.mg_of X G aCNoRoom, C_NoRow := CNoRow, g_NoRow := PySem.W.mg_of X G aCNoRow, C_NoTable := CNoTable, g_NoTable := PySem.W.mg_of X G aCNoTable, C_NoText := CNoText, g_NoText := PySem.W.mg_of X G aCNoText, C_Spoilt := CSpoilt, g_Spoilt := PySem.W.mg_of X G aCSpoilt, C_NoWork := CNoWork, g_NoWork := PySem.W.mg_of X G aCNoWork, C_NoCell := CNoCell, g_NoCell := PySem.W.mg_of X G aCNoCell, C_NoDeed := CNoDeed, g_NoDeed := PySem.W.mg_of X G aCNoDeed, C_SlackError := CSlackError, g_SlackError := PySem.W.mg_of X G aCSlackError, xb_SlackError := xb_SlackError, xd_SlackError := xd_SlackError, xt_SlackError := xt_SlackError, xu_NoFigure_SlackError := xu_NoFigure_SlackError, xu_NoMore_SlackError := xu_NoMore_SlackError, kc_NoFigure := kc_NoFigure, eb_NoFigure := eb_NoFigure, et_NoFigure := et_NoFigure, ed_NoFigure := ed_NoFigure, eg_NoFigure := eg_NoFigure, ek_NoFigure := ek_NoFigure, ea_NoFigure := ea_NoFigure, em_NoFigure := em_NoFigure, xq_NoFigure := xq_NoFigure, ss_NoFigure := ss_NoFigure, ii_NoFigure_NoFigure := ii_NoFigure_NoFigure, ii_NoFigure_NoLooks := ii_NoFigure_NoLooks, ii_NoFigure_NoRoom := ii_NoFigure_NoRoom, ii_NoFigure_NoRow := ii_NoFigure_NoRow, ii_NoFigure_NoTable := ii_NoFigure_NoTable, ii_NoFigure_NoText := ii_NoFigure_NoText, ii_NoFigure_Spoilt := ii_NoFigure_Spoilt, ii_NoFigure_NoMore := ii_NoFigure_NoMore, ii_NoFigure_NoWork := ii_NoFigure_NoWork, ii_NoFigure_NoCell := ii_NoFigure_NoCell, ii_NoFigure_NoDeed := ii_NoFigure_NoDeed, ii_NoFigure_ValueError := ii_NoFigure_ValueError, kc_NoMore := kc_NoMore, eb_NoMore := eb_NoMore, et_NoMore := et_NoMore, ed_NoMore := ed_NoMore, eg_NoMore := eg_NoMore, ek_NoMore := ek_NoMore, ea_NoMore := ea_NoMore, em_NoMore := em_NoMore, xq_NoMore := xq_NoMore, ss_NoMore := ss_NoMore, ii_NoMore_NoFigure := ii_NoMore_NoFigure, ii_NoMore_NoLooks := ii_NoMore_NoLooks, ii_NoMore_NoRoom := ii_NoMore_NoRoom, ii_NoMore_NoRow := ii_NoMore_NoRow, ii_NoMore_NoTable := ii_NoMore_NoTable, ii_NoMore_NoText := ii_NoMore_NoText, ii_NoMore_Spoilt := ii_NoMore_Spoilt, ii_NoMore_NoMore := ii_NoMore_NoMore, ii_NoMore_NoWork := ii_NoMore_NoWork, ii_NoMore_NoCell := ii_NoMore_NoCell, ii_NoMore_NoDeed := ii_NoMore_NoDeed, ii_NoMore_ValueError := ii_NoMore_ValueError, id_NoFigure := id_NoFigure, it_NoFigure := it_NoFigure, id_NoLooks := id_NoLooks, it_NoLooks := it_NoLooks, id_NoRoom := id_NoRoom, it_NoRoom := it_NoRoom, id_NoRow := id_NoRow, it_NoRow := it_NoRow, id_NoTable := id_NoTable, it_NoTable := it_NoTable, id_NoText := id_NoText, it_NoText := it_NoText, id_Spoilt := id_Spoilt, it_Spoilt := it_Spoilt, id_NoMore := id_NoMore, it_NoMore := it_NoMore, id_NoWork := id_NoWork, it_NoWork := it_NoWork, id_NoCell := id_NoCell, it_NoCell := it_NoCell, id_NoDeed := id_NoDeed, it_NoDeed := it_NoDeed, e_n := e_n, e_k := e_k, a_is_whole := f0, fd_is_whole := _, F_is_whole := F0, m_is_whole := PySem.W.mg_of X G a0, b_is_whole := b0, a_is_figure := f1, fd_is_figure := _, F_is_figure := F1, m_is_figure := PySem.W.mg_of X G a1, b_is_figure := b1, a_nearest_figure := f2, fd_nearest_figure := _, F_nearest_figure := F2, m_nearest_figure := PySem.W.mg_of X G a2, b_nearest_figure := b2, a_Summer_init := f3, fd_Summer_init := _, F_Summer_init := F3, k_Summer := ⟨mkSummer, a3, i3, kcSummer⟩, b_Summer_init := b3, a_Summer_tell := f4, fd_Summer_tell := _, F_Summer_tell := F4, h_Summer_tell := ⟨a4, i4, k4⟩, b_Summer_tell := b4, a_Summer_put := f5, fd_Summer_put := _, F_Summer_put := F5, h_Summer_put := ⟨a5, i5, k5⟩, b_Summer_put := b5, a_Summer_end := f6, fd_Summer_end := _, F_Summer_end := F6, h_Summer_end := ⟨a6, i6, k6⟩, b_Summer_end := b6, a_Summer_refuse_behind_end := f7, fd_Summer_refuse_behind_end := _, F_Summer_refuse_behind_end := F7, h_Summer_refuse_behind_end := ⟨a7, i7, k7⟩, b_Summer_refuse_behind_end := b7, a_Summer_told := f8, fd_Summer_told := _, F_Summer_told := F8, h_Summer_told := ⟨a8, i8, k8⟩, b_Summer_told := b8, a__law_deck := f9, fd__law_deck := _, F__law_deck := F9, m__law_deck := PySem.W.mg_of X G a9, b__law_deck := b9, a__law_pick := f10, fd__law_pick := _, F__law_pick := F10, m__law_pick := PySem.W.mg_of X G a10, b__law_pick := b10, a__law_kind := f11, fd__law_kind := _, F__law_kind := F11, m__law_kind := PySem.W.mg_of X G a11, b__law_kind := b11, a__law_whole := f12, fd__law_whole := _, F__law_whole := F12, m__law_whole := PySem.W.mg_of X G a12, b__law_whole := b12, a__law_name_of := f13, fd__law_name_of := _, F__law_name_of := F13, m__law_name_of := PySem.W.mg_of X G a13, b__law_name_of := b13, a__law_thing := f14, fd__law_thing := _, F__law_thing := F14, m__law_thing := PySem.W.mg_of X G a14, b__law_thing := b14, a__law_worth := f15, fd__law_worth := _, F__law_worth := F15, m__law_worth := PySem.W.mg_of X G a15, b__law_worth := b15, a__law_is_figure := f16, fd__law_is_figure := _, F__law_is_figure := F16, m__law_is_figure := PySem.W.mg_of X G a16, b__law_is_figure := b16, a__law_tried := f17, fd__law_tried := _, F__law_tried := F17, m__law_tried := PySem.W.mg_of X G a17, b__law_tried := b17, a__law_pair := f18, fd__law_pair := _, F__law_pair := F18, m__law_pair := PySem.W.mg_of X G a18, b__law_pair := b18, a__law_one_right := f19, fd__law_one_right := _, F__law_one_right := F19, m__law_one_right := PySem.W.mg_of X G a19, b__law_one_right := b19, a__law_sums_right := f20, fd__law_sums_right := _, F__law_sums_right := F20, m__law_sums_right := PySem.W.mg_of X G a20, b__law_sums_right := b20, a_law := fa, fd_law := _, F_law := F21, m_law := PySem.W.mg_of X G a21, b_law := b21, z_isinstance := PySem.W.mg_none_of X G z0, z_int := PySem.W.mg_none_of X G z1, z_bool := PySem.W.mg_none_of X G z2, z_max := PySem.W.mg_none_of X G z3, z_min := PySem.W.mg_none_of X G z4, z_list := PySem.W.mg_none_of X G z5, z_ValueError := PySem.W.mg_none_of X G z6, z_zip := PySem.W.mg_none_of X G z7, z_range := PySem.W.mg_none_of X G z8, z_tuple := PySem.W.mg_none_of X G z9, z_sum := PySem.W.mg_none_of X G z10, z_len := PySem.W.mg_none_of X G z11 }
  exact ⟨PySem.W.fnOf "law" "law" (defArgs s_law) (defBody s_law) (defScope s_law) .none kV21 dc21 pm21 an21 cd21 ct21, fun s v => .of_eq rfl, fun base _ _ => ok_law T⟩
theorem walk {l : PySem.W.OpenLaw} {q : Program} {loose : List Str} {XP : (Str → Option Value) → Heap → Prop} {YP : World → Heap → Prop} {d : DefRec} {K : Params → PySem.W.Frag} (hn : l.most = some 63) (hdf : d.params.defaults = [])
    (hY : ∀ (w : World) (h : Heap), YP w h → (K w.params).In h)
    (F : ∀ (w : World) (mg : Str → Option Value) (fa : Addr) (h : Heap), (K w.params).In h → h.Ns mainGlobals mg → mg d.name = some (.ref fa) →
      ∃ fd : FuncData, (∀ (s : Shared) (u : Value), BindsTo s fd ⟨[u], []⟩ [("script", u)]) ∧ ∀ base : Heap, (K w.params).In base → base.Ns mainGlobals mg → FnOk l.prog w (K w.params) mg base CX0 11 fa fd ["script"] (sp_law (K w.params))) :
    PySem.W.WalkO q loose XP YP l.row.toRowW d [] (fun f vs => PySem.call f vs) :=
  L2.walk_ofB (n := 63) (k := 11) (x := "script") (CX := fun _ => CX0) (sp := fun w => sp_law (K w.params)) hn (by decide) hdf ⟨rfl, by decide, by decide⟩ hY F (fun _ _ a ns hl hb _ hS => ⟨a, ns, rfl, hS, hl, hb, fun _ => rfl⟩) fun _ _ _ _ _ z => z
end My
open PySem PySem.W PyProof.Rows
set_option maxRecDepth 100000 in
set_option maxHeartbeats 0 in
theorem PySem.Challenge.cw_slackfigures_k39_summers_by_turns_holds : PySem.Challenge.rw_slackfigures_k39_summers_by_turns.Holds := by
  w_on; o_law; k_head; (case hw => w_witness2)
  k_fill
  refine My.walk (l := PySem.Challenge.rw_slackfigures_k39_summers_by_turns) rfl rfl (fun w h Y => PySem.W.kIn_of Y) ?F
  case F =>
    intro w mg fa h KX G hmg
    refine' My.all_mk KX G hmg ?aCSummer ?pgSummer ?hdSummer ?poSummer ?saSummer ?mkSummer ?kcSummer ?nSummer_kind ?nSummer_short ?nSummer_figures ?nSummer_pairs ?nSummer_ended ?aCNoFigure ?aCNoMore ?aCNoLooks ?aCNoRoom ?aCNoRow ?aCNoTable ?aCNoText ?aCSpoilt ?aCNoWork ?aCNoCell ?aCNoDeed ?aCSlackError ?xb_SlackError ?xd_SlackError ?xt_SlackError ?xu_NoFigure_SlackError ?xu_NoMore_SlackError ?kc_NoFigure ?eb_NoFigure ?et_NoFigure ?ed_NoFigure ?eg_NoFigure ?ek_NoFigure ?ea_NoFigure ?em_NoFigure ?xq_NoFigure ?ss_NoFigure ?ii_NoFigure_NoFigure ?ii_NoFigure_NoLooks ?ii_NoFigure_NoRoom ?ii_NoFigure_NoRow ?ii_NoFigure_NoTable ?ii_NoFigure_NoText ?ii_NoFigure_Spoilt ?ii_NoFigure_NoMore ?ii_NoFigure_NoWork ?ii_NoFigure_NoCell ?ii_NoFigure_NoDeed ?ii_NoFigure_ValueError ?kc_NoMore ?eb_NoMore ?et_NoMore ?ed_NoMore ?eg_NoMore ?ek_NoMore ?ea_NoMore ?em_NoMore ?xq_NoMore ?ss_NoMore ?ii_NoMore_NoFigure ?ii_NoMore_NoLooks ?ii_NoMore_NoRoom ?ii_NoMore_NoRow ?ii_NoMore_NoTable ?ii_NoMore_NoText ?ii_NoMore_Spoilt ?ii_NoMore_NoMore ?ii_NoMore_NoWork ?ii_NoMore_NoCell ?ii_NoMore_NoDeed ?ii_NoMore_ValueError ?id_NoFigure ?it_NoFigure ?id_NoLooks ?it_NoLooks ?id_NoRoom ?it_NoRoom ?id_NoRow ?it_NoRow ?id_NoTable ?it_NoTable ?id_NoText ?it_NoText ?id_Spoilt ?it_Spoilt ?id_NoMore ?it_NoMore ?id_NoWork ?it_NoWork ?id_NoCell ?it_NoCell ?id_NoDeed ?it_NoDeed ?e_n ?e_k ?a0 ?l0 ?c0 ?k0 ?a1 ?l1 ?c1 ?k1 ?a2 ?l2 ?c2 ?k2 ?a3 ?i3 ?l3 ?c3 ?k3 ?a4 ?i4 ?l4 ?c4 ?k4 ?a5 ?i5 ?l5 ?c5 ?k5 ?a6 ?i6 ?l6 ?c6 ?k6 ?a7 ?i7 ?l7 ?c7 ?k7 ?a8 ?i8 ?l8 ?c8 ?k8 ?a9 ?l9 ?c9 ?k9 ?a10 ?l10 ?c10 ?k10 ?a11 ?l11 ?c11 ?k11 ?a12 ?l12 ?c12 ?k12 ?a13 ?l13 ?c13 ?k13 ?a14 ?l14 ?c14 ?k14 ?a15 ?l15 ?c15 ?k15 ?a16 ?l16 ?c16 ?k16 ?a17 ?l17 ?c17 ?k17 ?a18 ?l18 ?c18 ?k18 ?a19 ?l19 ?c19 ?k19 ?a20 ?l20 ?c20 ?k20 ?a21 ?l21 ?c21 ?k21 ?z0 ?z1 ?z2 ?z3 ?z4 ?z5 ?z6 ?z7 ?z8 ?z9 ?z10 ?z11
    (case aCSummer => k_is)
    (case pgSummer => k_is)
    (case hdSummer => k_is)
    (case poSummer => k_is)
    (case saSummer => k_is)
    (case mkSummer => k_is)
    (case kcSummer => k_is)
    (case nSummer_kind => k_is)
    (case nSummer_short => k_is)
    (case nSummer_figures => k_is)
    (case nSummer_pairs => k_is)
    (case nSummer_ended => k_is)
    (case aCNoFigure => k_is)
    (case aCNoMore => k_is)
    (case aCNoLooks => k_is)
    (case aCNoRoom => k_is)
    (case aCNoRow => k_is)
    (case aCNoTable => k_is)
    (case aCNoText => k_is)
    (case aCSpoilt => k_is)
    (case aCNoWork => k_is)
    (case aCNoCell => k_is)
    (case aCNoDeed => k_is)
    (case aCSlackError => k_is)
    (case xb_SlackError => k_is)
    (case xd_SlackError => k_is)
    (case xt_SlackError => k_is)
    (case xu_NoFigure_SlackError => k_is)
    (case xu_NoMore_SlackError => k_is)
    (case kc_NoFigure => k_is)
    (case eb_NoFigure => k_is)
    (case et_NoFigure => k_is)
    (case ed_NoFigure => k_is)
    (case eg_NoFigure => k_is)
    (case ek_NoFigure => k_is)
    (case ea_NoFigure => k_is)
    (case em_NoFigure => k_is)
    (case xq_NoFigure => first | k_is | k_exc)
    (case ss_NoFigure => first | rfl | k_is)
    (case ii_NoFigure_NoFigure => first | rfl | k_is)
    (case ii_NoFigure_NoLooks => k_is)
    (case ii_NoFigure_NoRoom => k_is)
    (case ii_NoFigure_NoRow => k_is)
    (case ii_NoFigure_NoTable => k_is)
    (case ii_NoFigure_NoText => k_is)
    (case ii_NoFigure_Spoilt => k_is)
    (case ii_NoFigure_NoMore => k_is)
    (case ii_NoFigure_NoWork => k_is)
    (case ii_NoFigure_NoCell => k_is)
    (case ii_NoFigure_NoDeed => k_is)
    (case ii_NoFigure_ValueError => k_is)
    (case kc_NoMore => k_is)
    (case eb_NoMore => k_is)
    (case et_NoMore => k_is)
    (case ed_NoMore => k_is)
    (case eg_NoMore => k_is)
    (case ek_NoMore => k_is)
    (case ea_NoMore => k_is)
    (case em_NoMore => k_is)
    (case xq_NoMore => first | k_is | k_exc)
    (case ss_NoMore => first | rfl | k_is)
    (case ii_NoMore_NoFigure => k_is)
    (case ii_NoMore_NoLooks => k_is)
    (case ii_NoMore_NoRoom => k_is)
    (case ii_NoMore_NoRow => k_is)
    (case ii_NoMore_NoTable => k_is)
    (case ii_NoMore_NoText => k_is)
    (case ii_NoMore_Spoilt => k_is)
    (case ii_NoMore_NoMore => first | rfl | k_is)
    (case ii_NoMore_NoWork => k_is)
    (case ii_NoMore_NoCell => k_is)
    (case ii_NoMore_NoDeed => k_is)
    (case ii_NoMore_ValueError => k_is)
    (case id_NoFigure => k_is)
    (case it_NoFigure => k_is)
    (case id_NoLooks => k_is)
    (case it_NoLooks => k_is)
    (case id_NoRoom => k_is)
    (case it_NoRoom => k_is)
    (case id_NoRow => k_is)
    (case it_NoRow => k_is)
    (case id_NoTable => k_is)
    (case it_NoTable => k_is)
    (case id_NoText => k_is)
    (case it_NoText => k_is)
    (case id_Spoilt => k_is)
    (case it_Spoilt => k_is)
    (case id_NoMore => k_is)
    (case it_NoMore => k_is)
    (case id_NoWork => k_is)
    (case it_NoWork => k_is)
    (case id_NoCell => k_is)
    (case it_NoCell => k_is)
    (case id_NoDeed => k_is)
    (case it_NoDeed => k_is)
    (case e_n => k_is)
    (case e_k => k_is)
    (case a0 => k_is)
    (case l0 => k_is)
    (case c0 => k_is)
    (case k0 => k_is)
    (case a1 => k_is)
    (case l1 => k_is)
    (case c1 => k_is)
    (case k1 => k_is)
    (case a2 => k_is)
    (case l2 => k_is)
    (case c2 => k_is)
    (case k2 => k_is)
    (case a3 => k_is)
    (case i3 => k_is)
    (case l3 => k_is)
    (case c3 => k_is)
    (case k3 => k_is)
    (case a4 => k_is)
    (case i4 => k_is)
    (case l4 => k_is)
    (case c4 => k_is)
    (case k4 => k_is)
    (case a5 => k_is)
    (case i5 => k_is)
    (case l5 => k_is)
    (case c5 => k_is)
    (case k5 => k_is)
    (case a6 => k_is)
    (case i6 => k_is)
    (case l6 => k_is)
    (case c6 => k_is)
    (case k6 => k_is)
    (case a7 => k_is)
    (case i7 => k_is)
    (case l7 => k_is)
    (case c7 => k_is)
    (case k7 => k_is)
    (case a8 => k_is)
    (case i8 => k_is)
    (case l8 => k_is)
    (case c8 => k_is)
    (case k8 => k_is)
    (case a9 => k_is)
    (case l9 => k_is)
    (case c9 => k_is)
    (case k9 => k_is)
    (case a10 => k_is)
    (case l10 => k_is)
    (case c10 => k_is)
    (case k10 => k_is)
    (case a11 => k_is)
    (case l11 => k_is)
    (case c11 => k_is)
    (case k11 => k_is)
    (case a12 => k_is)
    (case l12 => k_is)
    (case c12 => k_is)
    (case k12 => k_is)
    (case a13 => k_is)
    (case l13 => k_is)
    (case c13 => k_is)
    (case k13 => k_is)
    (case a14 => k_is)
    (case l14 => k_is)
    (case c14 => k_is)
    (case k14 => k_is)
    (case a15 => k_is)
    (case l15 => k_is)
    (case c15 => k_is)
    (case k15 => k_is)
    (case a16 => k_is)
    (case l16 => k_is)
    (case c16 => k_is)
    (case k16 => k_is)
    (case a17 => k_is)
    (case l17 => k_is)
    (case c17 => k_is)
    (case k17 => k_is)
    (case a18 => k_is)
    (case l18 => k_is)
    (case c18 => k_is)
    (case k18 => k_is)
    (case a19 => k_is)
    (case l19 => k_is)
    (case c19 => k_is)
    (case k19 => k_is)
    (case a20 => k_is)
    (case l20 => k_is)
    (case c20 => k_is)
    (case k20 => k_is)
    (case a21 => k_is)
    (case l21 => k_is)
    (case c21 => k_is)
    (case k21 => k_is)
    (case z0 => k_is)
    (case z1 => k_is)
    (case z2 => k_is)
    (case z3 => k_is)
    (case z4 => k_is)
    (case z5 => k_is)
    (case z6 => k_is)
    (case z7 => k_is)
    (case z8 => k_is)
    (case z9 => k_is)
    (case z10 => k_is)
    (case z11 => k_is)
