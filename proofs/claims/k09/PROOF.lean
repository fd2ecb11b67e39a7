import PyProof.Rows.All
import Wide.All
import OpenK.AllK
import Wide.FinOn
import HandS.ForMost
import HandS.EndBits
import HandS.Wide
import HandS.WideBits
import HandS.IsInst
import HandS.Style
import HandS.Codes
import HandS.Text
import HandS.Conv
import HandS.Zip
import PySem.Challenge.RW_slackfigures_k09_tables_told
set_option Elab.async false
set_option linter.all false
set_option maxRecDepth 100000
set_option maxHeartbeats 4000000
set_option Elab.async false
set_option linter.all false
set_option maxRecDepth 100000
set_option maxHeartbeats 4000000
namespace My
open PySem L2
/-! ### results: a value or a refusal, with the state; or nothing told -/
abbrev D := PyData
inductive Rs (μ α : Type) where
  | ok (a : α) (m : μ)
  | exc (e : D) (m : μ)
  | bad
def SM (μ α : Type) : Type := μ → Rs μ α
namespace SM
variable {μ α β γ : Type}
def pu (a : α) : SM μ α := fun m => .ok a m
def bd (x : SM μ α) (f : α → SM μ β) : SM μ β := fun m => match x m with
  | .ok a m' => f a m'
  | .exc e m' => .exc e m'
  | .bad => .bad
instance : Monad (SM μ) where
  pure := pu
  bind := bd
theorem bind_def (x : SM μ α) (f : α → SM μ β) : (x >>= f) = bd x f := rfl
theorem pure_def (x : α) : (pure x : SM μ α) = pu x := rfl
theorem bd_ok {x : SM μ α} {f : α → SM μ β} {m m' : μ} {a : α} (h : x m = .ok a m') : bd x f m = f a m' := by unfold bd; rw [h]
theorem bd_exc {x : SM μ α} {f : α → SM μ β} {m m' : μ} {e : D} (h : x m = .exc e m') : bd x f m = .exc e m' := by unfold bd; rw [h]
theorem bd_bad {x : SM μ α} {f : α → SM μ β} {m : μ} (h : x m = .bad) : bd x f m = .bad := by unfold bd; rw [h]
theorem pu_bd (a : α) (f : α → SM μ β) : bd (pu a) f = f a := rfl
theorem bd_pu (x : SM μ α) : bd x pu = x := by
  funext m
  unfold bd
  cases x m <;> rfl
theorem bd_assoc (x : SM μ α) (f : α → SM μ β) (g : β → SM μ γ) : bd (bd x f) g = bd x fun a => bd (f a) g := by
  funext m
  unfold bd
  cases x m <;> rfl
def raise (e : D) : SM μ α := fun m => .exc e m
def bad : SM μ α := fun _ => .bad
/-- an answer, or nothing told -/
def of (x : Option α) : SM μ α := match x with
  | some a => pu a
  | none => bad
theorem of_some (a : α) : (of (some a) : SM μ α) = pu a := rfl
/-- a thing without a state, within one -/
def p0 (x : SM Unit α) : SM μ α := fun m => match x () with
  | .ok a _ => .ok a m
  | .exc e _ => .exc e m
  | .bad => .bad
theorem p0_ok {x : SM Unit α} {a : α} {m : μ} (h : x () = .ok a ()) : p0 x m = .ok a m := by unfold p0; rw [h]
theorem p0_exc {x : SM Unit α} {e : D} {m : μ} (h : x () = .exc e ()) : (p0 x : SM μ α) m = .exc e m := by unfold p0; rw [h]
theorem p0_bad {x : SM Unit α} {m : μ} (h : x () = .bad) : (p0 x : SM μ α) m = .bad := by unfold p0; rw [h]
theorem p0_pu (a : α) : (p0 (pu a) : SM μ α) = pu a := rfl
/-- a thing without a state that is not to raise, within one -/
def px (x : SM Unit α) : SM μ α := fun m => match x () with
  | .ok a _ => .ok a m
  | _ => .bad
theorem px_ok {x : SM Unit α} {a : α} {m : μ} (h : x () = .ok a ()) : px x m = .ok a m := by unfold px; rw [h]
theorem px_pu (a : α) : (px (pu a) : SM μ α) = pu a := rfl
theorem px_nb {x : SM Unit α} {m : μ} (h : (px x : SM μ α) m ≠ .bad) : ∃ a, x () = .ok a () := by
  unfold px at h
  cases e : x () with
  | ok a u => exact ⟨a, rfl⟩
  | exc e' u => rw [e] at h; exact absurd rfl h
  | bad => rw [e] at h; exact absurd rfl h
/-- the same of a thing that has the state -/
def qx (x : SM μ α) : SM μ α := fun m => match x m with
  | .ok a m' => .ok a m'
  | _ => .bad
theorem qx_pu (a : α) : (qx (pu a) : SM μ α) = pu a := rfl
theorem qx_ok {x : SM μ α} {a : α} {m m' : μ} (h : x m = .ok a m') : qx x m = .ok a m' := by unfold qx; rw [h]
theorem qx_nb {x : SM μ α} {m : μ} (h : qx x m ≠ .bad) : ∃ a m', x m = .ok a m' := by
  unfold qx at h
  cases e : x m with
  | ok a u => exact ⟨a, u, rfl⟩
  | exc e' u => rw [e] at h; exact absurd rfl h
  | bad => rw [e] at h; exact absurd rfl h
theorem p0_raise (e : D) : (p0 (raise e) : SM μ α) = raise e := rfl
end SM
/-! ### data that stands frozen at places of which B is true, or in the written part -/
section
variable (K : PySem.W.Frag)
def wrT (a : Addr) (xs : List V) : Prop := ∃ (o : Obj) (its : Array Value) (n : Nat), K.lookup a = some o ∧ o.cls = .type "tuple" ∧ o.data = .seq its n ∧ its.size ≤ sizeLine ∧ Vals xs its.toList
def FzL (B : Addr → Prop) (H : Hp) (p : Addr) (xs : List V) : Prop := B p ∧ H p = some (.lst xs)
/-- the script stands locked -/
def scrD (ds : List D) : D := .dict [(.none, .list ds)]
def wrL (a : Addr) (xs : List V) : Prop := ∃ (o : Obj) (its : Array Value) (n : Nat), K.lookup a = some o ∧ o.cls = .type "list" ∧ o.dict = none ∧ o.data = .seq its n ∧ its.size ≤ sizeLine ∧ Vals xs its.toList
def FzS (B : Addr → Prop) (H : Hp) (p : Addr) (xs : List V) : Prop := (B p ∧ Rd H p (.lst xs)) ∨ wrL K p xs
def FzT (B : Addr → Prop) (H : Hp) (p : Addr) (xs : List V) : Prop := (B p ∧ Rd H p (.tup xs)) ∨ wrT K p xs
mutual
inductive Dt (B : Addr → Prop) (H : Hp) : V → PyData → Prop
  | non : Dt B H .non .none
  | bl (z : Bool) : Dt B H (.bl z) (.bool z)
  | int (i : Int) : Dt B H (.int i) (.int i)
  | str (x : Str) : Dt B H (.str x) (.str x)
  | lst {p : Addr} {xs : List V} {ds : List PyData} : FzL B H p xs → DtAll B H xs ds → Dt B H (.ref p) (.list ds)
  | tup {p : Addr} {xs : List V} {ds : List PyData} : FzT K B H p xs → DtAll B H xs ds → Dt B H (.ref p) (.tuple ds)
  | scr {p : Addr} {xs : List V} {ds : List PyData} : FzS K B H p xs → DtAll B H xs ds → Dt B H (.ref p) (.dict [(.none, .list ds)])
inductive DtAll (B : Addr → Prop) (H : Hp) : List V → List PyData → Prop
  | nil : DtAll B H [] []
  | cons {v : V} {vs : List V} {d : PyData} {ds : List PyData} : Dt B H v d → DtAll B H vs ds → DtAll B H (v :: vs) (d :: ds)
end
end
section
variable {K : PySem.W.Frag} {B B' : Addr → Prop} {H H' : Hp} {p : Addr} {xs : List V}
theorem FzL.sq (h : FzL B H p xs) : SqL K H p xs := .inl (.inl h.2)
theorem FzS.sq (h : FzS K B H p xs) : SqL K H p xs := h.elim (fun x => .inl x.2) .inr
theorem FzT.sq (h : FzT K B H p xs) : SqT K H p xs := h.elim (fun x => .inl x.2) .inr
/-- what stays of what is frozen -/
def Kp (B : Addr → Prop) (H : Hp) (B' : Addr → Prop) (H' : Hp) : Prop := ∀ p o, B p → H p = some o → B' p ∧ H' p = some o
theorem Kp.refl : Kp B H B H := fun _ _ b h => ⟨b, h⟩
theorem Kp.trans {B'' : Addr → Prop} {H'' : Hp} (k : Kp B H B' H') (k' : Kp B' H' B'' H'') : Kp B H B'' H'' := fun p o b h => k' p o (k p o b h).1 (k p o b h).2
theorem rd_mono (k : Kp B H B' H') {o : HO} (b : B p) (h : Rd H p o) : B' p ∧ Rd H' p o := by
  rcases h with h | ⟨u, h⟩
  · exact ⟨(k _ _ b h).1, .inl (k _ _ b h).2⟩
  · exact ⟨(k _ _ b h).1, .inr ⟨u, (k _ _ b h).2⟩⟩
theorem FzL.mono (k : Kp B H B' H') (h : FzL B H p xs) : FzL B' H' p xs := k _ _ h.1 h.2
theorem FzS.mono (k : Kp B H B' H') (h : FzS K B H p xs) : FzS K B' H' p xs := h.elim (fun x => .inl (rd_mono k x.1 x.2)) .inr
theorem FzT.mono (k : Kp B H B' H') (h : FzT K B H p xs) : FzT K B' H' p xs := h.elim (fun x => .inl (rd_mono k x.1 x.2)) .inr
mutual
theorem Dt.mono (k : Kp B H B' H') : ∀ (d : PyData) (v : V), Dt K B H v d → Dt K B' H' v d
  | .none, _, h => by cases h; exact .non
  | .bool _, _, h => by cases h; exact .bl _
  | .int _, _, h => by cases h; exact .int _
  | .str _, _, h => by cases h; exact .str _
  | .list ds, _, h => by
    cases h with
    | lst b a => exact .lst (b.mono k) (Dt.monoAll k ds _ a)
  | .tuple ds, _, h => by
    cases h with
    | tup b a => exact .tup (b.mono k) (Dt.monoAll k ds _ a)
  | .dict kvs, v, h => by
    cases kvs with
    | nil => cases h
    | cons z r =>
      obtain ⟨k1, k2⟩ := z
      cases k1 with
      | none =>
        cases k2 with
        | list ds =>
          cases r with
          | nil =>
            cases h with
            | scr b a => exact .scr (b.mono k) (Dt.monoAll k ds _ a)
          | cons _ _ => cases h
        | _ => cases h
      | _ => cases h
theorem Dt.monoAll (k : Kp B H B' H') : ∀ (ds : List PyData) (vs : List V), DtAll K B H vs ds → DtAll K B' H' vs ds
  | [], _, h => by cases h; exact .nil
  | d :: ds, _, h => by
    cases h with
    | cons x y => exact .cons (Dt.mono k d _ x) (Dt.monoAll k ds _ y)
end
mutual
theorem Dt.dp : ∀ (d : PyData) (v : V), d.canLay0 = true → Dt K B H v d → Dp K H v d
  | .none, _, _, h => by cases h; exact .non
  | .bool _, _, _, h => by cases h; exact .bl _
  | .int _, _, _, h => by cases h; exact .int _
  | .str _, _, _, h => by cases h; exact .str _
  | .list ds, _, c, h => by
    cases h with
    | lst b a => exact .lst b.sq (Dt.dpAll ds _ (by simpa only [PyData.canLay0] using c) a)
  | .tuple ds, _, c, h => by
    cases h with
    | tup b a => exact .tup b.sq (Dt.dpAll ds _ (by simpa only [PyData.canLay0] using c) a)
  | .dict _, _, c, h => by simp only [PyData.canLay0] at c; cases c
theorem Dt.dpAll : ∀ (ds : List PyData) (vs : List V), PyData.canLayAll0 ds = true → DtAll K B H vs ds → DpAll K H vs ds
  | [], _, _, h => by cases h; exact .nil
  | d :: ds, _, c, h => by
    simp only [PyData.canLayAll0, Bool.and_eq_true] at c
    cases h with
    | cons x y => exact .cons (Dt.dp d _ c.1 x) (Dt.dpAll ds _ c.2 y)
end
theorem DtAll.app : ∀ {vs : List V} {ds : List PyData} {us : List V} {es : List PyData}, DtAll K B H vs ds → DtAll K B H us es → DtAll K B H (vs ++ us) (ds ++ es)
  | [], _, _, _, h, g => by cases h; exact g
  | v :: vs, _, _, _, h, g => by
    cases h with
    | cons x y => exact .cons x (DtAll.app y g)
theorem DtAll.len : ∀ {vs : List V} {ds : List PyData}, DtAll K B H vs ds → vs.length = ds.length
  | [], _, h => by cases h; rfl
  | v :: vs, _, h => by
    cases h with
    | cons x y => rw [List.length_cons, List.length_cons, DtAll.len y]
theorem DtAll.get : ∀ {vs : List V} {ds : List PyData} {i : Nat} {d : D}, DtAll K B H vs ds → ds[i]? = some d → ∃ v, vs[i]? = some v ∧ Dt K B H v d
  | _, [], i, d, h, e => by cases e
  | _, x :: ds, 0, d, h, e => by
    cases h with
    | cons a b => cases e; exact ⟨_, rfl, a⟩
  | _, x :: ds, i + 1, d, h, e => by
    cases h with
    | cons a b => exact DtAll.get (i := i) b e
theorem DtAll.getV : ∀ {vs : List V} {ds : List PyData} {i : Nat} {v : V}, DtAll K B H vs ds → vs[i]? = some v → ∃ d, ds[i]? = some d ∧ Dt K B H v d
  | [], _, i, v, h, e => by cases e
  | x :: vs, _, 0, v, h, e => by
    cases h with
    | cons a b => cases e; exact ⟨_, rfl, a⟩
  | x :: vs, _, i + 1, v, h, e => by
    cases h with
    | cons a b => exact DtAll.getV (i := i) b e
theorem DtAll.set : ∀ {vs : List V} {ds : List PyData} {i : Nat} {v : V} {d : D}, DtAll K B H vs ds → Dt K B H v d → DtAll K B H (vs.set i v) (ds.set i d)
  | [], _, i, v, d, h, g => by cases h; exact .nil
  | x :: vs, _, 0, v, d, h, g => by
    cases h with
    | cons a b => exact .cons g b
  | x :: vs, _, i + 1, v, d, h, g => by
    cases h with
    | cons a b => exact .cons a (DtAll.set b g)
theorem DtAll.drop : ∀ {vs : List V} {ds : List PyData} (n : Nat), DtAll K B H vs ds → DtAll K B H (vs.drop n) (ds.drop n)
  | _, _, 0, h => h
  | [], _, n + 1, h => by cases h; exact .nil
  | v :: vs, _, n + 1, h => by
    cases h with
    | cons a b => exact DtAll.drop n b
theorem DtAll.take : ∀ {vs : List V} {ds : List PyData} (n : Nat), DtAll K B H vs ds → DtAll K B H (vs.take n) (ds.take n)
  | [], _, 0, h => by cases h; exact .nil
  | v :: vs, _, 0, h => by cases h; exact .nil
  | [], _, n + 1, h => by cases h; exact .nil
  | v :: vs, _, n + 1, h => by
    cases h with
    | cons a b => exact .cons a (DtAll.take n b)
theorem DtAll.rev : ∀ {vs : List V} {ds : List PyData}, DtAll K B H vs ds → DtAll K B H vs.reverse ds.reverse
  | [], _, h => by cases h; exact .nil
  | v :: vs, _, h => by
    cases h with
    | cons a b => rw [List.reverse_cons, List.reverse_cons]; exact DtAll.app (DtAll.rev b) (.cons a .nil)
theorem DtAll.flat : ∀ (n : Nat) {vs : List V} {ds : List PyData}, DtAll K B H vs ds → DtAll K B H (List.replicate n vs).flatten (List.replicate n ds).flatten
  | 0, _, _, _ => .nil
  | n + 1, _, _, h => by rw [List.replicate_succ, List.replicate_succ, List.flatten_cons, List.flatten_cons]; exact DtAll.app h (DtAll.flat n h)
theorem DtAll.ints : ∀ (ns : List Int), DtAll K B H (ns.map V.int) (ns.map PyData.int)
  | [] => .nil
  | n :: r => .cons (.int n) (DtAll.ints r)
theorem Dt.int_inv {v : V} {i : Int} (h : Dt K B H v (.int i)) : v = .int i := by cases h; rfl
theorem Dt.bl_inv {v : V} {z : Bool} (h : Dt K B H v (.bool z)) : v = .bl z := by cases h; rfl
theorem Dt.non_inv {v : V} (h : Dt K B H v .none) : v = .non := by cases h; rfl
theorem Dt.str_inv {v : V} {z : Str} (h : Dt K B H v (.str z)) : v = .str z := by cases h; rfl
theorem Dt.lst_inv {v : V} {ds : List D} (h : Dt K B H v (.list ds)) : ∃ p xs, v = .ref p ∧ FzL B H p xs ∧ DtAll K B H xs ds := by cases h with | lst a b => exact ⟨_, _, rfl, a, b⟩
theorem Dt.tup_inv {v : V} {ds : List D} (h : Dt K B H v (.tuple ds)) : ∃ p xs, v = .ref p ∧ FzT K B H p xs ∧ DtAll K B H xs ds := by cases h with | tup a b => exact ⟨_, _, rfl, a, b⟩
theorem Dt.scr_inv {v : V} {kvs : List (D × D)} (h : Dt K B H v (.dict kvs)) : ∃ p xs ds, kvs = [(.none, .list ds)] ∧ v = .ref p ∧ SqL K H p xs ∧ DtAll K B H xs ds := by
  cases h with
  | scr a c => exact ⟨_, _, _, rfl, rfl, a.sq, c⟩
end
/-! ### what may change (roots), what is known (facts) -/
structure Root where
  fp : List Addr
  P : (Addr → Prop) → Hp → Prop
  mono : ∀ {B B' : Addr → Prop} {H H' : Hp}, Kp B H B' H' → (∀ p ∈ fp, H' p = H p) → P B H → P B' H'
  occ : ∀ {B : Addr → Prop} {H : Hp}, P B H → ∀ p ∈ fp, ∃ o, H p = some o
structure Og where
  B : Addr → Prop
  H : Hp
  fp : List Addr
def fps (C : List Root) : List Addr := C.flatMap (·.fp)
theorem fps_app (C F : List Root) : fps (C ++ F) = fps C ++ fps F := List.flatMap_append
theorem fps_cons (c : Root) (F : List Root) : fps (c :: F) = c.fp ++ fps F := rfl
theorem mem_fps {C : List Root} {c : Root} {p : Addr} (h : c ∈ C) (hp : p ∈ c.fp) : p ∈ fps C := List.mem_flatMap.mpr ⟨c, h, hp⟩
structure Wb (K : PySem.W.Frag) (O : Og) (B : Addr → Prop) (L : List (V × D)) (C : List Root) (H : Hp) : Prop where
  lo : ∀ p, O.B p → B p
  hi : ∀ p, B p → O.B p ∨ O.H p = none
  nd : (fps C).Nodup
  nb : ∀ p ∈ fps C, ¬ B p
  fr : ∀ p ∈ fps C, p ∈ O.fp ∨ O.H p = none
  rt : ∀ c ∈ C, c.P B H
  ft : ∀ f ∈ L, Dt K B H f.1 f.2
  kp : ∀ p o, p ∉ O.fp → O.H p = some o → H p = some o
  oc : ∀ p ∈ O.fp, ∃ o, H p = some o
  bo : ∀ p, B p → ∃ o, H p = some o
def Wd (K : PySem.W.Frag) (O : Og) (L : List (V × D)) (C : List Root) (H : Hp) : Prop := ∃ B, Wb K O B L C H
section
variable {K : PySem.W.Frag} {O : Og} {B : Addr → Prop} {L L' : List (V × D)} {C F : List Root} {H H' : Hp} {p : Addr}
theorem Wb.none (w : Wb K O B L C H) (h : H p = Option.none) : O.H p = Option.none := by
  cases e : O.H p with
  | none => rfl
  | some o =>
    by_cases hp : p ∈ O.fp
    · obtain ⟨u, hu⟩ := w.oc p hp
      rw [hu] at h; cases h
    · rw [w.kp p o hp e] at h; cases h
theorem Wb.free (w : Wb K O B L C H) (h : H p = Option.none) : p ∉ fps C := fun hm => by
  obtain ⟨c, hc, hp⟩ := List.mem_flatMap.mp hm
  obtain ⟨o, ho⟩ := c.occ (w.rt c hc) p hp
  rw [ho] at h; cases h
theorem Wb.nofp (w : Wb K O B L C H) (h : H p = Option.none) : p ∉ O.fp := fun hm => by
  obtain ⟨o, ho⟩ := w.oc p hm
  rw [ho] at h; cases h
theorem Wd.sub (w : Wd K O L C H) (h : ∀ f ∈ L', f ∈ L) : Wd K O L' C H := by
  obtain ⟨B, w⟩ := w
  exact ⟨B, { w with ft := fun f hf => w.ft f (h f hf) }⟩
theorem Wd.dt (w : Wd K O L C H) {v : V} {d : D} (h : (v, d) ∈ L) : ∃ B, Dt K B H v d := by
  obtain ⟨B, w⟩ := w
  exact ⟨B, w.ft _ h⟩
/-- a frozen heap that grows -/
theorem Wb.grow {B' : Addr → Prop} (w : Wb K O B L C H) (s : Same H H') (h1 : ∀ p, B p → B' p) (h2 : ∀ p, B' p → B p ∨ (H p = Option.none ∧ ∃ o, H' p = some o)) : Wb K O B' L C H' := by
  have k : Kp B H B' H' := fun p o b e => ⟨h1 p b, s p o e⟩
  have hfp : ∀ c ∈ C, ∀ p ∈ c.fp, H' p = H p := fun c hc p hp => by
    obtain ⟨o, ho⟩ := c.occ (w.rt c hc) p hp
    rw [ho]; exact s p o ho
  refine ⟨fun p b => h1 p (w.lo p b), fun p b => ?_, w.nd, fun p hp b => ?_, w.fr, fun c hc => c.mono k (hfp c hc) (w.rt c hc), fun f hf => Dt.mono k _ _ (w.ft f hf), fun p o hp e => s p o (w.kp p o hp e), fun p hp => ?_, fun p b => ?_⟩
  · rcases h2 p b with b | n
    · exact w.hi p b
    · exact .inr (w.none n.1)
  · rcases h2 p b with b | n
    · exact w.nb p hp b
    · exact w.free n.1 hp
  · obtain ⟨o, ho⟩ := w.oc p hp
    exact ⟨o, s p o ho⟩
  · rcases h2 p b with b | n
    · obtain ⟨o, ho⟩ := w.bo p b
      exact ⟨o, s p o ho⟩
    · exact n.2
theorem Wb.fts (w : Wb K O B L C H) (h : ∀ f ∈ L', Dt K B H f.1 f.2) : Wb K O B L' C H := { w with ft := h }
theorem Wb.fact {v : V} {d : D} (w : Wb K O B L C H) (h : Dt K B H v d) : Wb K O B ((v, d) :: L) C H :=
  w.fts fun f hf => (List.mem_cons.mp hf).elim (fun e => by subst e; exact h) (w.ft f)
theorem Wd.facts (w : Wd K O L C H) {L2 : List (V × D)} (h : ∀ B, (∀ f ∈ L, Dt K B H f.1 f.2) → ∀ f ∈ L2, Dt K B H f.1 f.2) : Wd K O (L2 ++ L) C H := by
  obtain ⟨B, w⟩ := w
  exact ⟨B, w.fts fun f hf => (List.mem_append.mp hf).elim (h B w.ft f) (w.ft f)⟩
theorem Wd.fact (w : Wd K O L C H) {v : V} {d : D} (h : ∀ B, (∀ f ∈ L, Dt K B H f.1 f.2) → Dt K B H v d) : Wd K O ((v, d) :: L) C H := by
  obtain ⟨B, w⟩ := w
  exact ⟨B, w.fact (h B w.ft)⟩
inductive In2 (L : List (V × D)) : List V → List D → Prop
  | nil : In2 L [] []
  | cons {v : V} {d : D} {vs : List V} {ds : List D} : (v, d) ∈ L → In2 L vs ds → In2 L (v :: vs) (d :: ds)
theorem In2.mono (h : ∀ f ∈ L, f ∈ L') : ∀ {vs : List V} {ds : List D}, In2 L vs ds → In2 L' vs ds
  | _, _, .nil => .nil
  | _, _, .cons a b => .cons (h _ a) (In2.mono h b)
theorem In2.dt (h : ∀ f ∈ L, Dt K B H f.1 f.2) : ∀ {vs : List V} {ds : List D}, In2 L vs ds → DtAll K B H vs ds
  | _, _, .nil => .nil
  | _, _, .cons a b => .cons (h _ a) (In2.dt h b)
theorem In2.len : ∀ {vs : List V} {ds : List D}, In2 L vs ds → vs.length = ds.length
  | _, _, .nil => rfl
  | _, _, .cons a b => by rw [List.length_cons, List.length_cons, In2.len b]
/-- a new tuple, a new list, frozen -/
theorem Wd.new (w : Wd K O L C H) (hp : H p = Option.none) {o : HO} {d : D} (h : ∀ B, (∀ f ∈ L, Dt K B (upd H p o) f.1 f.2) → B p → Dt K B (upd H p o) (.ref p) d) : Wd K O ((.ref p, d) :: L) C (upd H p o) := by
  obtain ⟨B, w⟩ := w
  have s : Same H (upd H p o) := fun b u q => by rw [upd_ne (ne_of_none q hp)]; exact q
  have w2 := w.grow (B' := fun q => B q ∨ q = p) s (fun q b => .inl b) (fun q b => b.elim .inl fun e => .inr (by rw [e]; exact ⟨hp, _, upd_same⟩))
  exact ⟨_, w2.fact (h _ w2.ft (.inr rfl))⟩
theorem Wd.tup (w : Wd K O L C H) (hp : H p = Option.none) {vs : List V} {ds : List D} (h : In2 L vs ds) : Wd K O ((.ref p, .tuple ds) :: L) C (upd H p (.tup vs)) :=
  w.new hp fun _ f b => .tup (.inl ⟨b, .inl upd_same⟩) (h.dt f)
theorem Wd.lst (w : Wd K O L C H) (hp : H p = Option.none) {vs : List V} {ds : List D} (h : In2 L vs ds) : Wd K O ((.ref p, .list ds) :: L) C (upd H p (.lst vs)) :=
  w.new hp fun _ f b => .lst ⟨b, upd_same⟩ (h.dt f)
theorem Wb.lstD (w : Wb K O B L C H) (hp : H p = Option.none) {vs : List V} {ds : List D} (h : DtAll K B H vs ds) : Wd K O ((.ref p, .list ds) :: L) C (upd H p (.lst vs)) := by
  have s : Same H (upd H p (.lst vs)) := fun b u q => by rw [upd_ne (ne_of_none q hp)]; exact q
  have w2 := w.grow (B' := fun q => B q ∨ q = p) s (fun q b => .inl b) (fun q b => b.elim .inl fun e => .inr (by rw [e]; exact ⟨hp, _, upd_same⟩))
  exact ⟨_, w2.fact (.lst ⟨.inr rfl, upd_same⟩ (Dt.monoAll (B := B) (H := H) (fun q o b e => ⟨.inl b, s q o e⟩) _ _ h))⟩
theorem Wb.tupD (w : Wb K O B L C H) (hp : H p = Option.none) {vs : List V} {ds : List D} (h : DtAll K B H vs ds) : Wd K O ((.ref p, .tuple ds) :: L) C (upd H p (.tup vs)) := by
  have s : Same H (upd H p (.tup vs)) := fun b u q => by rw [upd_ne (ne_of_none q hp)]; exact q
  have w2 := w.grow (B' := fun q => B q ∨ q = p) s (fun q b => .inl b) (fun q b => b.elim .inl fun e => .inr (by rw [e]; exact ⟨hp, _, upd_same⟩))
  exact ⟨_, w2.fact (.tup (.inl ⟨.inr rfl, .inl upd_same⟩) (Dt.monoAll (B := B) (H := H) (fun q o b e => ⟨.inl b, s q o e⟩) _ _ h))⟩
/-! roots: a list whose items are frozen -/
/-- a list at a, its items frozen; the data is .list ds -/
def rootL (K : PySem.W.Frag) (a : Addr) (d : D) : Root where
  fp := [a]
  P := fun B H => ∃ ds vs, d = .list ds ∧ H a = some (.lst vs) ∧ DtAll K B H vs ds
  mono := fun k e h => by
    obtain ⟨ds, vs, h1, h2, h3⟩ := h
    exact ⟨ds, vs, h1, by rw [e a (.head _)]; exact h2, Dt.monoAll k _ _ h3⟩
  occ := fun h q hq => by
    obtain ⟨ds, vs, h1, h2, h3⟩ := h
    rw [List.mem_singleton] at hq
    subst hq
    exact ⟨_, h2⟩
/-- a new root -/
theorem Wd.root (w : Wd K O L C H) (hp : H p = Option.none) {vs : List V} {ds : List D} (h : In2 L vs ds) : Wd K O L (rootL K p (.list ds) :: C) (upd H p (.lst vs)) := by
  obtain ⟨B, w⟩ := w
  have s : Same H (upd H p (.lst vs)) := fun b u q => by rw [upd_ne (ne_of_none q hp)]; exact q
  have w2 := w.grow (B' := B) s (fun q b => b) (fun q b => .inl b)
  have nb : ¬ B p := fun b => by
    obtain ⟨o, ho⟩ := w.bo p b
    rw [ho] at hp; cases hp
  refine ⟨B, w2.lo, w2.hi, ?_, ?_, ?_, ?_, w2.ft, w2.kp, w2.oc, w2.bo⟩
  · rw [fps_cons]
    exact List.nodup_cons.mpr ⟨w.free hp, w.nd⟩
  · intro q hq
    rw [fps_cons] at hq
    rcases List.mem_cons.mp hq with e | e
    · subst e; exact nb
    · exact w.nb q e
  · intro q hq
    rw [fps_cons] at hq
    rcases List.mem_cons.mp hq with e | e
    · subst e; exact .inr (w.none hp)
    · exact w.fr q e
  · intro c hc
    rcases List.mem_cons.mp hc with e | e
    · subst e; exact ⟨ds, vs, rfl, upd_same, h.dt w2.ft⟩
    · exact w2.rt c e
/-- the first root, read -/
theorem Wd.rd (w : Wd K O L C H) {a : Addr} {d : D} (hc : rootL K a d ∈ C) : ∃ B ds vs, d = .list ds ∧ H a = some (.lst vs) ∧ DtAll K B H vs ds := by
  obtain ⟨B, w⟩ := w
  obtain ⟨ds, vs, h1, h2, h3⟩ := w.rt _ hc
  exact ⟨B, ds, vs, h1, h2, h3⟩
/-- the first root gets other items -/
theorem Wd.put {a : Addr} {d : D} {ds : List D} {vs : List V} (w : Wd K O L (rootL K a d :: C) H) (h : ∀ B, (∀ f ∈ L, Dt K B H f.1 f.2) → (rootL K a d).P B H → DtAll K B H vs ds) : Wd K O L (rootL K a (.list ds) :: C) (upd H a (.lst vs)) := by
  obtain ⟨B, w⟩ := w
  have ha : ¬ B a := w.nb a (by rw [fps_cons]; exact .head _)
  obtain ⟨_, vs0, _, h0, _⟩ := w.rt _ (.head _)
  have k : Kp B H B (upd H a (.lst vs)) := fun q o b e => ⟨b, by rw [upd_ne (fun z => ha (by rw [← z]; exact b))]; exact e⟩
  have hnd := w.nd
  rw [fps_cons] at hnd
  have hna : a ∉ fps C := (List.nodup_cons.mp hnd).1
  refine ⟨B, w.lo, w.hi, w.nd, w.nb, w.fr, ?_, fun f hf => Dt.mono k _ _ (w.ft f hf), ?_, ?_, ?_⟩
  · intro c hc
    rcases List.mem_cons.mp hc with e | e
    · subst e
      exact ⟨ds, vs, rfl, upd_same, Dt.monoAll k _ _ (h B w.ft (w.rt _ (.head _)))⟩
    · refine c.mono k (fun q hq => upd_ne fun z => hna ?_) (w.rt c (.tail _ e))
      rw [← z]; exact mem_fps e hq
  · intro q o hq e
    by_cases z : q = a
    · subst z
      rcases w.fr q (by rw [fps_cons]; exact .head _) with y | y
      · exact absurd y hq
      · rw [y] at e; cases e
    · rw [upd_ne z]; exact w.kp q o hq e
  · intro q hq
    by_cases z : q = a
    · subst z; exact ⟨_, upd_same⟩
    · rw [upd_ne z]; exact w.oc q hq
  · intro q b
    rw [upd_ne (fun z => ha (by rw [← z]; exact b))]
    exact w.bo q b
/-- the first root, made by this def, is frozen -/
theorem Wd.freeze {a : Addr} {d : D} (w : Wd K O L (rootL K a d :: C) H) (ha : a ∉ O.fp) : Wd K O ((.ref a, d) :: L) C H := by
  obtain ⟨B, w⟩ := w
  have hnd := w.nd
  rw [fps_cons] at hnd
  have hna : a ∉ fps C := (List.nodup_cons.mp hnd).1
  obtain ⟨ds, vs, rfl, h0, h1⟩ := w.rt _ (.head _)
  have k : Kp B H (fun q => B q ∨ q = a) H := fun q o b e => ⟨.inl b, e⟩
  have w2 : Wb K O (fun q => B q ∨ q = a) L C H := by
    refine ⟨fun p b => .inl (w.lo p b), fun p b => ?_, (List.nodup_cons.mp hnd).2, fun p hp b => ?_, fun p hp => w.fr p (by rw [fps_cons]; exact .tail _ hp), fun c hc => c.mono k (fun _ _ => rfl) (w.rt c (.tail _ hc)), fun f hf => Dt.mono k _ _ (w.ft f hf), w.kp, w.oc, fun p b => ?_⟩
    · rcases b with b | e
      · exact w.hi p b
      · rw [e]
        exact .inr ((w.fr a (by rw [fps_cons]; exact .head _)).resolve_left ha)
    · rcases b with b | e
      · exact w.nb p (by rw [fps_cons]; exact .tail _ hp) b
      · rw [e] at hp; exact hna hp
    · rcases b with b | e
      · exact w.bo p b
      · rw [e]; exact ⟨_, h0⟩
  exact ⟨_, w2.fact (.lst ⟨.inr rfl, h0⟩ (Dt.monoAll k _ _ h1))⟩
/-- roots may be taken in another order -/
theorem Wd.perm {C' : List Root} (w : Wd K O L C H) (h : C.Perm C') : Wd K O L C' H := by
  obtain ⟨B, w⟩ := w
  have hp : (fps C).Perm (fps C') := h.flatMap_right _
  exact ⟨B, w.lo, w.hi, hp.nodup_iff.mp w.nd, fun p hq => w.nb p (hp.mem_iff.mpr hq), fun p hq => w.fr p (hp.mem_iff.mpr hq), fun c hc => w.rt c (h.mem_iff.mpr hc), w.ft, w.kp, w.oc, w.bo⟩
end
/-! ### expressions: a reading keeps to a mirror -/
structure Gx where
  K : PySem.W.Frag
  O : Og
  Xk : XK
  XR : D → Value → Option Addr → Hp → Prop
section
variable {μ : Type} (G : Gx)
def Bk {α : Type} (C : μ → List Root) (F : List Root) (L : List (V × D)) (r : Rs μ α) : Prop :=
  (∀ e m' cls d H', r = .exc e m' → G.XR e cls d H' → Wd G.K G.O L (C m' ++ F) H' → G.Xk cls d H') ∧ r ≠ .bad
def EV (te : TE) (σ : St) (L : List (V × D)) (C : μ → List Root) (E : SM μ D) : Prop :=
  ∀ m F L' H Q, (∀ f ∈ L, f ∈ L') → Wd G.K G.O L' (C m ++ F) H →
    (∀ x m' v H', E m = .ok x m' → Wd G.K G.O ((v, x) :: L') (C m' ++ F) H' → Q v H') → Bk G C F L' (E m) → te σ H Q
def TV (tt : TT) (σ : St) (L : List (V × D)) (C : μ → List Root) (E : SM μ Bool) : Prop :=
  ∀ m F L' H Q, (∀ f ∈ L, f ∈ L') → Wd G.K G.O L' (C m ++ F) H →
    (∀ x m' H', E m = .ok x m' → Wd G.K G.O L' (C m' ++ F) H' → Q x H') → Bk G C F L' (E m) → tt σ H Q
def AV (ta : TA) (σ : St) (L : List (V × D)) (C : μ → List Root) (E : SM μ (List D)) : Prop :=
  ∀ m F L' H Q, (∀ f ∈ L, f ∈ L') → Wd G.K G.O L' (C m ++ F) H →
    (∀ xs m' vs H' L2, E m = .ok xs m' → (∀ f ∈ L', f ∈ L2) → In2 L2 vs xs → Wd G.K G.O L2 (C m' ++ F) H' → Q vs H') → Bk G C F L' (E m) → ta σ H Q
/-- a root of which data is told where it stands: read only -/
def OpS (r : R2) (f : D → D → Option D) : Prop := ∀ (L : List (V × D)) (C : List Root) (H : Hp) (x y : V) (d e z : D) (Q : VK),
  Wd G.K G.O L C H → (x, d) ∈ L → (y, e) ∈ L → f d e = some z → (∀ v H', Wd G.K G.O ((v, z) :: L) C H' → Q v H') → r x y H Q
def UnS (r : V → Hp → VK → Prop) (f : D → Option D) : Prop := ∀ (L : List (V × D)) (C : List Root) (H : Hp) (x : V) (d z : D) (Q : VK),
  Wd G.K G.O L C H → (x, d) ∈ L → f d = some z → (∀ v H', Wd G.K G.O ((v, z) :: L) C H' → Q v H') → r x H Q
def CallS (r : List V → Hp → VK → Prop) (f : List D → Option D) : Prop := ∀ (L : List (V × D)) (C : List Root) (H : Hp) (xs : List V) (ds : List D) (z : D) (Q : VK),
  Wd G.K G.O L C H → In2 L xs ds → f ds = some z → (∀ v H', Wd G.K G.O ((v, z) :: L) C H' → Q v H') → r xs H Q
end
/-! mirrors -/
namespace SM
variable {μ : Type}
def op2 (f : D → D → Option D) (E1 E2 : SM μ D) : SM μ D := bd E1 fun x => bd E2 fun y => of (f x y)
def op1 (f : D → Option D) (E1 : SM μ D) : SM μ D := bd E1 fun x => of (f x)
def opL (f : List D → Option D) (E1 : SM μ (List D)) : SM μ D := bd E1 fun x => of (f x)
def a0 : SM μ (List D) := pu []
def ac (E : SM μ D) (Es : SM μ (List D)) : SM μ (List D) := bd E fun x => bd Es fun xs => pu (x :: xs)
def boolD : D → Option Bool
  | .bool b => some b
  | _ => none
def truD : D → Option Bool
  | .none => some false
  | .bool b => some b
  | .int i => some (i != 0)
  | .str x => if x.length ≤ sizeLine then some ((x.length : Int) != 0) else none
  | .list xs => some (!xs.isEmpty)
  | .tuple xs => some (!xs.isEmpty)
  | .dict _ => none
/-- a test by a truth; by any value -/
def tb (E : SM μ D) : SM μ Bool := bd E fun x => of (boolD x)
def tr (E : SM μ D) : SM μ Bool := bd E fun x => of (truD x)
def tand (E1 E2 : SM μ Bool) : SM μ Bool := bd E1 fun c => if c then E2 else pu false
def tor (E1 E2 : SM μ Bool) : SM μ Bool := bd E1 fun c => if c then pu true else E2
def tnot (E1 : SM μ Bool) : SM μ Bool := bd E1 fun c => pu (!c)
def eand (E1 E2 : SM μ D) : SM μ D := bd (tb E1) fun c => if c then E2 else pu (.bool false)
def eor (E1 E2 : SM μ D) : SM μ D := bd (tb E1) fun c => if c then pu (.bool true) else E2
def enot (E1 : SM μ D) : SM μ D := bd (tb E1) fun c => pu (.bool (!c))
def eif (T : SM μ Bool) (E1 E2 : SM μ D) : SM μ D := bd T fun c => if c then E1 else E2
def chain (f g : D → D → Option D) (E1 E2 E3 : SM μ D) : SM μ D := bd E1 fun x => bd E2 fun y => bd (tb (of (f x y))) fun c => if c then bd E3 fun z => of (g y z) else pu (.bool false)
def tupD (xs : List D) : Option D := if xs.length ≤ sizeLine then some (.tuple xs) else none
def lstD (xs : List D) : Option D := if xs.length ≤ sizeLine then some (.list xs) else none
end SM
section
open SM
variable {μ : Type} {G : Gx} {σ : St} {L : List (V × D)} {C : μ → List Root} {te ta tb tc : TE} {tt tu : TT} {E E1 E2 E3 : SM μ D} {T T1 T2 : SM μ Bool}
theorem Bk.exc {α β : Type} {C : μ → List Root} {F : List Root} {L : List (V × D)} {e : D} {m : μ} (h : Bk G C F L (.exc e m : Rs μ α)) : Bk G C F L (.exc e m : Rs μ β) := ⟨fun e' m' cls d H' q => h.1 e' m' cls d H' (by cases q; rfl), fun z => by cases z⟩
theorem Bk.mono {α : Type} {C : μ → List Root} {F : List Root} {L L' : List (V × D)} {r : Rs μ α} (h : Bk G C F L r) (s : ∀ f ∈ L, f ∈ L') : Bk G C F L' r := ⟨fun e m' cls d H' q x w => h.1 e m' cls d H' q x (w.sub s), h.2⟩
/-- the first part of a thing done in two -/
theorem Bk.fst {α β : Type} {C : μ → List Root} {F : List Root} {L : List (V × D)} {x : SM μ α} {f : α → SM μ β} {m : μ} (h : Bk G C F L (bd x f m)) : Bk G C F L (x m) := by
  refine ⟨fun e m' cls d H' q => h.1 e m' cls d H' (bd_exc q), fun z => h.2 (bd_bad z)⟩
theorem Bk.snd {α β : Type} {C : μ → List Root} {F : List Root} {L : List (V × D)} {x : SM μ α} {f : α → SM μ β} {m m' : μ} {a : α} (h : Bk G C F L (bd x f m)) (e : x m = .ok a m') : Bk G C F L (f a m') := by
  rw [bd_ok e] at h
  exact h
theorem bk_ok {α : Type} {C : μ → List Root} {F : List Root} {L : List (V × D)} {a : α} {m : μ} : Bk G C F L (.ok a m : Rs μ α) := ⟨fun _ _ _ _ _ q => (by cases q), fun q => (by cases q)⟩
theorem ev_var {i : Nat} {v : V} {d : D} (h : σ[i]? = some (some v)) (hm : (v, d) ∈ L) : EV G (tVar i) σ L C (pu d) := fun m F L' H Q s w q _ =>
  ⟨v, h, q d m v H rfl (w.fact fun _ f => f _ (s _ hm))⟩
theorem ev_int {i : Int} : EV G (tC (.int i)) σ L C (pu (.int i)) := fun m F L' H Q s w q _ => q _ m _ H rfl (w.fact fun _ _ => .int i)
theorem ev_bl {b : Bool} : EV G (tC (.bl b)) σ L C (pu (.bool b)) := fun m F L' H Q s w q _ => q _ m _ H rfl (w.fact fun _ _ => .bl b)
theorem ev_non : EV G (tC .non) σ L C (pu .none) := fun m F L' H Q s w q _ => q _ m _ H rfl (w.fact fun _ _ => .non)
theorem ev_str {x : Str} : EV G (tC (.str x)) σ L C (pu (.str x)) := fun m F L' H Q s w q _ => q _ m _ H rfl (w.fact fun _ _ => .str x)
/-- a constant of the top -/
theorem ev_con {v : V} {d : D} (h : ∀ B H, Dt G.K B H v d) : EV G (tC v) σ L C (pu d) := fun m F L' H Q s w q _ => q _ m _ H rfl (w.fact fun B _ => h B H)
theorem ev_op {r : R2} {f : D → D → Option D} (hf : OpS G r f) (h1 : EV G ta σ L C E1) (h2 : EV G tb σ L C E2) : EV G (tOp r ta tb) σ L C (op2 f E1 E2) := by
  intro m F L' H Q s w q b
  refine h1 m F L' H _ s w (fun x m1 v H1 e1 w1 => ?_) b.fst
  have b1 := b.snd e1
  refine h2 m1 F ((v, x) :: L') H1 _ (fun f hf => .tail _ (s f hf)) w1 (fun y m2 u H2 e2 w2 => ?_) (b1.fst.mono fun f hf => .tail _ hf)
  have b2 := b1.snd e2
  cases ef : f x y with
  | none => rw [ef] at b2; exact absurd rfl b2.2
  | some z =>
    refine hf _ _ H2 v u x y z Q w2 (.tail _ (.head _)) (.head _) ef fun v' H' w' => q z m2 v' H' ?_ (w'.sub fun f hf => ?_)
    · show bd E1 _ m = _
      rw [bd_ok e1, bd_ok e2, ef]; rfl
    · rcases List.mem_cons.mp hf with e | e
      · rw [e]; exact .head _
      · exact .tail _ (.tail _ (.tail _ e))
theorem ev_un {r : V → Hp → VK → Prop} {f : D → Option D} (hf : UnS G r f) (h1 : EV G ta σ L C E1) : EV G (tUn r ta) σ L C (op1 f E1) := by
  intro m F L' H Q s w q b
  refine h1 m F L' H _ s w (fun x m1 v H1 e1 w1 => ?_) b.fst
  have b1 := b.snd e1
  cases ef : f x with
  | none => rw [ef] at b1; exact absurd rfl b1.2
  | some z =>
    refine hf _ _ H1 v x z Q w1 (.head _) ef fun v' H' w' => q z m1 v' H' ?_ (w'.sub fun f hf => ?_)
    · show bd E1 _ m = _
      rw [bd_ok e1, ef]; rfl
    · rcases List.mem_cons.mp hf with e | e
      · rw [e]; exact .head _
      · exact .tail _ (.tail _ e)
theorem av_nil : AV G tNil σ L C (a0 : SM μ (List D)) := fun m F L' H Q s w q _ => q [] m [] H L' rfl (fun _ h => h) .nil w
theorem av_cons {tr : TA} {Es : SM μ (List D)} (h1 : EV G ta σ L C E1) (h2 : AV G tr σ L C Es) : AV G (tCons ta tr) σ L C (ac E1 Es) := by
  intro m F L' H Q s w q b
  refine h1 m F L' H _ s w (fun x m1 v H1 e1 w1 => ?_) b.fst
  have b1 := b.snd e1
  refine h2 m1 F ((v, x) :: L') H1 _ (fun f hf => .tail _ (s f hf)) w1 (fun ys m2 us H2 L2 e2 s2 i2 w2 => ?_) (b1.fst.mono fun f hf => .tail _ hf)
  refine q (x :: ys) m2 (v :: us) H2 L2 ?_ (fun f hf => s2 f (.tail _ hf)) (.cons (s2 _ (.head _)) i2) w2
  show bd E1 _ m = _
  rw [bd_ok e1, bd_ok e2]; rfl
theorem ev_args {ta : TA} {Es : SM μ (List D)} {te : TE} {f : List D → Option D} {r : List V → Hp → VK → Prop} (hf : CallS G r f) (h : AV G ta σ L C Es) (ht : te = fun σ H Q => ta σ H fun vs H1 => r vs H1 Q) : EV G te σ L C (opL f Es) := by
  subst ht
  intro m F L' H Q s w q b
  refine h m F L' H _ s w (fun xs m1 vs H1 L2 e1 s2 i2 w1 => ?_) b.fst
  have b1 := b.snd e1
  cases ef : f xs with
  | none => rw [ef] at b1; exact absurd rfl b1.2
  | some z =>
    refine hf _ _ H1 vs xs z Q w1 i2 ef fun v' H' w' => q z m1 v' H' ?_ (w'.sub fun f hf => ?_)
    · show bd Es _ m = _
      rw [bd_ok e1, ef]; rfl
    · rcases List.mem_cons.mp hf with e | e
      · rw [e]; exact .head _
      · exact .tail _ (s2 _ e)
theorem ev_cb {ta : TA} {Es : SM μ (List D)} {f : List D → Option D} {r : List V → Hp → VK → Prop} (hf : CallS G r f) (h : AV G ta σ L C Es) : EV G (tCB r ta) σ L C (opL f Es) := ev_args hf h rfl
theorem cs_tup : CallS G (fun xs H Q => xs.length ≤ sizeLine ∧ ∀ p, H p = none → Q (.ref p) (upd H p (.tup xs))) tupD := by
  intro L C H xs ds z Q w i e q
  unfold tupD at e
  split at e
  · cases e
    refine ⟨by rw [i.len]; assumption, fun p hp => q _ _ (w.tup hp i)⟩
  · cases e
theorem cs_lst : CallS G (fun xs H Q => xs.length ≤ sizeLine ∧ ∀ p, H p = none → Q (.ref p) (upd H p (.lst xs))) lstD := by
  intro L C H xs ds z Q w i e q
  unfold lstD at e
  split at e
  · cases e
    refine ⟨by rw [i.len]; assumption, fun p hp => q _ _ (w.lst hp i)⟩
  · cases e
theorem ev_tup {ta : TA} {Es : SM μ (List D)} (h : AV G ta σ L C Es) : EV G (tTup ta) σ L C (opL tupD Es) := ev_args cs_tup h rfl
theorem ev_lst {ta : TA} {Es : SM μ (List D)} (h : AV G ta σ L C Es) : EV G (tLst ta) σ L C (opL lstD Es) := ev_args cs_lst h rfl
/-! tests -/
theorem boolD_some {x : D} {b : Bool} (h : boolD x = some b) : x = .bool b := by
  cases x <;> simp [boolD] at h
  rw [h]
theorem tv_of {tt : TT} (h1 : EV G te σ L C E) (ht : tt = fun σ H Q => te σ H fun x H1 => ∃ k, x = .bl k ∧ Q k H1) : TV G tt σ L C (SM.tb E) := by
  subst ht
  intro m F L' H Q s w q b
  refine h1 m F L' H _ s w (fun x m1 v H1 e1 w1 => ?_) b.fst
  have b1 := b.snd e1
  cases ef : boolD x with
  | none => rw [ef] at b1; exact absurd rfl b1.2
  | some z =>
    have ex := boolD_some ef
    subst ex
    obtain ⟨B, hd⟩ := w1.dt (.head _)
    refine ⟨z, hd.bl_inv, q z m1 H1 ?_ (w1.sub fun f hf => .tail _ hf)⟩
    show bd E _ m = _
    rw [bd_ok e1]; rfl
theorem tv_b (h1 : EV G te σ L C E) : TV G (tB te) σ L C (SM.tb E) := tv_of h1 rfl
theorem tv_test (h1 : EV G te σ L C E) : TV G (tTest te) σ L C (SM.tb E) := tv_of h1 rfl
theorem isEmpty_dt {K : PySem.W.Frag} {B : Addr → Prop} {H : Hp} {vs : List V} {ds : List D} (h : DtAll K B H vs ds) : vs.isEmpty = ds.isEmpty := by cases h <;> rfl
theorem tru_of {K : PySem.W.Frag} {B : Addr → Prop} {H : Hp} {v : V} {d : D} {k : Bool} (h : Dt K B H v d) (e : truD d = some k) : TruV K v H k := by
  cases h with
  | non => cases e; rfl
  | bl z => cases e; rfl
  | int i => cases e; rfl
  | str x =>
    simp only [truD] at e
    split at e
    · cases e; exact ⟨by assumption, rfl⟩
    · cases e
  | lst a b => cases e; exact .inl ⟨_, a.sq, by rw [isEmpty_dt b]⟩
  | tup a b => cases e; exact .inr (.inl ⟨_, a.sq, by rw [isEmpty_dt b]⟩)
  | scr a c => cases e
theorem tv_tr (h1 : EV G te σ L C E) : TV G (fun σ H Q => te σ H fun x H' => ∃ k, TruV G.K x H' k ∧ Q k H') σ L C (SM.tr E) := by
  intro m F L' H Q s w q b
  refine h1 m F L' H _ s w (fun x m1 v H1 e1 w1 => ?_) b.fst
  have b1 := b.snd e1
  cases ef : truD x with
  | none => rw [ef] at b1; exact absurd rfl b1.2
  | some z =>
    obtain ⟨B, hd⟩ := w1.dt (.head _)
    refine ⟨z, tru_of hd ef, q z m1 H1 ?_ (w1.sub fun f hf => .tail _ hf)⟩
    show bd E _ m = _
    rw [bd_ok e1, ef]; rfl
theorem tv_and (h1 : TV G tt σ L C T1) (h2 : TV G tu σ L C T2) : TV G (tAnd tt tu) σ L C (tand T1 T2) := by
  intro m F L' H Q s w q b
  refine h1 m F L' H _ s w (fun x m1 H1 e1 w1 => ?_) b.fst
  have b1 := b.snd e1
  have er : tand T1 T2 m = (if x then T2 else pu false) m1 := bd_ok e1
  cases x with
  | true =>
    show if true = true then tu σ H1 Q else _
    rw [if_pos rfl]
    exact h2 m1 F L' H1 Q s w1 (fun y m2 H2 e2 w2 => q y m2 H2 (er.trans e2) w2) b1
  | false => exact q false m1 H1 er w1
theorem tv_or (h1 : TV G tt σ L C T1) (h2 : TV G tu σ L C T2) : TV G (tOr tt tu) σ L C (tor T1 T2) := by
  intro m F L' H Q s w q b
  refine h1 m F L' H _ s w (fun x m1 H1 e1 w1 => ?_) b.fst
  have b1 := b.snd e1
  have er : tor T1 T2 m = (if x then pu true else T2) m1 := bd_ok e1
  cases x with
  | false =>
    show if false = true then _ else tu σ H1 Q
    rw [if_neg (by decide)]
    exact h2 m1 F L' H1 Q s w1 (fun y m2 H2 e2 w2 => q y m2 H2 (er.trans e2) w2) b1
  | true => exact q true m1 H1 er w1
theorem tv_not (h1 : TV G tt σ L C T1) : TV G (tNot tt) σ L C (tnot T1) := by
  intro m F L' H Q s w q b
  refine h1 m F L' H _ s w (fun x m1 H1 e1 w1 => q (!x) m1 H1 ?_ w1) b.fst
  show bd T1 _ m = _
  rw [bd_ok e1]; rfl
/-- the value of a truth -/
theorem ev_tb (h1 : EV G te σ L C E) (m : μ) (F : List Root) (L' : List (V × D)) (H : Hp) (Q : VK) (s : ∀ f ∈ L, f ∈ L') (w : Wd G.K G.O L' (C m ++ F) H)
    (q : ∀ c m' H', SM.tb E m = .ok c m' → Wd G.K G.O ((.bl c, .bool c) :: L') (C m' ++ F) H' → Q (.bl c) H') (b : Bk G C F L' (SM.tb E m)) : te σ H Q := by
  refine h1 m F L' H _ s w (fun x m1 v H1 e1 w1 => ?_) b.fst
  have b1 := b.snd e1
  cases ef : boolD x with
  | none => rw [ef] at b1; exact absurd rfl b1.2
  | some z =>
    have ex := boolD_some ef
    subst ex
    obtain ⟨B, hd⟩ := w1.dt (.head _)
    have hv := hd.bl_inv
    subst hv
    refine q z m1 H1 ?_ w1
    show bd E _ m = _
    rw [bd_ok e1]; rfl
theorem ev_and (h1 : EV G ta σ L C E1) (h2 : EV G tb σ L C E2) : EV G (tAndV ta tb) σ L C (eand E1 E2) := by
  intro m F L' H Q s w q b
  refine ev_tb h1 m F L' H _ s w (fun c m1 H1 e1 w1 => ⟨c, rfl, ?_⟩) b.fst
  have b1 := b.snd e1
  have er : eand E1 E2 m = (if c then E2 else pu (.bool false)) m1 := bd_ok e1
  have w2 : Wd G.K G.O L' (C m1 ++ F) H1 := w1.sub fun f hf => .tail _ hf
  cases c with
  | true => exact h2 m1 F L' H1 Q s w2 (fun y m2 v H2 e2 w3 => q y m2 v H2 (er.trans e2) w3) b1
  | false => exact q _ m1 _ H1 er w1
theorem ev_or (h1 : EV G ta σ L C E1) (h2 : EV G tb σ L C E2) : EV G (tOrV ta tb) σ L C (eor E1 E2) := by
  intro m F L' H Q s w q b
  refine ev_tb h1 m F L' H _ s w (fun c m1 H1 e1 w1 => ⟨c, rfl, ?_⟩) b.fst
  have b1 := b.snd e1
  have er : eor E1 E2 m = (if c then pu (.bool true) else E2) m1 := bd_ok e1
  have w2 : Wd G.K G.O L' (C m1 ++ F) H1 := w1.sub fun f hf => .tail _ hf
  cases c with
  | false => exact h2 m1 F L' H1 Q s w2 (fun y m2 v H2 e2 w3 => q y m2 v H2 (er.trans e2) w3) b1
  | true => exact q _ m1 _ H1 er w1
theorem ev_not (h1 : EV G ta σ L C E1) : EV G (tNotV ta) σ L C (enot E1) := by
  intro m F L' H Q s w q b
  refine ev_tb h1 m F L' H _ s w (fun c m1 H1 e1 w1 => ⟨c, rfl, ?_⟩) b.fst
  refine q (.bool (!c)) m1 _ H1 ?_ ((w1.sub fun f hf => .tail _ hf).fact fun _ _ => .bl _)
  exact bd_ok e1
theorem ev_if (h : TV G tt σ L C T) (h1 : EV G ta σ L C E1) (h2 : EV G tb σ L C E2) : EV G (tIf tt ta tb) σ L C (eif T E1 E2) := by
  intro m F L' H Q s w q b
  refine h m F L' H _ s w (fun c m1 H1 e1 w1 => ?_) b.fst
  have b1 := b.snd e1
  have er : eif T E1 E2 m = (if c then E1 else E2) m1 := bd_ok e1
  cases c with
  | true => exact h1 m1 F L' H1 Q s w1 (fun y m2 v H2 e2 w3 => q y m2 v H2 (er.trans e2) w3) b1
  | false => exact h2 m1 F L' H1 Q s w1 (fun y m2 v H2 e2 w3 => q y m2 v H2 (er.trans e2) w3) b1
theorem ev_chain {r r' : R2} {f g : D → D → Option D} (hf : OpS G r f) (hg : OpS G r' g) (h1 : EV G ta σ L C E1) (h2 : EV G tb σ L C E2) (h3 : EV G tc σ L C E3) : EV G (tChain r r' ta tb tc) σ L C (chain f g E1 E2 E3) := by
  intro m F L' H Q s w q b
  refine h1 m F L' H _ s w (fun x m1 v H1 e1 w1 => ?_) b.fst
  have b1 := b.snd e1
  refine h2 m1 F ((v, x) :: L') H1 _ (fun f hf => .tail _ (s f hf)) w1 (fun y m2 u H2 e2 w2 => ?_) (b1.fst.mono fun f hf => .tail _ hf)
  have b2 := b1.snd e2
  have er : chain f g E1 E2 E3 m = bd (SM.tb (of (f x y))) (fun c => if c then bd E3 fun z => of (g y z) else pu (.bool false)) m2 := by
    show bd E1 _ m = _
    rw [bd_ok e1, bd_ok e2]
  cases ef : f x y with
  | none => rw [ef] at b2; exact absurd rfl b2.2
  | some k =>
    rw [ef] at b2 er
    refine hf _ _ H2 v u x y k _ w2 (.tail _ (.head _)) (.head _) ef fun v' H' w' => ?_
    cases ek : boolD k with
    | none =>
      refine absurd ?_ b2.2
      show bd (bd (pu k) fun x => of (boolD x)) _ m2 = _
      rw [pu_bd, ek]; rfl
    | some c =>
      have ex := boolD_some ek
      subst ex
      obtain ⟨B, hd⟩ := w'.dt (.head _)
      have hv := hd.bl_inv
      subst hv
      refine ⟨c, rfl, ?_⟩
      have er2 : chain f g E1 E2 E3 m = (if c then bd E3 fun z => of (g y z) else pu (.bool false)) m2 := er
      have b3 : Bk G C F L' ((if c then bd E3 fun z => of (g y z) else pu (.bool false)) m2) := b2
      cases c with
      | false =>
        refine q _ m2 _ H' er2 (w'.sub fun f hf => ?_)
        rcases List.mem_cons.mp hf with e | e
        · rw [e]; exact .head _
        · exact .tail _ (.tail _ (.tail _ e))
      | true =>
        refine h3 m2 F _ H' _ (fun f hf => .tail _ (.tail _ (.tail _ (s f hf)))) w' (fun z m3 u3 H3 e3 w3 => ?_) (b3.fst.mono fun f hf => .tail _ (.tail _ (.tail _ hf)))
        have b4 := b3.snd e3
        cases eg : g y z with
        | none => rw [eg] at b4; exact absurd rfl b4.2
        | some k2 =>
          refine hg _ _ H3 u u3 y z k2 Q w3 (.tail _ (.tail _ (.head _))) (.head _) eg fun v' H' w' => q k2 m3 v' H' ?_ (w'.sub fun f hf => ?_)
          · rw [er2]
            show bd E3 _ m2 = _
            rw [bd_ok e3, eg]; rfl
          · rcases List.mem_cons.mp hf with e | e
            · rw [e]; exact .head _
            · exact .tail _ (.tail _ (.tail _ (.tail _ (.tail _ e))))
end
/-! ### operations on data -/
namespace SM
def fit (i : Int) : Bool := decide (i.natAbs.log2 < 50000000)
def addD : D → D → Option D
  | .int a, .int b => some (.int (a + b))
  | .list a, .list b => if a.length + b.length ≤ sizeLine then some (.list (a ++ b)) else none
  | .dict [(.none, .list a)], .list b => if a.length + b.length ≤ sizeLine then some (.list (a ++ b)) else none
  | .tuple a, .tuple b => if a ≠ [] ∧ b ≠ [] ∧ a.length + b.length ≤ sizeLine then some (.tuple (a ++ b)) else none
  | .str a, .str b => if a.length + b.length ≤ sizeLine then some (.str (a ++ b)) else none
  | _, _ => none
def subD : D → D → Option D
  | .int a, .int b => some (.int (a - b))
  | _, _ => none
def mulD : D → D → Option D
  | .int a, .int b => if fit a && fit b then some (.int (a * b)) else none
  | .list a, .int k => if -(2 ^ 63) ≤ k ∧ k < 2 ^ 63 ∧ a.length * k.toNat ≤ sizeLine then some (.list (List.replicate k.toNat a).flatten) else none
  | _, _ => none
def fdivD : D → D → Option D
  | .int a, .int b => if 0 < b ∧ b.natAbs.log2 < 9000 then some (.int (a / b)) else if b < 0 ∧ b.natAbs < 1073741824 then some (.int (a.fdiv b)) else none
  | _, _ => none
def modD : D → D → Option D
  | .int a, .int b => if 0 < b then some (.int (a % b)) else none
  | _, _ => none
def powD : D → D → Option D
  | .int a, .int b => if 0 ≤ b ∧ b ≤ 1000000 ∧ a.natAbs < 2 ^ 64 then some (.int (a ^ b.toNat)) else none
  | _, _ => none
def shlD : D → D → Option D
  | .int a, .int b => if 0 ≤ b ∧ b ≤ 50000000 ∧ fit a = true then some (.int (a * 2 ^ b.toNat)) else none
  | _, _ => none
def shrD : D → D → Option D
  | .int a, .int b => if 0 ≤ b then some (.int (a / 2 ^ b.toNat)) else none
  | _, _ => none
def andD : D → D → Option D
  | .int a, .int b => some (.int (Builtin.bitAnd a b))
  | _, _ => none
def orD : D → D → Option D
  | .int a, .int b => some (.int (Builtin.bitOr a b))
  | _, _ => none
def xorD : D → D → Option D
  | .int a, .int b => some (.int (Builtin.bitXor a b))
  | _, _ => none
def ltD : D → D → Option D
  | .int a, .int b => some (.bool (decide (a < b)))
  | _, _ => none
def leD : D → D → Option D
  | .int a, .int b => some (.bool (decide (a ≤ b)))
  | _, _ => none
def gtD : D → D → Option D
  | .int a, .int b => some (.bool (decide (b < a)))
  | _, _ => none
def geD : D → D → Option D
  | .int a, .int b => some (.bool (decide (b ≤ a)))
  | _, _ => none
def eqD (d e : D) : Option D := if SeqAt.shaped d && SeqAt.shaped e then some (.bool (PyData.eqv d e)) else none
def neD (d e : D) : Option D := if SeqAt.shaped d && SeqAt.shaped e then some (.bool (!PyData.eqv d e)) else none
def isNone : D → Bool
  | .none => true
  | _ => false
def isD : D → D → Option D
  | d, .none => some (.bool (isNone d))
  | .bool a, .bool b => some (.bool (decide (a = b)))
  | _, _ => none
def isntD : D → D → Option D
  | d, .none => some (.bool (!isNone d))
  | .bool a, .bool b => some (.bool (!decide (a = b)))
  | _, _ => none
def negD : D → Option D
  | .int a => some (.int (-a))
  | _ => none
def seqD : D → Option (List D)
  | .list xs => some xs
  | .tuple xs => some xs
  | _ => none
def idxD : D → D → Option D
  | .list xs, .int i => atI xs i
  | .tuple xs, .int i => atI xs i
  | .str z, .int i => if z.length ≤ sizeLine then (atI z.cps.toList i).map fun c => .str ⟨#[c]⟩ else none
  | _, _ => none
def absD : List D → Option D
  | [.int a] => some (.int (if a < 0 then -a else a))
  | _ => none
def maxD : List D → Option D
  | [.int a, .int b] => some (.int (if b > a then b else a))
  | [.tuple [.int a, .int b]] => some (.int (if b > a then b else a))
  | _ => none
def minD : List D → Option D
  | [.int a, .int b] => some (.int (if b < a then b else a))
  | _ => none
def intD : List D → Option D
  | [.int a] => some (.int a)
  | [.bool b] => some (.int (if b then 1 else 0))
  | _ => none
def lenD : List D → Option D
  | [.list xs] => some (.int xs.length)
  | [.tuple xs] => some (.int xs.length)
  | [.str z] => if z.length ≤ sizeLine then some (.int z.length) else none
  | _ => none
def listD : List D → Option D
  | [.list xs] => some (.list xs)
  | [.tuple xs] => some (.list xs)
  | _ => none
def tupleD : List D → Option D
  | [.list xs] => some (.tuple xs)
  | [.tuple xs] => some (.tuple xs)
  | _ => none
def bitsD : D → Option D
  | .int a => some (.int (Builtin.Int.intBits a))
  | _ => none
end SM
section
open SM
variable {X : Cx} {G : Gx}
/-! the rules, one for each sign -/
theorem fit_lt {i : Int} (h : fit i = true) : i.natAbs < 2 ^ (i.natAbs.log2 + 1) ∧ i.natAbs.log2 + 1 ≤ 50000000 := ⟨Nat.lt_log2_self, by have := of_decide_eq_true h; omega⟩
theorem fit_of {i : Int} {n : Nat} (h : i.natAbs < 2 ^ n) (hn : n ≤ 50000000) : fit i = true := by
  unfold fit
  refine decide_eq_true ?_
  by_cases e : i.natAbs = 0
  · rw [e, show Nat.log2 0 = 0 from rfl]; omega
  · have := (Nat.log2_lt e).mpr h
    omega
theorem lift2 {r : R2} {f : D → D → Option D} (h : ∀ (B : Addr → Prop) (L : List (V × D)) (C : List Root) (H : Hp) (x y : V) (d e z : D) (Q : VK), Wd G.K G.O L C H → Dt G.K B H x d → Dt G.K B H y e → (∀ f ∈ L, Dt G.K B H f.1 f.2) → f d e = some z → (∀ v H', Wd G.K G.O ((v, z) :: L) C H' → Q v H') → r x y H Q) : OpS G r f := by
  intro L C H x y d e z Q w hx hy hf q
  obtain ⟨B, w'⟩ := w
  exact h B L C H x y d e z Q ⟨B, w'⟩ (w'.ft _ hx) (w'.ft _ hy) w'.ft hf q
theorem opI_s {f : Int → Int → Int} {Cn : Int → Int → Prop} {g : D → D → Option D} (hi : ∀ d e z, g d e = some z → ∃ a b, d = .int a ∧ e = .int b ∧ Cn a b ∧ z = .int (f a b)) : OpS G (rI Cn fun i j => .int (f i j)) g := by
  intro L C H x y d e z Q w hx hy hf q
  obtain ⟨a, b, rfl, rfl, hc, rfl⟩ := hi d e z hf
  obtain ⟨_, h1⟩ := w.dt hx
  obtain ⟨_, h2⟩ := w.dt hy
  exact ⟨a, b, h1.int_inv, h2.int_inv, hc, q _ _ (w.fact fun _ _ => .int _)⟩
theorem opI0_s {f : Int → Int → Int} {g : D → D → Option D} (hi : ∀ d e z, g d e = some z → ∃ a b, d = .int a ∧ e = .int b ∧ z = .int (f a b)) : OpS G (rI0 fun i j => .int (f i j)) g := by
  intro L C H x y d e z Q w hx hy hf q
  obtain ⟨a, b, rfl, rfl, rfl⟩ := hi d e z hf
  obtain ⟨_, h1⟩ := w.dt hx
  obtain ⟨_, h2⟩ := w.dt hy
  exact ⟨a, b, h1.int_inv, h2.int_inv, q _ _ (w.fact fun _ _ => .int _)⟩
theorem opB0_s {f : Int → Int → Bool} {g : D → D → Option D} (hi : ∀ d e z, g d e = some z → ∃ a b, d = .int a ∧ e = .int b ∧ z = .bool (f a b)) : OpS G (rI0 fun i j => .bl (f i j)) g := by
  intro L C H x y d e z Q w hx hy hf q
  obtain ⟨a, b, rfl, rfl, rfl⟩ := hi d e z hf
  obtain ⟨_, h1⟩ := w.dt hx
  obtain ⟨_, h2⟩ := w.dt hy
  exact ⟨a, b, h1.int_inv, h2.int_inv, q _ _ (w.fact fun _ _ => .bl _)⟩
theorem os_sub : OpS G (rI0 fun i j => .int (i - j)) subD := opI0_s fun d e z h => by
  cases d <;> cases e <;> simp [subD] at h
  exact ⟨_, _, rfl, rfl, h.symm⟩
def rFdivU : R2 := fun x y H Q => rI CDivW (fun i j => V.int (i / j)) x y H Q ∨ rI CDivN (fun i j => V.int (i.fdiv j)) x y H Q
theorem op_fdivU : OpR X (binaryOp .FloorDiv) rFdivU := op_fdivW.or op_fdivN
theorem os_fdiv : OpS G rFdivU fdivD := by
  intro L C H x y d e z Q w hx hy hf q
  obtain ⟨_, h1⟩ := w.dt hx
  obtain ⟨_, h2⟩ := w.dt hy
  cases d <;> cases e <;> simp only [fdivD] at hf <;> (try cases hf)
  split at hf
  · next c =>
    cases hf
    exact .inl ⟨_, _, h1.int_inv, h2.int_inv, c, q _ _ (w.fact fun _ _ => .int _)⟩
  · split at hf
    · next c =>
      cases hf
      exact .inr ⟨_, _, h1.int_inv, h2.int_inv, ⟨by omega, c.2⟩, q _ _ (w.fact fun _ _ => .int _)⟩
    · cases hf
theorem os_mod : OpS G (rI (fun _ j => 0 < j) fun i j => .int (i % j)) modD := opI_s fun d e z h => by
  cases d <;> cases e <;> simp only [modD] at h <;> (try cases h)
  split at h
  · cases h; exact ⟨_, _, rfl, rfl, by assumption, rfl⟩
  · cases h
theorem os_pow : OpS G (rI CPow fun i j => .int (i ^ j.toNat)) powD := opI_s fun d e z h => by
  cases d <;> cases e <;> simp only [powD] at h <;> (try cases h)
  split at h
  · cases h; exact ⟨_, _, rfl, rfl, by assumption, rfl⟩
  · cases h
theorem os_shl : OpS G (rI CShl fun i j => .int (i * 2 ^ j.toNat)) shlD := opI_s fun d e z h => by
  cases d <;> cases e <;> simp only [shlD] at h <;> (try cases h)
  rename_i a b
  split at h
  · next c =>
    cases h
    obtain ⟨c1, c2, c3⟩ := c
    obtain ⟨k1, k2⟩ := fit_lt c3
    obtain ⟨n, rfl⟩ := Int.eq_ofNat_of_zero_le c1
    exact ⟨_, _, rfl, rfl, shl_ok k1 (by omega), rfl⟩
  · cases h
theorem os_shr : OpS G (rI (fun _ j => 0 ≤ j) fun i j => .int (i / 2 ^ j.toNat)) shrD := opI_s fun d e z h => by
  cases d <;> cases e <;> simp only [shrD] at h <;> (try cases h)
  split at h
  · cases h; exact ⟨_, _, rfl, rfl, by assumption, rfl⟩
  · cases h
theorem os_and : OpS G (rI0 fun i j => .int (Builtin.bitAnd i j)) andD := opI0_s fun d e z h => by
  cases d <;> cases e <;> simp [andD] at h
  exact ⟨_, _, rfl, rfl, h.symm⟩
theorem os_or : OpS G (rI0 fun i j => .int (Builtin.bitOr i j)) orD := opI0_s fun d e z h => by
  cases d <;> cases e <;> simp [orD] at h
  exact ⟨_, _, rfl, rfl, h.symm⟩
theorem os_xor : OpS G (rI0 fun i j => .int (Builtin.bitXor i j)) xorD := opI0_s fun d e z h => by
  cases d <;> cases e <;> simp [xorD] at h
  exact ⟨_, _, rfl, rfl, h.symm⟩
theorem os_lt : OpS G (rI0 fun i j => .bl (decide (i < j))) ltD := opB0_s fun d e z h => by
  cases d <;> cases e <;> simp [ltD] at h
  exact ⟨_, _, rfl, rfl, h.symm⟩
theorem os_le : OpS G (rI0 fun i j => .bl (decide (i ≤ j))) leD := opB0_s fun d e z h => by
  cases d <;> cases e <;> simp [leD] at h
  exact ⟨_, _, rfl, rfl, h.symm⟩
theorem os_gt : OpS G (rI0 fun i j => .bl (decide (j < i))) gtD := opB0_s fun d e z h => by
  cases d <;> cases e <;> simp [gtD] at h
  exact ⟨_, _, rfl, rfl, h.symm⟩
theorem os_ge : OpS G (rI0 fun i j => .bl (decide (j ≤ i))) geD := opB0_s fun d e z h => by
  cases d <;> cases e <;> simp [geD] at h
  exact ⟨_, _, rfl, rfl, h.symm⟩
theorem os_eq : OpS G (rEqD G.K) eqD := by
  intro L C H x y d e z Q w hx hy hf q
  obtain ⟨B, h1⟩ := w.dt hx
  obtain ⟨B2, h2⟩ := w.dt hy
  unfold eqD at hf
  split at hf
  · next c =>
    cases hf
    rw [Bool.and_eq_true] at c
    exact ⟨d, e, Dt.dp _ _ (SeqAt.canLay_of_shaped c.1) h1, Dt.dp _ _ (SeqAt.canLay_of_shaped c.2) h2, c.1, c.2, q _ _ (w.fact fun _ _ => .bl _)⟩
  · cases hf
theorem os_ne : OpS G (rNeD G.K) neD := by
  intro L C H x y d e z Q w hx hy hf q
  obtain ⟨B, h1⟩ := w.dt hx
  obtain ⟨B2, h2⟩ := w.dt hy
  unfold neD at hf
  split at hf
  · next c =>
    cases hf
    rw [Bool.and_eq_true] at c
    exact ⟨d, e, Dt.dp _ _ (SeqAt.canLay_of_shaped c.1) h1, Dt.dp _ _ (SeqAt.canLay_of_shaped c.2) h2, c.1, c.2, q _ _ (w.fact fun _ _ => .bl _)⟩
  · cases hf
theorem non_iff {K : PySem.W.Frag} {B : Addr → Prop} {H : Hp} {v : V} {d : D} (h : Dt K B H v d) : decide (v = .non) = isNone d := by
  cases h <;> first | rfl | exact decide_eq_false (fun z => by cases z)
def rIs : R2 := fun x y H Q => (y = .non ∧ Q (.bl (decide (x = .non))) H) ∨ rIsB x y H Q
def rIsnt : R2 := fun x y H Q => (y = .non ∧ Q (.bl (!decide (x = .non))) H) ∨ rNotB x y H Q
theorem op_isU : OpR X (compareOp .Is) rIs := op_isN.or op_isBl
theorem op_isntU : OpR X (compareOp .IsNot) rIsnt := op_notN.or op_notBl
theorem os_is : OpS G rIs isD := by
  intro L C H x y d e z Q w hx hy hf q
  obtain ⟨B, h1⟩ := w.dt hx
  obtain ⟨B2, h2⟩ := w.dt hy
  cases e with
  | none =>
    simp only [isD] at hf
    cases hf
    refine .inl ⟨h2.non_inv, ?_⟩
    rw [non_iff h1]
    exact q _ _ (w.fact fun _ _ => .bl _)
  | bool b =>
    cases d <;> simp only [isD] at hf <;> (try cases hf)
    exact .inr ⟨_, _, h1.bl_inv, h2.bl_inv, q _ _ (w.fact fun _ _ => .bl _)⟩
  | _ => cases d <;> cases hf
theorem os_isnt : OpS G rIsnt isntD := by
  intro L C H x y d e z Q w hx hy hf q
  obtain ⟨B, h1⟩ := w.dt hx
  obtain ⟨B2, h2⟩ := w.dt hy
  cases e with
  | none =>
    simp only [isntD] at hf
    cases hf
    refine .inl ⟨h2.non_inv, ?_⟩
    rw [non_iff h1]
    exact q _ _ (w.fact fun _ _ => .bl _)
  | bool b =>
    cases d <;> simp only [isntD] at hf <;> (try cases hf)
    exact .inr ⟨_, _, h1.bl_inv, h2.bl_inv, q _ _ (w.fact fun _ _ => .bl _)⟩
  | _ => cases d <;> cases hf
theorem us_neg : UnS G (rU fun i => .int (-i)) negD := by
  intro L C H x d z Q w hx hf q
  obtain ⟨B, h1⟩ := w.dt hx
  cases d <;> simp only [negD] at hf <;> (try cases hf)
  exact ⟨_, h1.int_inv, q _ _ (w.fact fun _ _ => .int _)⟩
theorem atI_dt {K : PySem.W.Frag} {B : Addr → Prop} {H : Hp} {vs : List V} {ds : List D} {i : Int} {d : D} (h : DtAll K B H vs ds) (e : atI ds i = some d) : ∃ v, atI vs i = some v ∧ Dt K B H v d := by
  unfold atI at e ⊢
  rw [h.len]
  cases hj : ixN ds.length i with
  | none => rw [hj] at e; cases e
  | some j =>
    rw [hj] at e
    exact h.get e
theorem os_idx : OpS G (rIx G.K) idxD := by
  intro L C H x y d e z Q w hx hy hf q
  obtain ⟨B, wb⟩ := w
  have h1 := wb.ft _ hx
  have h2 := wb.ft _ hy
  cases d <;> cases e <;> simp only [idxD] at hf <;> (try cases hf)
  · split at hf
    · rename_i x' i' c
      cases ha : atI x'.cps.toList i' with
      | none => rw [ha] at hf; cases hf
      | some k =>
        rw [ha] at hf
        cases hf
        exact .inr (.inr ⟨_, _, k, h1.str_inv, h2.int_inv, c, ha, q _ _ ⟨B, wb.fact (.str _)⟩⟩)
    · cases hf
  · obtain ⟨p, xs, rfl, hl, ha⟩ := Dt.lst_inv h1
    obtain ⟨v, hv, hd⟩ := atI_dt ha hf
    exact .inl ⟨p, xs, _, v, rfl, h2.int_inv, hl.sq, hv, q v H ⟨B, wb.fact hd⟩⟩
  · obtain ⟨p, xs, rfl, hl, ha⟩ := Dt.tup_inv h1
    obtain ⟨v, hv, hd⟩ := atI_dt ha hf
    exact .inr (.inl ⟨p, xs, _, v, rfl, h2.int_inv, hl.sq, hv, q v H ⟨B, wb.fact hd⟩⟩)
/-! + and * of ints, lists, texts -/
section
open PySem.Spec PyProof.Rows
def rCatR (K : PySem.W.Frag) : R2 := fun x y H Q => ∃ l b us zs, x = .ref l ∧ y = .ref b ∧ SqL K H l us ∧ SqL K H b zs ∧ us.length + zs.length ≤ sizeLine ∧ ∀ p, H p = none → Q (.ref p) (upd H p (.lst (us ++ zs)))
theorem op_catR {X : Cx} : OpR X (binaryOp .Add) (rCatR X.K) := by
  intro pins sh sg H x y v u Q I rx ry hyp
  obtain ⟨l, b, us, zs, rfl, rfl, hl, hb, hz, q⟩ := hyp
  cases rx
  cases ry
  obtain ⟨i1, r1, p1, _⟩ := I.list hl
  obtain ⟨i2, r2, p2, _⟩ := I.list hb
  have n1 := r1.length
  have n2 := r2.length
  obtain ⟨⟨c1, d1, t1, s1⟩, g1, e1, m1, f1⟩ := p1.isList
  obtain ⟨⟨c2, d2, t2, s2⟩, g2, e2, m2, f2⟩ := p2.isList
  simp only at e1 f1 e2 f2
  subst e1 f1 e2 f2
  refine concat_meets ⟨_, g1, rfl⟩ ⟨_, g2, rfl⟩ noFill_list_add seq_list_add PySem.F.slot_list_add PySem.F.entry_list_add (PySem.F.args_list_add_2 _ _)
    (list_addW l b i1.toArray i2.toArray m1 m2 d1 d2 s1 s2 (by simp only [List.size_toArray]; omega)) ⟨g1, g2, ?_⟩
  rw [show i1.toArray ++ i2.toArray = (i1 ++ i2).toArray by simp]
  exact ⟨.ref _, _, I.lnew (t' := sh.toks) (r1.append r2) (by rw [List.length_append]; exact hz), rfl, q _ I.fresh⟩
end
def rAddU (K : PySem.W.Frag) : R2 := fun x y H Q => (rI0 (fun i j => V.int (i + j)) x y H Q) ∨ (rCatR K x y H Q ∨ (rCatT K x y H Q ∨ (∃ i j, x = .str i ∧ y = .str j ∧ i.length + j.length ≤ sizeLine ∧ Q (.str (i ++ j)) H)))
theorem op_addU : OpR X (binaryOp .Add) (rAddU X.K) := op_add.or (op_catR.or (op_catT.or op_add_str))
theorem os_add : OpS G (rAddU G.K) addD := by
  intro L C H x y d e z Q w hx hy hf q
  obtain ⟨B, wb⟩ := w
  have h1 := wb.ft _ hx
  have h2 := wb.ft _ hy
  cases d <;> cases e <;> simp only [addD] at hf <;> (try cases hf)
  · exact .inl ⟨_, _, h1.int_inv, h2.int_inv, q _ _ ⟨B, wb.fact (.int _)⟩⟩
  · split at hf
    · cases hf
      exact .inr (.inr (.inr ⟨_, _, h1.str_inv, h2.str_inv, by assumption, q _ _ ⟨B, wb.fact (.str _)⟩⟩))
    · cases hf
  · split at hf
    · cases hf
      obtain ⟨p, xs, rfl, hl, ha⟩ := Dt.lst_inv h1
      obtain ⟨p2, ys, rfl, hl2, ha2⟩ := Dt.lst_inv h2
      exact .inr (.inl ⟨p, p2, xs, ys, rfl, rfl, hl.sq, hl2.sq, by rw [ha.len, ha2.len]; assumption, fun r hr => q _ _ (wb.lstD hr (ha.app ha2))⟩)
    · cases hf
  · split at hf
    · next c =>
      cases hf
      obtain ⟨p, xs, rfl, hl, ha⟩ := Dt.tup_inv h1
      obtain ⟨p2, ys, rfl, hl2, ha2⟩ := Dt.tup_inv h2
      have e1 : xs ≠ [] := fun z => c.1 (by subst z; cases ha; rfl)
      have e2 : ys ≠ [] := fun z => c.2.1 (by subst z; cases ha2; rfl)
      exact .inr (.inr (.inl ⟨p, p2, xs, ys, rfl, rfl, hl.sq, hl2.sq, e1, by rw [ha.len, ha2.len]; exact c.2.2, fun z => absurd z e2, fun _ r hr => q _ _ (wb.tupD hr (ha.app ha2))⟩))
    · cases hf
  · obtain ⟨p, xs, ds, rfl, rfl, hl, ha⟩ := Dt.scr_inv h1
    obtain ⟨p2, ys, rfl, hl2, ha2⟩ := Dt.lst_inv h2
    simp only at hf
    split at hf
    · cases hf
      exact .inr (.inl ⟨p, p2, xs, ys, rfl, rfl, hl, hl2.sq, by rw [ha.len, ha2.len]; assumption, fun r hr => q _ _ (wb.lstD hr (ha.app ha2))⟩)
    · cases hf
def rMulU : R2 := fun x y H Q => rI CMulX (fun i j => V.int (i * j)) x y H Q ∨ rRep x y H Q
theorem op_mulU : OpR X (binaryOp .Mult) rMulU := op_mulX.or op_rep
theorem os_mul : OpS G rMulU mulD := by
  intro L C H x y d e z Q w hx hy hf q
  obtain ⟨B, wb⟩ := w
  have h1 := wb.ft _ hx
  have h2 := wb.ft _ hy
  cases d <;> cases e <;> simp only [mulD] at hf <;> (try cases hf)
  · split at hf
    · next c =>
      cases hf
      rw [Bool.and_eq_true] at c
      obtain ⟨k1, k2⟩ := fit_lt c.1
      obtain ⟨k3, k4⟩ := fit_lt c.2
      exact .inl ⟨_, _, h1.int_inv, h2.int_inv, mulx_ok k1 k3 (by omega), q _ _ ⟨B, wb.fact (.int _)⟩⟩
    · cases hf
  · split at hf
    · next c =>
      cases hf
      obtain ⟨p, xs, rfl, hl, ha⟩ := Dt.lst_inv h1
      exact .inr ⟨p, _, xs, rfl, h2.int_inv, hl.2, c.1, c.2.1, by rw [ha.len]; exact c.2.2, fun r hr => q _ _ (wb.lstD hr (DtAll.flat _ ha))⟩
    · cases hf
end
/-! ### max of a tuple of two ints -/
section
open PySem.Spec PyProof.Rows
theorem cr_maxT2 {X : Cx} (hc : X.calm = true) : CallR X (.builtin "max") (fun vs H Q => ∃ (a : Addr) (i j : Int), vs = [.ref a] ∧ SqT X.K H a [.int i, .int j] ∧ Q (.int (if j > i then j else i)) H) := by
  intro pins sh sg H xs us Q I r hyp
  obtain ⟨l, i, j, rfl, hl, q⟩ := hyp
  rw [Vals.ref1 r]
  obtain ⟨its, rv, hT, _⟩ := I.tuple hl
  obtain ⟨u, w', rfl, ⟨t, rfl⟩, ⟨t', rfl⟩⟩ := vals2 rv
  have hT2 : sh.heap.IsTuple l (intItems #[(i, t), (j, t')]) := by
    obtain ⟨o, h1, h2, n, h3⟩ := hT
    exact ⟨o, h1, h2, n, by simpa [intItems] using h3⟩
  have hlt : l < sh.heap.objs.size := by obtain ⟨_, e, _⟩ := hT; exact Heap.lt_size e
  refine call_max_walk (wpAny_pyIter_tuple hT2 ?_)
  refine ⟨_, [_, l], [_], _, _, _, _, rfl, Walks.tuple (A := X.A.in1) (I.ok.hd hc) _ l (Nat.ne_of_lt hlt) (intItems #[(i, t), (j, t')]),
    ⟨⟨_, Heap.get?_push_size _ rfl, rfl, rfl⟩, hT2.push _⟩, fun z hz => ?_, by simp [intItems], CmpOf.ints_gt (numAt #[(i, t), (j, t')]) (fun _ _ => intItems_at), fun v h' tk hP hk => ?_⟩
  · show z < (sh.heap.push _).objs.size
    rw [Heap.size_push]
    rcases List.mem_cons.mp hz with rfl | hz
    · exact Nat.lt_succ_self _
    · rcases List.mem_cons.mp hz with rfl | hz
      · exact Nat.lt_succ_of_lt hlt
      · cases hz
  · have hold : ∀ z o, sh.heap.get? z = some o → h'.get? z = some o := fun z o e => by
      refine hk z o (fun hm => ?_) (Heap.get?_push_of_some _ e)
      rcases List.mem_cons.mp hm with e1 | hm
      · have := Heap.lt_size e; rw [e1] at this; exact Nat.lt_irrefl _ this
      · cases hm
    refine ⟨.int (if j > i then j else i), H, I.kept hold, ?_, q⟩
    have hP' : (intItems #[(i, t), (j, t')])[argBest (fun a b => decide (numAt #[(i, t), (j, t')] a > numAt #[(i, t), (j, t')] b)) 1]? = some v := by
      have hsz2 : (intItems #[(i, t), (j, t')]).size - 1 = 1 := by simp [intItems]
      rw [← hsz2]; exact hP
    by_cases hba : j > i
    · have e : argBest (fun a b => decide (numAt #[(i, t), (j, t')] a > numAt #[(i, t), (j, t')] b)) 1 = 1 := by simp [argBest, numAt, hba]
      rw [e] at hP'
      rw [if_pos hba]
      have : v = .int j t' := by simpa [intItems] using hP'.symm
      exact ⟨t', this⟩
    · have e : argBest (fun a b => decide (numAt #[(i, t), (j, t')] a > numAt #[(i, t), (j, t')] b)) 1 = 0 := by simp [argBest, numAt, hba]
      rw [e] at hP'
      rw [if_neg hba]
      have : v = .int i t := by simpa [intItems] using hP'.symm
      exact ⟨t, this⟩
end
/-! ### built-ins on data -/
namespace SM
variable {μ : Type}
def cutD {α : Type} (xs : List α) (lo hi : Option Int) : List α := (xs.drop (HT.sIx xs.length 0 lo)).take (HT.sIx xs.length xs.length hi - HT.sIx xs.length 0 lo)
def optI : Option D → Option (Option Int)
  | none => some none
  | some (.int i) => some (some i)
  | some _ => none
def sliD (d : D) (lo hi : Option Int) : Option D := match d with
  | .list xs => some (.list (cutD xs lo hi))
  | .dict [(.none, .list xs)] => some (.list (cutD xs lo hi))
  | .tuple xs => if HT.sIx xs.length 0 lo = 0 ∧ HT.sIx xs.length xs.length hi = xs.length then none else some (.tuple (cutD xs lo hi))
  | _ => none
def part0 : SM μ (Option Int) := pu none
def intO : D → Option (Option Int)
  | .int i => some (some i)
  | _ => none
def part (E : SM μ D) : SM μ (Option Int) := bd E fun x => of (intO x)
def slice (E : SM μ D) (P1 P2 : SM μ (Option Int)) : SM μ D := bd E fun x => bd P1 fun l => bd P2 fun h => of (sliD x l h)
def revD : D → Option D
  | .list xs => some (.list xs.reverse)
  | _ => none
def flatD : D → Bool
  | .none => true
  | .bool _ => true
  | .int _ => true
  | .str _ => true
  | _ => false
def eqF : D → D → Bool
  | .none, .none => true
  | .bool a, .bool b => a == b
  | .bool a, .int b => (if a then 1 else 0) == b
  | .int a, .bool b => a == (if b then 1 else 0)
  | .int a, .int b => a == b
  | .str a, .str b => a == b
  | _, _ => false
def inL (x : D) (xs : List D) : Bool := xs.any fun y => eqF y x
def inD (neg : Bool) (x s : D) : Option D := match seqD s with
  | some xs => if flatD x && xs.all flatD then some (.bool (if neg then !inL x xs else inL x xs)) else none
  | none => none
def tyN : D → String
  | .none => "NoneType"
  | .bool _ => "bool"
  | .int _ => "int"
  | .str _ => "str"
  | .list _ => "list"
  | .tuple _ => "tuple"
  | .dict _ => "list"
def isiD (n : String) (d : D) : Option D := (kitB (tyN d) n).map .bool
def rgD (a b : Int) : D := .list ((List.range (b - a).toNat).map fun i => .int (a + (i : Nat)))
def lrg : List D → Option D
  | [.int b] => if -(2 ^ 62) ≤ b ∧ b < 2 ^ 62 ∧ b.toNat ≤ 2 ^ 24 then some (rgD 0 b) else none
  | [.int a, .int b] => if -(2 ^ 62) ≤ a ∧ a < 2 ^ 62 ∧ -(2 ^ 62) ≤ b ∧ b < 2 ^ 62 ∧ (b - a).toNat ≤ 2 ^ 24 then some (rgD a b) else none
  | _ => none
def intsD : List D → Option (List Int)
  | [] => some []
  | .int i :: r => (intsD r).map (i :: ·)
  | _ => none
def boolsD : List D → Option (List Bool)
  | [] => some []
  | .bool i :: r => (boolsD r).map (i :: ·)
  | _ => none
def sumD : List D → Option D
  | [.list xs] => (intsD xs).map fun ns => .int ns.sum
  | _ => none
def anyD : List D → Option D
  | [.list xs] => (boolsD xs).map fun ns => .bool (ns.any id)
  | _ => none
def allD : List D → Option D
  | [.list xs] => (boolsD xs).map fun ns => .bool (ns.all id)
  | _ => none
end SM
section
open SM
variable {X : Cx} {μ : Type} {G : Gx} {σ : St} {L : List (V × D)} {C : μ → List Root} {te ta tb tc : TE} {tt tu : TT} {E E1 E2 E3 : SM μ D} {T T1 T2 : SM μ Bool}
theorem cutV_dt {K : PySem.W.Frag} {B : Addr → Prop} {H : Hp} {vs : List V} {ds : List D} (lo hi : Option Int) (h : DtAll K B H vs ds) : DtAll K B H (cutV vs lo hi) (cutD ds lo hi) := by
  unfold cutV cutD
  rw [h.len]
  exact (h.drop _).take _
def PV (to : TO) (σ : St) (L : List (V × D)) (C : μ → List Root) (G : Gx) (E : SM μ (Option Int)) : Prop :=
  ∀ m F L' H (Q : Option Int → Hp → Prop), (∀ f ∈ L, f ∈ L') → Wd G.K G.O L' (C m ++ F) H →
    (∀ x m' H', E m = .ok x m' → Wd G.K G.O L' (C m' ++ F) H' → Q x H') → Bk G C F L' (E m) → to σ H Q
theorem pv_none : PV tNoPart σ L C G (part0 : SM μ _) := fun m F L' H Q s w q _ => q none m H rfl w
theorem pv_some (h1 : EV G te σ L C E) : PV (tPart te) σ L C G (part E) := by
  intro m F L' H Q s w q b
  refine h1 m F L' H _ s w (fun x m1 v H1 e1 w1 => ?_) b.fst
  have b1 := b.snd e1
  cases x with
  | int i =>
    obtain ⟨B, hd⟩ := w1.dt (.head _)
    refine ⟨i, hd.int_inv, q (some i) m1 H1 ?_ (w1.sub fun f hf => .tail _ hf)⟩
    show bd E _ m = _
    rw [bd_ok e1]; rfl
  | _ => exact absurd rfl b1.2
def rSlU (K : PySem.W.Frag) : V → Option Int → Option Int → Hp → VK → Prop := fun x lo hi H Q => rSlL K x lo hi H Q ∨ rSlT K x lo hi H Q
theorem sl_u : SlR X (rSlU X.K) := sl_list.or sl_tup
theorem ev_slice {tl th : TO} {P1 P2 : SM μ (Option Int)} (h : EV G te σ L C E) (h1 : PV tl σ L C G P1) (h2 : PV th σ L C G P2) : EV G (tSl (rSlU G.K) te tl th) σ L C (slice E P1 P2) := by
  intro m F L' H Q s w q b
  refine h m F L' H _ s w (fun x m1 v H1 e1 w1 => ?_) b.fst
  have b1 := b.snd e1
  refine h1 m1 F ((v, x) :: L') H1 _ (fun f hf => .tail _ (s f hf)) w1 (fun lo m2 H2 e2 w2 => ?_) (b1.fst.mono fun f hf => .tail _ hf)
  have b2 := b1.snd e2
  refine h2 m2 F ((v, x) :: L') H2 _ (fun f hf => .tail _ (s f hf)) w2 (fun hi m3 H3 e3 w3 => ?_) (b2.fst.mono fun f hf => .tail _ hf)
  have b3 := b2.snd e3
  have er : slice E P1 P2 m = of (sliD x lo hi) m3 := by
    show bd E _ m = _
    rw [bd_ok e1, bd_ok e2, bd_ok e3]
  obtain ⟨B, wb⟩ := w3
  have hx := wb.ft _ (.head _)
  have fin : ∀ {z : D} {v' : V} {H' : Hp}, sliD x lo hi = some z → Wd G.K G.O ((v', z) :: (v, x) :: L') (C m3 ++ F) H' → Q v' H' := fun {z v' H'} ez w' => by
    rw [ez] at er
    exact q z m3 v' H' er (w'.sub fun f hf => by
      rcases List.mem_cons.mp hf with e | e
      · rw [e]; exact .head _
      · exact .tail _ (.tail _ e))
  have nb : sliD x lo hi ≠ none := fun z => by rw [z] at b3; exact b3.2 rfl
  cases x with
  | list xs =>
    obtain ⟨p, vs, rfl, hl, ha⟩ := Dt.lst_inv hx
    exact .inl ⟨p, vs, rfl, hl.sq, fun r hr => fin rfl (wb.lstD hr (cutV_dt lo hi ha))⟩
  | tuple xs =>
    obtain ⟨p, vs, rfl, hl, ha⟩ := Dt.tup_inv hx
    simp only [sliD] at nb
    split at nb
    · exact absurd rfl nb
    · next c =>
      exact .inr ⟨p, vs, rfl, hl.sq, by rw [ha.len]; exact c, fun r hr => fin (by simp only [sliD]; rw [if_neg c]) (wb.tupD hr (cutV_dt lo hi ha))⟩
  | dict kvs =>
    obtain ⟨p, vs, ds, rfl, rfl, hl, ha⟩ := Dt.scr_inv hx
    exact .inl ⟨p, vs, rfl, hl, fun r hr => fin rfl (wb.lstD hr (cutV_dt lo hi ha))⟩
  | _ => exact absurd rfl nb
theorem ev_rev (h : EV G te σ L C E) : EV G (tRevL G.K te) σ L C (op1 revD E) := by
  refine ev_un (r := fun x H Q => ∃ a xs, x = .ref a ∧ SqL G.K H a xs ∧ ∀ p, H p = none → Q (.ref p) (upd H p (.lst xs.reverse))) ?_ h
  intro L C H x d z Q w hx hf q
  obtain ⟨B, wb⟩ := w
  have h1 := wb.ft _ hx
  cases d <;> simp only [revD] at hf <;> (try cases hf)
  obtain ⟨p, vs, rfl, hl, ha⟩ := Dt.lst_inv h1
  exact ⟨p, vs, rfl, hl.sq, fun r hr => q _ _ (wb.lstD hr ha.rev)⟩
theorem flat_dt {K : PySem.W.Frag} {B : Addr → Prop} {H : Hp} {v : V} {d : D} (h : Dt K B H v d) : flatV v = flatD d := by cases h <;> rfl
theorem flats_dt {K : PySem.W.Frag} {B : Addr → Prop} {H : Hp} : ∀ {vs : List V} {ds : List D}, DtAll K B H vs ds → vs.all flatV = ds.all flatD
  | [], _, h => by cases h; rfl
  | v :: vs, _, h => by
    cases h with
    | cons a b => rw [List.all_cons, List.all_cons, flat_dt a, flats_dt b]
theorem eqF_dt {K : PySem.W.Frag} {B : Addr → Prop} {H : Hp} {v u : V} {d e : D} (h : Dt K B H v d) (g : Dt K B H u e) : eqV v u = eqF d e := by cases h <;> cases g <;> rfl
theorem inL_dt {K : PySem.W.Frag} {B : Addr → Prop} {H : Hp} {v : V} {d : D} (g : Dt K B H v d) : ∀ {vs : List V} {ds : List D}, DtAll K B H vs ds → inV v vs = inL d ds
  | [], _, h => by cases h; rfl
  | x :: vs, _, h => by
    cases h with
    | cons a b =>
      show (eqV x v || inV v vs) = (eqF _ d || inL d _)
      rw [eqF_dt a g, inL_dt g b]
theorem os_in {neg : Bool} : OpS G (rIn G.K neg) (inD neg) := by
  intro L C H x y d e z Q w hx hy hf q
  obtain ⟨B, wb⟩ := w
  have h1 := wb.ft _ hx
  have h2 := wb.ft _ hy
  cases e <;> simp only [inD, seqD] at hf <;> (try cases hf)
  · split at hf
    · next c =>
      rw [Bool.and_eq_true] at c
      cases hf
      obtain ⟨p, vs, rfl, hl, ha⟩ := Dt.lst_inv h2
      refine ⟨p, vs, rfl, .inl hl.sq, by rw [flat_dt h1]; exact c.1, by rw [flats_dt ha]; exact c.2, ?_⟩
      rw [inL_dt h1 ha]
      exact q _ _ ⟨B, wb.fact (.bl _)⟩
    · cases hf
  · split at hf
    · next c =>
      rw [Bool.and_eq_true] at c
      cases hf
      obtain ⟨p, vs, rfl, hl, ha⟩ := Dt.tup_inv h2
      refine ⟨p, vs, rfl, .inr hl.sq, by rw [flat_dt h1]; exact c.1, by rw [flats_dt ha]; exact c.2, ?_⟩
      rw [inL_dt h1 ha]
      exact q _ _ ⟨B, wb.fact (.bl _)⟩
    · cases hf
/-! isinstance -/
theorem tyx_of {K : PySem.W.Frag} {B : Addr → Prop} {H : Hp} {v : V} {d : D} (h : Dt K B H v d) : TyX K H v (.type (tyN d)) := by
  cases h with
  | non => exact .base .non
  | bl z => exact .base (.bl z)
  | int i => exact .base (.int i)
  | str x => exact .base (.str x)
  | lst a b => exact .base (.lst a.2)
  | tup a b =>
    rcases a with ⟨_, a | ⟨o, a⟩⟩ | ⟨o, its, n, a, c, _⟩
    · exact .base (.tup a)
    · exact .fTuple a
    · exact .kTuple a c
  | scr a c =>
    rcases a with ⟨_, a | ⟨o, a⟩⟩ | ⟨o, its, n, a, c, _⟩
    · exact .base (.lst a)
    · exact .base (.frz a)
    · exact .kList a c
theorem ev_isi {n : String} (h : EV G te σ L C E) : EV G (tCB (rIsi G.K) (tCons te (tCons (tC (.ty n)) tNil))) σ L C (op1 (isiD n) E) := by
  refine ev_un (r := fun x H Q => rIsi G.K [x, .ty n] H Q) ?_ h
  intro L C H x d z Q w hx hf q
  obtain ⟨B, wb⟩ := w
  have h1 := wb.ft _ hx
  unfold isiD at hf
  cases hk : kitB (tyN d) n with
  | none => rw [hk] at hf; cases hf
  | some b =>
    rw [hk] at hf
    cases hf
    exact ⟨x, _, _, _, b, rfl, .ty n, tyx_of h1, kit_ty hk, q _ _ ⟨B, wb.fact (.bl _)⟩⟩
/-! calls -/
theorem In2.one {L : List (V × D)} {xs : List V} {d : D} (h : In2 L xs [d]) : ∃ x, xs = [x] ∧ (x, d) ∈ L := by
  cases h with
  | cons a b => cases b; exact ⟨_, rfl, a⟩
theorem In2.two {L : List (V × D)} {xs : List V} {d e : D} (h : In2 L xs [d, e]) : ∃ x y, xs = [x, y] ∧ (x, d) ∈ L ∧ (y, e) ∈ L := by
  cases h with
  | cons a b => cases b with | cons c b => cases b; exact ⟨_, _, rfl, a, c⟩
theorem cs_abs : CallS G (fun xs H Q => ∃ i, xs = [.int i] ∧ Q (.int (if i < 0 then -i else i)) H) absD := by
  intro L C H xs ds z Q w i e q
  unfold absD at e
  split at e
  · cases e
    obtain ⟨x, rfl, hx⟩ := i.one
    obtain ⟨B, hd⟩ := w.dt hx
    exact ⟨_, by rw [hd.int_inv], q _ _ (w.fact fun _ _ => .int _)⟩
  · cases e
def rMaxU (K : PySem.W.Frag) : List V → Hp → VK → Prop := fun xs H Q => (∃ i j, xs = [.int i, .int j] ∧ Q (.int (if j > i then j else i)) H) ∨ (∃ (a : Addr) (i j : Int), xs = [.ref a] ∧ SqT K H a [.int i, .int j] ∧ Q (.int (if j > i then j else i)) H)
theorem CallR.or {f : Value} {r r' : List V → Hp → VK → Prop} (h : CallR X f r) (h' : CallR X f r') : CallR X f (fun xs H Q => r xs H Q ∨ r' xs H Q) := by
  intro pins s σ H xs us Q I rv q
  rcases q with q | q
  · exact h pins s σ H xs us Q I rv q
  · exact h' pins s σ H xs us Q I rv q
theorem call_maxU (hc : X.calm = true) : CallR X (.builtin "max") (rMaxU X.K) := CallR.or (call_max2 hc) (cr_maxT2 hc)
theorem cs_max : CallS G (rMaxU G.K) maxD := by
  intro L C H xs ds z Q w i e q
  unfold maxD at e
  split at e
  · cases e
    obtain ⟨x, y, rfl, hx, hy⟩ := i.two
    obtain ⟨B, hd⟩ := w.dt hx
    obtain ⟨B, hd2⟩ := w.dt hy
    exact .inl ⟨_, _, by rw [hd.int_inv, hd2.int_inv], q _ _ (w.fact fun _ _ => .int _)⟩
  · cases e
    obtain ⟨x, rfl, hx⟩ := i.one
    obtain ⟨B, hd⟩ := w.dt hx
    obtain ⟨p, vs, rfl, hl, ha⟩ := Dt.tup_inv hd
    cases ha with
    | cons a b =>
      cases b with
      | cons a2 b =>
        cases b
        rw [a.int_inv, a2.int_inv] at hl
        exact .inr ⟨p, _, _, rfl, hl.sq, q _ _ (w.fact fun _ _ => .int _)⟩
  · cases e
theorem cs_min : CallS G (fun xs H Q => ∃ i j, xs = [.int i, .int j] ∧ Q (.int (if j < i then j else i)) H) minD := by
  intro L C H xs ds z Q w i e q
  unfold minD at e
  split at e
  · cases e
    obtain ⟨x, y, rfl, hx, hy⟩ := i.two
    obtain ⟨B, hd⟩ := w.dt hx
    obtain ⟨B, hd2⟩ := w.dt hy
    exact ⟨_, _, by rw [hd.int_inv, hd2.int_inv], q _ _ (w.fact fun _ _ => .int _)⟩
  · cases e
theorem cs_int : CallS G (fun xs H Q => (∃ i, xs = [.int i] ∧ Q (.int i) H) ∨ ∃ k, xs = [.bl k] ∧ Q (.int (if k then 1 else 0)) H) intD := by
  intro L C H xs ds z Q w i e q
  unfold intD at e
  split at e
  · cases e
    obtain ⟨x, rfl, hx⟩ := i.one
    obtain ⟨B, hd⟩ := w.dt hx
    exact .inl ⟨_, by rw [hd.int_inv], q _ _ (w.fact fun _ _ => .int _)⟩
  · cases e
    obtain ⟨x, rfl, hx⟩ := i.one
    obtain ⟨B, hd⟩ := w.dt hx
    exact .inr ⟨_, by rw [hd.bl_inv], q _ _ (w.fact fun _ _ => .int _)⟩
  · cases e
theorem cs_len : CallS G (fun xs H Q => ∃ x n, xs = [x] ∧ LenV G.K x H n ∧ Q (.int n) H) lenD := by
  intro L C H xs ds z Q w i e q
  unfold lenD at e
  split at e
  · cases e
    obtain ⟨x, rfl, hx⟩ := i.one
    obtain ⟨B, hd⟩ := w.dt hx
    obtain ⟨p, vs, rfl, hl, ha⟩ := Dt.lst_inv hd
    refine ⟨_, _, rfl, .inl ⟨vs, hl.sq, rfl⟩, ?_⟩
    rw [ha.len]
    exact q _ _ (w.fact fun _ _ => .int _)
  · cases e
    obtain ⟨x, rfl, hx⟩ := i.one
    obtain ⟨B, hd⟩ := w.dt hx
    obtain ⟨p, vs, rfl, hl, ha⟩ := Dt.tup_inv hd
    refine ⟨_, _, rfl, .inr ⟨vs, hl.sq, rfl⟩, ?_⟩
    rw [ha.len]
    exact q _ _ (w.fact fun _ _ => .int _)
  · split at e
    · next c =>
      cases e
      obtain ⟨x, rfl, hx⟩ := i.one
      obtain ⟨B, hd⟩ := w.dt hx
      refine ⟨_, _, rfl, by rw [hd.str_inv]; exact ⟨c, rfl⟩, q _ _ (w.fact fun _ _ => .int _)⟩
    · cases e
  · cases e
theorem cs_list : CallS G (fun xs H Q => ∃ p ys, xs = [.ref p] ∧ (SqL G.K H p ys ∨ SqT G.K H p ys) ∧ ∀ l, H l = none → Q (.ref l) (upd H l (.lst ys))) listD := by
  intro L C H xs ds z Q w i e q
  obtain ⟨B, wb⟩ := w
  unfold listD at e
  split at e
  · cases e
    obtain ⟨x, rfl, hx⟩ := i.one
    obtain ⟨p, vs, rfl, hl, ha⟩ := Dt.lst_inv (wb.ft _ hx)
    exact ⟨_, _, rfl, .inl hl.sq, fun r hr => q _ _ (wb.lstD hr ha)⟩
  · cases e
    obtain ⟨x, rfl, hx⟩ := i.one
    obtain ⟨p, vs, rfl, hl, ha⟩ := Dt.tup_inv (wb.ft _ hx)
    exact ⟨_, _, rfl, .inr hl.sq, fun r hr => q _ _ (wb.lstD hr ha)⟩
  · cases e
theorem cs_tuple : CallS G (fun xs H Q => ∃ p ys, xs = [.ref p] ∧ ((SqL G.K H p ys ∧ ∀ l, H l = none → Q (.ref l) (upd H l (.tup ys))) ∨ (SqT G.K H p ys ∧ Q (.ref p) H))) tupleD := by
  intro L C H xs ds z Q w i e q
  obtain ⟨B, wb⟩ := w
  unfold tupleD at e
  split at e
  · cases e
    obtain ⟨x, rfl, hx⟩ := i.one
    obtain ⟨p, vs, rfl, hl, ha⟩ := Dt.lst_inv (wb.ft _ hx)
    exact ⟨_, _, rfl, .inl ⟨hl.sq, fun r hr => q _ _ (wb.tupD hr ha)⟩⟩
  · cases e
    obtain ⟨x, rfl, hx⟩ := i.one
    have hd := wb.ft _ hx
    obtain ⟨p, vs, rfl, hl, ha⟩ := Dt.tup_inv hd
    exact ⟨_, _, rfl, .inr ⟨hl.sq, q _ _ ⟨B, wb.fact hd⟩⟩⟩
  · cases e
theorem intsD_map : ∀ {ds : List D} {ns : List Int}, intsD ds = some ns → ds = ns.map .int
  | [], _, h => by cases h; rfl
  | d :: ds, ns, h => by
    cases d <;> simp only [intsD] at h <;> (try cases h)
    rename_i i
    cases e : intsD ds with
    | none => rw [e] at h; cases h
    | some r => rw [e] at h; cases h; rw [intsD_map e]; rfl
theorem boolsD_map : ∀ {ds : List D} {ns : List Bool}, boolsD ds = some ns → ds = ns.map .bool
  | [], _, h => by cases h; rfl
  | d :: ds, ns, h => by
    cases d <;> simp only [boolsD] at h <;> (try cases h)
    rename_i i
    cases e : boolsD ds with
    | none => rw [e] at h; cases h
    | some r => rw [e] at h; cases h; rw [boolsD_map e]; rfl
theorem DtAll.ints_inv {K : PySem.W.Frag} {B : Addr → Prop} {H : Hp} : ∀ {ns : List Int} {vs : List V}, DtAll K B H vs (ns.map PyData.int) → vs = ns.map V.int
  | [], _, h => by cases h; rfl
  | n :: ns, _, h => by
    cases h with
    | cons a b => rw [a.int_inv, DtAll.ints_inv b]; rfl
theorem DtAll.bools_inv {K : PySem.W.Frag} {B : Addr → Prop} {H : Hp} : ∀ {ns : List Bool} {vs : List V}, DtAll K B H vs (ns.map PyData.bool) → vs = ns.map V.bl
  | [], _, h => by cases h; rfl
  | n :: ns, _, h => by
    cases h with
    | cons a b => rw [a.bl_inv, DtAll.bools_inv b]; rfl
theorem cs_sum : CallS G (rSum G.K) sumD := by
  intro L C H xs ds z Q w i e q
  unfold sumD at e
  split at e
  · next zs =>
    obtain ⟨x, rfl, hx⟩ := i.one
    obtain ⟨B, hd⟩ := w.dt hx
    obtain ⟨p, vs, rfl, hl, ha⟩ := Dt.lst_inv hd
    cases en : intsD zs with
    | none => rw [en] at e; cases e
    | some ns =>
      rw [en] at e; cases e
      rw [intsD_map en] at ha
      rw [DtAll.ints_inv ha] at hl
      exact ⟨p, ns, rfl, hl.sq, q _ _ (w.fact fun _ _ => .int _)⟩
  · cases e
theorem cs_any : CallS G (rAny G.K) anyD := by
  intro L C H xs ds z Q w i e q
  unfold anyD at e
  split at e
  · next zs =>
    obtain ⟨x, rfl, hx⟩ := i.one
    obtain ⟨B, hd⟩ := w.dt hx
    obtain ⟨p, vs, rfl, hl, ha⟩ := Dt.lst_inv hd
    cases en : boolsD zs with
    | none => rw [en] at e; cases e
    | some ns =>
      rw [en] at e; cases e
      rw [boolsD_map en] at ha
      rw [DtAll.bools_inv ha] at hl
      exact ⟨p, ns, rfl, hl.sq, q _ _ (w.fact fun _ _ => .bl _)⟩
  · cases e
theorem cs_all : CallS G (rAll G.K) allD := by
  intro L C H xs ds z Q w i e q
  unfold allD at e
  split at e
  · next zs =>
    obtain ⟨x, rfl, hx⟩ := i.one
    obtain ⟨B, hd⟩ := w.dt hx
    obtain ⟨p, vs, rfl, hl, ha⟩ := Dt.lst_inv hd
    cases en : boolsD zs with
    | none => rw [en] at e; cases e
    | some ns =>
      rw [en] at e; cases e
      rw [boolsD_map en] at ha
      rw [DtAll.bools_inv ha] at hl
      exact ⟨p, ns, rfl, hl.sq, q _ _ (w.fact fun _ _ => .bl _)⟩
  · cases e
theorem ev_bits (h : EV G te σ L C E) : EV G (tBits te) σ L C (op1 bitsD E) := by
  refine ev_un (r := fun x H Q => ∃ i, x = .int i ∧ Q (.int (Builtin.Int.intBits i : Nat)) H) ?_ h
  intro L C H x d z Q w hx hf q
  obtain ⟨B, h1⟩ := w.dt hx
  cases d <;> simp only [bitsD] at hf <;> (try cases hf)
  exact ⟨_, h1.int_inv, q _ _ (w.fact fun _ _ => .int _)⟩
theorem rg_dt {K : PySem.W.Frag} {B : Addr → Prop} {H : Hp} (a : Int) : ∀ (l : List Nat), DtAll K B H (l.map fun i => V.int (a + (i : Nat))) (l.map fun i => PyData.int (a + (i : Nat)))
  | [] => .nil
  | n :: r => .cons (.int _) (rg_dt a r)
theorem ev_lrg1 (h : EV G te σ L C E) : EV G (tLstRg (tRg1 te)) σ L C (opL lrg (ac E a0)) := by
  intro m F L' H Q s w q b
  refine h m F L' H _ s w (fun x m1 v H1 e1 w1 => ?_) b.fst.fst
  have er : ac E a0 m = .ok [x] m1 := by
    show bd E _ m = _
    rw [bd_ok e1]; rfl
  have b1 := b.snd er
  obtain ⟨B, wb⟩ := w1
  cases x with
  | int n =>
    simp only [lrg] at b1
    split at b1
    · next c =>
      refine ⟨n, (wb.ft _ (.head _)).int_inv, ⟨by decide, by decide, c.1, c.2.1, by rw [Int.sub_zero]; exact c.2.2⟩, fun r hr => q (rgD 0 n) m1 _ _ ?_ ?_⟩
      · show bd (ac E a0) _ m = _
        rw [bd_ok er]
        simp only [lrg]; rw [if_pos c]; rfl
      · refine (wb.lstD hr (rg_dt 0 (List.range (n - 0).toNat))).sub fun f hf => ?_
        rcases List.mem_cons.mp hf with e | e
        · rw [e]; exact .head _
        · exact .tail _ (.tail _ e)
    · exact absurd rfl b1.2
  | _ => exact absurd rfl b1.2
theorem ev_lrg2 (h1 : EV G ta σ L C E1) (h2 : EV G tb σ L C E2) : EV G (tLstRg (tRg2 ta tb)) σ L C (opL lrg (ac E1 (ac E2 a0))) := by
  intro m F L' H Q s w q b
  refine h1 m F L' H _ s w (fun x m1 v H1 e1 w1 => ?_) b.fst.fst
  have b1 := b.fst.snd e1
  refine h2 m1 F ((v, x) :: L') H1 _ (fun f hf => .tail _ (s f hf)) w1 (fun y m2 u H2 e2 w2 => ?_) (b1.fst.fst.mono fun f hf => .tail _ hf)
  have er : ac E1 (ac E2 a0) m = .ok [x, y] m2 := by
    show bd E1 _ m = _
    rw [bd_ok e1]
    have e3 : ac E2 a0 m1 = .ok [y] m2 := by
      show bd E2 _ m1 = _
      rw [bd_ok e2]; rfl
    rw [bd_ok e3]; rfl
  have b2 := b.snd er
  obtain ⟨B, wb⟩ := w2
  cases x with
  | int n =>
    cases y with
    | int k =>
      simp only [lrg] at b2
      split at b2
      · next c =>
        refine ⟨n, k, (wb.ft _ (.tail _ (.head _))).int_inv, (wb.ft _ (.head _)).int_inv, c, fun r hr => q (rgD n k) m2 _ _ ?_ ?_⟩
        · show bd (ac E1 (ac E2 a0)) _ m = _
          rw [bd_ok er]
          simp only [lrg]; rw [if_pos c]; rfl
        · refine (wb.lstD hr (rg_dt n (List.range (k - n).toNat))).sub fun f hf => ?_
          rcases List.mem_cons.mp hf with e | e
          · rw [e]; exact .head _
          · exact .tail _ (.tail _ (.tail _ e))
      · exact absurd rfl b2.2
    | _ => exact absurd rfl b2.2
  | _ => exact absurd rfl b2.2
end
/-! ### statements -/
inductive Fl (τ ρ : Type) where
  | nx (s : τ)
  | rt (d : D)
  | bk (s : ρ)
  | ct (s : ρ)
/-- what the slots, the facts and the roots are like, by the names' data -/
abbrev Shp (μ τ : Type) := τ → St → List (V × D) → (μ → List Root) → Prop
namespace SM
variable {μ τ ρ ρ' : Type}
def sq (R : SM μ (Fl τ ρ)) (k : τ → SM μ (Fl ρ' ρ)) : SM μ (Fl ρ' ρ) := bd R fun o => match o with
  | .nx s => k s
  | .rt d => pu (.rt d)
  | .bk s => pu (.bk s)
  | .ct s => pu (.ct s)
def forS : List D → τ → (D → τ → SM μ (Fl τ τ)) → SM μ (Fl τ ρ)
  | [], s, _ => pu (.nx s)
  | x :: xs, s, b => bd (b x s) fun o => match o with
    | .nx s' => forS xs s' b
    | .ct s' => forS xs s' b
    | .bk s' => pu (.nx s')
    | .rt d => pu (.rt d)
def whileS : Nat → (τ → SM μ Bool) → (τ → SM μ (Fl τ τ)) → τ → SM μ (Fl τ ρ)
  | 0, _, _, _ => bad
  | n + 1, T, b, s => bd (T s) fun c => if c then bd (b s) fun o => match o with
    | .nx s' => whileS n T b s'
    | .ct s' => whileS n T b s'
    | .bk s' => pu (.nx s')
    | .rt d => pu (.rt d)
    else pu (.nx s)
/-- how often a while may turn -/
def fuel : Nat := 1099511627776
def lcS (T : D → SM μ Bool) (E : D → SM μ D) : List D → List D → SM μ (List D)
  | [], acc => pu acc
  | x :: xs, acc => bd (T x) fun c => if c then bd (E x) fun y => if acc.length < sizeLine then lcS T E xs (acc ++ [y]) else bad else lcS T E xs acc
def unp2 {β : Type} (d : D) (k : D → D → SM μ β) : SM μ β := match d with
  | .tuple [a, b] => k a b
  | _ => bad
def unp3 {β : Type} (d : D) (k : D → D → D → SM μ β) : SM μ β := match d with
  | .tuple [a, b, c] => k a b c
  | _ => bad
def unp4 {β : Type} (d : D) (k : D → D → D → D → SM μ β) : SM μ β := match d with
  | .tuple [a, b, c, e] => k a b c e
  | _ => bad
def unp5 {β : Type} (d : D) (k : D → D → D → D → D → SM μ β) : SM μ β := match d with
  | .tuple [a, b, c, e, f] => k a b c e f
  | _ => bad
def par2 {β : Type} (ds : List D) (k : D → D → SM μ β) : SM μ β := match ds with
  | [a, b] => k a b
  | _ => bad
def par3 {β : Type} (ds : List D) (k : D → D → D → SM μ β) : SM μ β := match ds with
  | [a, b, c] => k a b c
  | _ => bad
def appD : D → D → Option D
  | .list ds, x => if ds.length < sizeLine then some (.list (ds ++ [x])) else none
  | _, _ => none
def extD : D → D → Option D
  | .list ds, .list es => if ds.length + es.length ≤ sizeLine then some (.list (ds ++ es)) else none
  | _, _ => none
def setD : D → D → D → Option D
  | .list ds, .int i, x => match ixN ds.length i with
    | some j => some (.list (ds.set j x))
    | none => none
  | _, _, _ => none
def gets : SM μ μ := fun m => .ok m m
def puts (m : μ) : SM μ Unit := fun _ => .ok () m
/-- what a def comes to: its return, or None behind its last statement -/
def fin {ρ : Type} (R : SM μ (Fl Unit ρ)) : SM μ D := bd R fun o => match o with
  | .rt d => pu d
  | .nx _ => pu .none
  | _ => bad
end SM
section
variable {μ τ ρ : Type} (G : Gx)
def SV (Cp : μ → List Root) (ts : TS) (σ : St) (L : List (V × D)) (C : μ → List Root) (R : SM μ (Fl τ ρ)) (Jn : Shp μ τ) (Jl : Shp μ ρ) : Prop :=
  ∀ m F L' H (d : Ends), (∀ f ∈ L, f ∈ L') → Wd G.K G.O L' (C m ++ F) H →
    (∀ s m' σ' L2 C2 H', R m = .ok (.nx s) m' → Jn s σ' L2 C2 → Wd G.K G.O (L2 ++ L') (C2 m' ++ F) H' → d.nx σ' H') →
    (∀ s m' σ' L2 C2 H', R m = .ok (.bk s) m' → Jl s σ' L2 C2 → Wd G.K G.O (L2 ++ L') (C2 m' ++ F) H' → d.bk σ' H') →
    (∀ s m' σ' L2 C2 H', R m = .ok (.ct s) m' → Jl s σ' L2 C2 → Wd G.K G.O (L2 ++ L') (C2 m' ++ F) H' → d.ct σ' H') →
    (∀ x m' v H', R m = .ok (.rt x) m' → Wd G.K G.O ((v, x) :: L') (Cp m' ++ F) H' → d.rt v H') →
    Bk G Cp F L' (R m) → ts d σ H
/-- an iterator that gives these data -/
def ItOk (J : It) (xs : List D) (L0 : List (V × D)) : Prop := ∀ L C H, (∀ f ∈ L0, f ∈ L) → Wd G.K G.O L C H → ∀ i : Nat,
  (∀ x, xs[i]? = some x → J.go i H ∧ ∀ v H', J.yld i H v H' → Wd G.K G.O ((v, x) :: L) C H') ∧ (xs.length ≤ i → J.stop i H)
def IV (wi : TI) (σ : St) (L : List (V × D)) (C : μ → List Root) (E : SM μ (List D)) : Prop :=
  ∀ m F L' H (R : It → Hp → Prop), (∀ f ∈ L, f ∈ L') → Wd G.K G.O L' (C m ++ F) H →
    (∀ xs m' J H' L2, E m = .ok xs m' → (∀ f ∈ L', f ∈ L2) → Wd G.K G.O L2 (C m' ++ F) H' → ItOk G J xs L2 → R J H') → Bk G C F L' (E m) → wi σ H R
end
section
open SM
variable {X : Cx} {μ τ τ' ρ : Type} {G : Gx} {σ : St} {L : List (V × D)} {C Cp : μ → List Root} {te ta tb tc : TE} {tt tu : TT} {t u : TS} {E E1 E2 E3 : SM μ D} {T T1 T2 : SM μ Bool} {Jn : Shp μ τ} {Jl : Shp μ ρ} {i j : Nat}
theorem fps_sub : ∀ {C C' : List Root}, C'.Sublist C → (fps C').Sublist (fps C)
  | _, _, .slnil => .slnil
  | _, _, .cons a h => by rw [fps_cons]; exact (fps_sub h).trans (List.sublist_append_right _ _)
  | _, _, .cons₂ a h => by rw [fps_cons, fps_cons]; exact (List.Sublist.refl _).append (fps_sub h)
theorem Wd.subC {K : PySem.W.Frag} {O : Og} {L : List (V × D)} {C C' : List Root} {H : Hp} (w : Wd K O L C H) (h : C'.Sublist C) : Wd K O L C' H := by
  obtain ⟨B, w⟩ := w
  have hs : (fps C').Sublist (fps C) := fps_sub h
  exact ⟨B, w.lo, w.hi, hs.nodup w.nd, fun p hp => w.nb p (hs.mem hp), fun p hp => w.fr p (hs.mem hp), fun c hc => w.rt c (h.mem hc), w.ft, w.kp, w.oc, w.bo⟩
theorem Bk.subC {α : Type} {F : List Root} {r : Rs μ α} (h : ∀ m, (Cp m).Sublist (C m)) (b : Bk G Cp F L r) : Bk G C F L r := ⟨fun e m' cls d H' q x w => b.1 e m' cls d H' q x (w.subC ((h m').append_right F)), b.2⟩
/-- how a def's own roots lie among all -/
abbrev Sub (Cp C : μ → List Root) : Prop := ∀ m, (Cp m).Sublist (C m)
theorem sv_ret (hc : Sub Cp C) (h : EV G te σ L C E) : SV G Cp (tSeq (tRet te) u) σ L C (bd E fun x => pu (.rt x)) Jn Jl := by
  intro m F L' H d s w _ _ _ q b
  refine h m F L' H _ s w (fun x m1 v H1 e1 w1 => q x m1 v H1 ?_ (w1.subC ((hc m1).append_right F))) (b.fst.subC hc)
  rw [bd_ok e1]; rfl
theorem sv_retN (hc : Sub Cp C) : SV G Cp (tSeq tRetN u) σ L C (pu (.rt .none)) Jn Jl := by
  intro m F L' H d s w _ _ _ q b
  exact q .none m .non H rfl ((w.subC ((hc m).append_right F)).fact fun _ _ => .non)
theorem sv_nil {s : τ} {L2 : List (V × D)} (hj : Jn s σ L2 C) (hl : ∀ f ∈ L2, f ∈ L) : SV G Cp tNext σ L C (pu (.nx s)) Jn Jl := by
  intro m F L' H d s' w q _ _ _ b
  refine q s m σ L2 C H rfl hj (w.sub fun f hf => ?_)
  rcases List.mem_append.mp hf with e | e
  · exact s' f (hl f e)
  · exact e
theorem sv_brk {s : ρ} {L2 : List (V × D)} (hj : Jl s σ L2 C) (hl : ∀ f ∈ L2, f ∈ L) : SV G Cp (tSeq tBreak u) σ L C (pu (.bk s)) Jn Jl := by
  intro m F L' H d s' w _ q _ _ b
  refine q s m σ L2 C H rfl hj (w.sub fun f hf => ?_)
  rcases List.mem_append.mp hf with e | e
  · exact s' f (hl f e)
  · exact e
theorem sv_cnt {s : ρ} {L2 : List (V × D)} (hj : Jl s σ L2 C) (hl : ∀ f ∈ L2, f ∈ L) : SV G Cp (tSeq tCont u) σ L C (pu (.ct s)) Jn Jl := by
  intro m F L' H d s' w _ _ q _ b
  refine q s m σ L2 C H rfl hj (w.sub fun f hf => ?_)
  rcases List.mem_append.mp hf with e | e
  · exact s' f (hl f e)
  · exact e
theorem sv_assoc {t1 t2 : TS} {R : SM μ (Fl τ ρ)} (h : SV G Cp (tSeq t1 (tSeq t2 u)) σ L C R Jn Jl) : SV G Cp (tSeq (tSeq t1 t2) u) σ L C R Jn Jl := h
theorem sv_skip {R : SM μ (Fl τ ρ)} (h : SV G Cp u σ L C R Jn Jl) : SV G Cp (tSeq tNext u) σ L C R Jn Jl := h
/-- a statement, then the rest, by the shape between -/
theorem sv_seq {R : SM μ (Fl τ' ρ)} {k : τ' → SM μ (Fl τ ρ)} {J1 : Shp μ τ'} (h1 : SV G Cp t σ L C R J1 Jl) (h2 : ∀ s σ' L2 C2, J1 s σ' L2 C2 → SV G Cp u σ' (L2 ++ L) C2 (k s) Jn Jl) : SV G Cp (tSeq t u) σ L C (sq R k) Jn Jl := by
  intro m F L' H d s w q1 q2 q3 q4 b
  refine h1 m F L' H { d with nx := u d } s w ?_ ?_ ?_ ?_ ?_
  · intro z m1 σ1 L2 C2 H1 e1 j1 w1
    have er : sq R k m = k z m1 := bd_ok e1
    rw [er] at b
    refine h2 z σ1 L2 C2 j1 m1 F (L2 ++ L') H1 d (fun f hf => ?_) w1 ?_ ?_ ?_ ?_ (b.mono fun f hf => List.mem_append.mpr (.inr hf))
    · rcases List.mem_append.mp hf with e | e
      · exact List.mem_append.mpr (.inl e)
      · exact List.mem_append.mpr (.inr (s f e))
    · intro z2 m2 σ2 L3 C3 H2 e2 j2 w2
      exact q1 z2 m2 σ2 L3 C3 H2 (er.trans e2) j2 (w2.sub fun f hf => by
        rcases List.mem_append.mp hf with e | e
        · exact List.mem_append.mpr (.inl e)
        · exact List.mem_append.mpr (.inr (List.mem_append.mpr (.inr e))))
    · intro z2 m2 σ2 L3 C3 H2 e2 j2 w2
      exact q2 z2 m2 σ2 L3 C3 H2 (er.trans e2) j2 (w2.sub fun f hf => by
        rcases List.mem_append.mp hf with e | e
        · exact List.mem_append.mpr (.inl e)
        · exact List.mem_append.mpr (.inr (List.mem_append.mpr (.inr e))))
    · intro z2 m2 σ2 L3 C3 H2 e2 j2 w2
      exact q3 z2 m2 σ2 L3 C3 H2 (er.trans e2) j2 (w2.sub fun f hf => by
        rcases List.mem_append.mp hf with e | e
        · exact List.mem_append.mpr (.inl e)
        · exact List.mem_append.mpr (.inr (List.mem_append.mpr (.inr e))))
    · intro x m2 v H2 e2 w2
      exact q4 x m2 v H2 (er.trans e2) (w2.sub fun f hf => by
        rcases List.mem_cons.mp hf with e | e
        · rw [e]; exact .head _
        · exact .tail _ (List.mem_append.mpr (.inr e)))
  · intro z m1 σ1 L2 C2 H1 e1 j1 w1
    exact q2 z m1 σ1 L2 C2 H1 (bd_ok e1) j1 w1
  · intro z m1 σ1 L2 C2 H1 e1 j1 w1
    exact q3 z m1 σ1 L2 C2 H1 (bd_ok e1) j1 w1
  · intro x m1 v H1 e1 w1
    exact q4 x m1 v H1 (bd_ok e1) w1
  · exact b.fst
/-- more facts -/
theorem SV.sub {R : SM μ (Fl τ ρ)} {L0 : List (V × D)} (h : SV G Cp t σ L0 C R Jn Jl) (s : ∀ f ∈ L0, f ∈ L) : SV G Cp t σ L C R Jn Jl := by
  intro m F L' H d s' w q1 q2 q3 q4 b
  exact h m F L' H d (fun f hf => s' f (s f hf)) w q1 q2 q3 q4 b
/-- what is done first, then what follows -/
theorem sv_bd {α : Type} {x : SM μ α} {k : α → SM μ (Fl τ ρ)} (hc : Sub Cp C)
    (h1 : ∀ m F L' H (d : Ends), (∀ f ∈ L, f ∈ L') → Wd G.K G.O L' (C m ++ F) H →
      (∀ a m' σ' L2 C2 H', x m = .ok a m' → Wd G.K G.O (L2 ++ L') (C2 m' ++ F) H' → SV G Cp u σ' (L2 ++ L) C2 (k a) Jn Jl → u d σ' H') → Bk G C F L' (x m) → t { d with nx := u d } σ H) :
    SV G Cp (tSeq t u) σ L C (bd x k) Jn Jl := by
  intro m F L' H d s w q1 q2 q3 q4 b
  refine h1 m F L' H d s w (fun a m' σ' L2 C2 H' e1 w1 h2 => ?_) (b.fst.subC hc)
  have er : bd x k m = k a m' := bd_ok e1
  rw [er] at b
  have sb : ∀ {L3 : List (V × D)} {C3 : List Root} {H3 : Hp}, Wd G.K G.O (L3 ++ (L2 ++ L')) C3 H3 → Wd G.K G.O (L3 ++ L') C3 H3 := fun {L3 C3 H3} w3 => w3.sub fun f hf => by
    rcases List.mem_append.mp hf with e | e
    · exact List.mem_append.mpr (.inl e)
    · exact List.mem_append.mpr (.inr (List.mem_append.mpr (.inr e)))
  refine h2 m' F (L2 ++ L') H' d (fun f hf => ?_) w1 (fun z2 m2 σ2 L3 C3 H2 e2 j2 w2 => q1 z2 m2 σ2 L3 C3 H2 (er.trans e2) j2 (sb w2)) (fun z2 m2 σ2 L3 C3 H2 e2 j2 w2 => q2 z2 m2 σ2 L3 C3 H2 (er.trans e2) j2 (sb w2))
    (fun z2 m2 σ2 L3 C3 H2 e2 j2 w2 => q3 z2 m2 σ2 L3 C3 H2 (er.trans e2) j2 (sb w2)) (fun x m2 v H2 e2 w2 => q4 x m2 v H2 (er.trans e2) (sb (L3 := [(v, x)]) w2)) (b.mono fun f hf => List.mem_append.mpr (.inr hf))
  rcases List.mem_append.mp hf with e | e
  · exact List.mem_append.mpr (.inl e)
  · exact List.mem_append.mpr (.inr (s f e))
theorem sv_asg {σ' : V → St} {k : D → SM μ (Fl τ ρ)} (hc : Sub Cp C) (h : EV G te σ L C E) (hσ : ∀ v, σ.set i (some v) = σ' v) (hk : ∀ v x, SV G Cp u (σ' v) ((v, x) :: L) C (k x) Jn Jl) : SV G Cp (tSeq (tAsg te (gName i)) u) σ L C (bd E k) Jn Jl :=
  sv_bd hc fun m F L' H d s w q b => h m F L' H _ s w (fun x m1 v H1 e1 w1 => by
    show u d (σ.set i (some v)) H1
    rw [hσ v]
    exact q x m1 (σ' v) [(v, x)] C H1 e1 w1 (hk v x)) b
theorem sv_expr {k : SM μ (Fl τ ρ)} (hc : Sub Cp C) (h : EV G te σ L C E) (hk : SV G Cp u σ L C k Jn Jl) : SV G Cp (tSeq (tDrop te) u) σ L C (bd E fun _ => k) Jn Jl :=
  sv_bd hc fun m F L' H d s w q b => h m F L' H _ s w (fun x m1 v H1 e1 w1 => q x m1 σ [] C H1 e1 (w1.sub fun f hf => .tail _ hf) hk) b
theorem sv_aug {σ' : V → St} {k : D → SM μ (Fl τ ρ)} {r : TIp} {f : D → D → Option D} {v0 : V} {d0 : D} (hc : Sub Cp C) (hf : OpS G r f) (hv : σ[i]? = some (some v0)) (hm : (v0, d0) ∈ L) (h : EV G te σ L C E) (hσ : ∀ v, σ.set i (some v) = σ' v)
    (hk : ∀ v x, SV G Cp u (σ' v) ((v, x) :: L) C (k x) Jn Jl) : SV G Cp (tSeq (tAug i te r) u) σ L C (bd (op2 f (pu d0) E) k) Jn Jl :=
  sv_bd hc fun m F L' H d s w q b => by
    refine ⟨v0, hv, h m F L' H _ s w (fun x m1 v H1 e1 w1 => ?_) (b.snd rfl : Bk G C F L' (bd E (fun y => of (f d0 y)) m)).fst⟩
    have b1 := (b.snd rfl : Bk G C F L' (bd E (fun y => of (f d0 y)) m)).snd e1
    cases ef : f d0 x with
    | none => rw [ef] at b1; exact absurd rfl b1.2
    | some z =>
      refine hf _ _ H1 v0 v d0 x z _ w1 (.tail _ (s _ hm)) (.head _) ef fun v' H' w' => ?_
      show u d (σ.set i (some v')) H'
      rw [hσ v']
      refine q z m1 (σ' v') [(v', z)] C H' ?_ (w'.sub fun f hf => ?_) (hk v' z)
      · show bd (pu d0) _ m = _
        rw [pu_bd, bd_ok e1, ef]; rfl
      · rcases List.mem_cons.mp hf with e | e
        · rw [e]; exact .head _
        · exact .tail _ (.tail _ e)
/-- a, b = e -/
theorem sv_unp2 {σ' : V → V → St} {k : D → D → SM μ (Fl τ ρ)} (hc : Sub Cp C) (h : EV G te σ L C E) (hσ : ∀ v w, (σ.set i (some v)).set j (some w) = σ' v w) (hk : ∀ v w x y, SV G Cp u (σ' v w) ((v, x) :: (w, y) :: L) C (k x y) Jn Jl) :
    SV G Cp (tSeq (tAsg te (gTup G.K 2 (gCons (gName i) (gCons (gName j) gNil)))) u) σ L C (bd E fun t => unp2 t k) Jn Jl := by
  have e0 : (bd E fun t => unp2 t k) = bd (bd E fun t => unp2 t fun a b => pu (a, b)) fun p => k p.1 p.2 := by
    rw [bd_assoc]
    congr 1; funext t; unfold unp2; split <;> rfl
  rw [e0]
  refine sv_bd hc fun m F L' H d s w q b => h m F L' H _ s w (fun x m1 v H1 e1 w1 => ?_) b.fst
  have b1 := b.snd e1
  unfold unp2 at b1
  split at b1
  · next a c =>
    obtain ⟨B, wb⟩ := w1
    obtain ⟨p, vs, rfl, hl, ha⟩ := Dt.tup_inv (wb.ft _ (.head _))
    cases ha with
    | @cons va _ _ _ ha hb =>
      cases hb with
      | @cons vc _ _ _ hb hn =>
        cases hn
        refine ⟨p, [va, vc], rfl, hl.sq, rfl, va, [vc], rfl, vc, [], rfl, rfl, ?_⟩
        show u d ((σ.set i (some va)).set j (some vc)) H1
        rw [hσ]
        refine q (a, c) m1 (σ' va vc) [(va, a), (vc, c)] C H1 ?_ ⟨B, wb.fts fun f hf => ?_⟩ (hk va vc a c)
        · show bd E _ m = _
          rw [bd_ok e1]; rfl
        · rcases List.mem_cons.mp hf with e | hf
          · subst e; exact ha
          · rcases List.mem_cons.mp hf with e | hf
            · subst e; exact hb
            · exact wb.ft f (.tail _ hf)
  · exact absurd rfl b1.2
theorem sv_unp3 {l : Nat} {σ' : V → V → V → St} {k : D → D → D → SM μ (Fl τ ρ)} (hc : Sub Cp C) (h : EV G te σ L C E) (hσ : ∀ v w z, ((σ.set i (some v)).set j (some w)).set l (some z) = σ' v w z) (hk : ∀ v w z x y q, SV G Cp u (σ' v w z) ((v, x) :: (w, y) :: (z, q) :: L) C (k x y q) Jn Jl) :
    SV G Cp (tSeq (tAsg te (gTup G.K 3 (gCons (gName i) (gCons (gName j) (gCons (gName l) gNil))))) u) σ L C (bd E fun t => unp3 t k) Jn Jl := by
  have e0 : (bd E fun t => unp3 t k) = bd (bd E fun t => unp3 t fun a b c => pu (a, b, c)) fun p => k p.1 p.2.1 p.2.2 := by
    rw [bd_assoc]
    congr 1; funext t; unfold unp3; split <;> rfl
  rw [e0]
  refine sv_bd hc fun m F L' H d s w q b => h m F L' H _ s w (fun x m1 v H1 e1 w1 => ?_) b.fst
  have b1 := b.snd e1
  unfold unp3 at b1
  split at b1
  · next a c e =>
    obtain ⟨B, wb⟩ := w1
    obtain ⟨p, vs, rfl, hl, ha⟩ := Dt.tup_inv (wb.ft _ (.head _))
    cases ha with
    | @cons va _ _ _ ha hb =>
      cases hb with
      | @cons vc _ _ _ hb hn =>
        cases hn with
        | @cons ve _ _ _ hc' hn =>
          cases hn
          refine ⟨p, [va, vc, ve], rfl, hl.sq, rfl, va, [vc, ve], rfl, vc, [ve], rfl, ve, [], rfl, rfl, ?_⟩
          show u d (((σ.set i (some va)).set j (some vc)).set l (some ve)) H1
          rw [hσ]
          refine q (a, c, e) m1 (σ' va vc ve) [(va, a), (vc, c), (ve, e)] C H1 ?_ ⟨B, wb.fts fun f hf => ?_⟩ (hk va vc ve a c e)
          · show bd E _ m = _
            rw [bd_ok e1]; rfl
          · rcases List.mem_cons.mp hf with e | hf
            · subst e; exact ha
            · rcases List.mem_cons.mp hf with e | hf
              · subst e; exact hb
              · rcases List.mem_cons.mp hf with e | hf
                · subst e; exact hc'
                · exact wb.ft f (.tail _ hf)
  · exact absurd rfl b1.2
/-- a, b = x, y -/
theorem sv_par2 {ta : TA} {Es : SM μ (List D)} {σ' : V → V → St} {k : D → D → SM μ (Fl τ ρ)} (hc : Sub Cp C) (h : AV G ta σ L C Es) (hσ : ∀ v w, (σ.set i (some v)).set j (some w) = σ' v w) (hk : ∀ v w x y, SV G Cp u (σ' v w) ((v, x) :: (w, y) :: L) C (k x y) Jn Jl) :
    SV G Cp (tSeq (tPar i j ta) u) σ L C (bd Es fun t => par2 t k) Jn Jl := by
  have e0 : (bd Es fun t => par2 t k) = bd (bd Es fun t => par2 t fun a b => pu (a, b)) fun p => k p.1 p.2 := by
    rw [bd_assoc]
    congr 1; funext t; unfold par2; split <;> rfl
  rw [e0]
  refine sv_bd hc fun m F L' H d s w q b => h m F L' H _ s w (fun xs m1 vs H1 L2 e1 s2 i2 w1 => ?_) b.fst
  have b1 := b.snd e1
  unfold par2 at b1
  split at b1
  · next a c =>
    obtain ⟨x, y, rfl, hx, hy⟩ := i2.two
    refine ⟨x, y, rfl, ?_⟩
    show u d ((σ.set i (some x)).set j (some y)) H1
    rw [hσ]
    refine q (a, c) m1 (σ' x y) [(x, a), (y, c)] C H1 ?_ (w1.sub fun f hf => ?_) (hk x y a c)
    · show bd Es _ m = _
      rw [bd_ok e1]; rfl
    · rcases List.mem_cons.mp hf with e | hf
      · subst e; exact hx
      · rcases List.mem_cons.mp hf with e | hf
        · subst e; exact hy
        · exact s2 f hf
  · exact absurd rfl b1.2
theorem sv_if {A B : SM μ (Fl τ ρ)} {t1 t2 : TS} (hc : Sub Cp C) (h : TV G tt σ L C T) (h1 : SV G Cp (tSeq t1 u) σ L C A Jn Jl) (h2 : SV G Cp (tSeq t2 u) σ L C B Jn Jl) : SV G Cp (tSeq (tIfS tt t1 t2) u) σ L C (bd T fun c => if c then A else B) Jn Jl :=
  fun m F L' H d s w q1 q2 q3 q4 b => h m F L' H _ s w (fun c m1 H1 e1 w1 => by
    have er : bd T (fun c => if c then A else B) m = (if c then A else B) m1 := bd_ok e1
    rw [er] at b
    cases c with
    | true =>
      exact h1 m1 F L' H1 d s w1 (fun z2 m2 σ2 L3 C3 H2 e2 j2 w2 => q1 z2 m2 σ2 L3 C3 H2 (er.trans e2) j2 w2) (fun z2 m2 σ2 L3 C3 H2 e2 j2 w2 => q2 z2 m2 σ2 L3 C3 H2 (er.trans e2) j2 w2)
        (fun z2 m2 σ2 L3 C3 H2 e2 j2 w2 => q3 z2 m2 σ2 L3 C3 H2 (er.trans e2) j2 w2) (fun x m2 v H2 e2 w2 => q4 x m2 v H2 (er.trans e2) w2) b
    | false =>
      exact h2 m1 F L' H1 d s w1 (fun z2 m2 σ2 L3 C3 H2 e2 j2 w2 => q1 z2 m2 σ2 L3 C3 H2 (er.trans e2) j2 w2) (fun z2 m2 σ2 L3 C3 H2 e2 j2 w2 => q2 z2 m2 σ2 L3 C3 H2 (er.trans e2) j2 w2)
        (fun z2 m2 σ2 L3 C3 H2 e2 j2 w2 => q3 z2 m2 σ2 L3 C3 H2 (er.trans e2) j2 w2) (fun x m2 v H2 e2 w2 => q4 x m2 v H2 (er.trans e2) w2) b) (b.fst.subC hc)
/-- the same, without what follows -/
theorem sv_if1 {A B : SM μ (Fl τ ρ)} {t1 t2 : TS} (hc : Sub Cp C) (h : TV G tt σ L C T) (h1 : SV G Cp t1 σ L C A Jn Jl) (h2 : SV G Cp t2 σ L C B Jn Jl) : SV G Cp (tIfS tt t1 t2) σ L C (bd T fun c => if c then A else B) Jn Jl :=
  fun m F L' H d s w q1 q2 q3 q4 b => h m F L' H _ s w (fun c m1 H1 e1 w1 => by
    have er : bd T (fun c => if c then A else B) m = (if c then A else B) m1 := bd_ok e1
    rw [er] at b
    cases c with
    | true =>
      exact h1 m1 F L' H1 d s w1 (fun z2 m2 σ2 L3 C3 H2 e2 j2 w2 => q1 z2 m2 σ2 L3 C3 H2 (er.trans e2) j2 w2) (fun z2 m2 σ2 L3 C3 H2 e2 j2 w2 => q2 z2 m2 σ2 L3 C3 H2 (er.trans e2) j2 w2)
        (fun z2 m2 σ2 L3 C3 H2 e2 j2 w2 => q3 z2 m2 σ2 L3 C3 H2 (er.trans e2) j2 w2) (fun x m2 v H2 e2 w2 => q4 x m2 v H2 (er.trans e2) w2) b
    | false =>
      exact h2 m1 F L' H1 d s w1 (fun z2 m2 σ2 L3 C3 H2 e2 j2 w2 => q1 z2 m2 σ2 L3 C3 H2 (er.trans e2) j2 w2) (fun z2 m2 σ2 L3 C3 H2 e2 j2 w2 => q2 z2 m2 σ2 L3 C3 H2 (er.trans e2) j2 w2)
        (fun z2 m2 σ2 L3 C3 H2 e2 j2 w2 => q3 z2 m2 σ2 L3 C3 H2 (er.trans e2) j2 w2) (fun x m2 v H2 e2 w2 => q4 x m2 v H2 (er.trans e2) w2) b) (b.fst.subC hc)
end
/-! ### what is walked -/
section
open PySem.Spec PyProof.Rows SM
variable {X : Cx} {tg : Expr}
def iSeq (K : PySem.W.Frag) (tl : TE) : TI := fun σ H R => tl σ H fun x H1 => ∃ a, x = .ref a ∧ (((∃ xs, SqL K H1 a xs) ∧ R (Itl K a) H1) ∨ ((∃ xs, SqT K H1 a xs) ∧ R (Itt K a) H1))
theorem pi_seq {l : Expr} {tl : TE} (hl : PE X l tl) : PI X tg l (iSeq X.K tl) := by
  refine ⟨fun pins s σ H R I h => ?_⟩
  refine thn (hl.run pins s σ H _ I h) fun v s1 ⟨x, H1, I1, r1, q1⟩ => ?_
  obtain ⟨a, e, q1⟩ := q1
  subst e
  cases r1
  rcases q1 with ⟨⟨xs, hq⟩, q⟩ | ⟨⟨xs, hq⟩, q⟩
  · obtain ⟨its, rv, p, hz⟩ := I1.list hq
    refine wpAny_pyIter_list p.isList ?_
    refine ⟨s1.heap.objs.size, [s1.heap.objs.size], _, _, H1, rfl, I1.kept (t' := s1.toks) fun b o e => Heap.get?_push_of_some _ e, turn_list a _, ⟨_, Heap.get?_push_size _ rfl, rfl, rfl⟩, fun b hb => ?_, q⟩
    have e : b = s1.heap.objs.size := by simpa using hb
    subst e
    exact I1.fpOk (Nat.le_refl _) (I1.hok.fresh (Nat.le_refl _))
  · obtain ⟨its, rv, p, hz⟩ := I1.tuple hq
    refine wpAny_pyIter_tuple (show s1.heap.IsTuple a its.toArray from p) ?_
    refine ⟨s1.heap.objs.size, [s1.heap.objs.size], _, _, H1, rfl, I1.kept (t' := s1.toks) fun b o e => Heap.get?_push_of_some _ e, turn_tuple a _, ⟨_, Heap.get?_push_size _ rfl, rfl, rfl⟩, fun b hb => ?_, q⟩
    have e : b = s1.heap.objs.size := by simpa using hb
    subst e
    exact I1.fpOk (Nat.le_refl _) (I1.hok.fresh (Nat.le_refl _))
end
namespace SM
variable {μ : Type}
def itS (E : SM μ D) : SM μ (List D) := bd E fun d => of (seqD d)
def rgL (a b : Int) : List D := (List.range (b - a).toNat).map fun i => .int (a + (i : Nat))
def rngD : List D → Option (List D)
  | [.int b] => if -(2 ^ 62) ≤ b ∧ b < 2 ^ 62 then some (rgL 0 b) else none
  | [.int a, .int b] => if -(2 ^ 62) ≤ a ∧ a < 2 ^ 62 ∧ -(2 ^ 62) ≤ b ∧ b < 2 ^ 62 then some (rgL a b) else none
  | _ => none
def itR (Es : SM μ (List D)) : SM μ (List D) := bd Es fun ds => of (rngD ds)
def lc (I : SM μ (List D)) (T : D → SM μ Bool) (E : D → SM μ D) : SM μ D := bd I fun xs => bd (lcS T E xs []) fun ys => pu (.list ys)
end SM
section
open SM
variable {X : Cx} {μ τ τ' ρ : Type} {G : Gx} {σ : St} {L : List (V × D)} {C Cp : μ → List Root} {te ta tb tc : TE} {tt tu : TT} {t u : TS} {E E1 E2 E3 : SM μ D} {T T1 T2 : SM μ Bool} {Jn : Shp μ τ} {Jl : Shp μ ρ} {i j : Nat}
theorem itok_lst {a : Addr} {xs : List D} {L0 : List (V × D)} (h : (V.ref a, PyData.list xs) ∈ L0) : ItOk G (Itl G.K a) xs L0 := by
  intro L C H s w i
  obtain ⟨B, wb⟩ := w
  obtain ⟨p, vs, e, hl, ha⟩ := Dt.lst_inv (wb.ft _ (s _ h))
  cases e
  refine ⟨fun x hx => ?_, fun hi => ⟨vs, hl.sq, by rw [ha.len]; exact hi⟩⟩
  obtain ⟨v, hv, hd⟩ := ha.get hx
  refine ⟨⟨vs, v, hl.sq, hv⟩, fun u H' y => ?_⟩
  obtain ⟨e, y⟩ := y
  subst e
  have := y vs hl.sq
  rw [hv] at this
  cases this
  exact ⟨B, wb.fact hd⟩
theorem itok_tup {a : Addr} {xs : List D} {L0 : List (V × D)} (h : (V.ref a, PyData.tuple xs) ∈ L0) : ItOk G (Itt G.K a) xs L0 := by
  intro L C H s w i
  obtain ⟨B, wb⟩ := w
  obtain ⟨p, vs, e, hl, ha⟩ := Dt.tup_inv (wb.ft _ (s _ h))
  cases e
  refine ⟨fun x hx => ?_, fun hi => ⟨vs, hl.sq, by rw [ha.len]; exact hi⟩⟩
  obtain ⟨v, hv, hd⟩ := ha.get hx
  refine ⟨⟨vs, v, hl.sq, hv⟩, fun u H' y => ?_⟩
  obtain ⟨e, y⟩ := y
  subst e
  have := y vs hl.sq
  rw [hv] at this
  cases this
  exact ⟨B, wb.fact hd⟩
theorem iv_seq (h : EV G te σ L C E) : IV G (iSeq G.K te) σ L C (itS E) := by
  intro m F L' H R s w q b
  refine h m F L' H _ s w (fun x m1 v H1 e1 w1 => ?_) b.fst
  have b1 := b.snd e1
  have fin : ∀ {xs : List D}, seqD x = some xs → itS E m = .ok xs m1 := fun {xs} e => by
    show bd E _ m = _
    rw [bd_ok e1, e]; rfl
  obtain ⟨B, wb⟩ := w1
  cases x with
  | list xs =>
    obtain ⟨p, vs, rfl, hl, ha⟩ := Dt.lst_inv (wb.ft _ (.head _))
    exact ⟨p, rfl, .inl ⟨⟨vs, hl.sq⟩, q xs m1 _ H1 _ (fin rfl) (fun f hf => .tail _ hf) ⟨B, wb⟩ (itok_lst (.head _))⟩⟩
  | tuple xs =>
    obtain ⟨p, vs, rfl, hl, ha⟩ := Dt.tup_inv (wb.ft _ (.head _))
    exact ⟨p, rfl, .inr ⟨⟨vs, hl.sq⟩, q xs m1 _ H1 _ (fin rfl) (fun f hf => .tail _ hf) ⟨B, wb⟩ (itok_tup (.head _))⟩⟩
  | _ => exact absurd rfl b1.2
theorem rgL_get {a b : Int} {i : Nat} {x : D} (h : (rgL a b)[i]? = some x) : i < (b - a).toNat ∧ x = .int (a + i) := by
  unfold rgL at h
  rw [List.getElem?_map] at h
  cases e : (List.range (b - a).toNat)[i]? with
  | none => rw [e] at h; cases h
  | some k =>
    rw [e] at h
    cases h
    rw [List.getElem?_eq_some_iff] at e
    obtain ⟨h1, h2⟩ := e
    rw [List.getElem_range] at h2
    rw [List.length_range] at h1
    exact ⟨h1, by rw [h2]⟩
theorem itok_rng {a b : Int} {L0 : List (V × D)} : ItOk G (Itr a (b - a).toNat) (rgL a b) L0 := by
  intro L C H s w i
  refine ⟨fun x hx => ?_, fun hi => ?_⟩
  · obtain ⟨h1, rfl⟩ := rgL_get hx
    refine ⟨h1, fun u H' y => ?_⟩
    obtain ⟨e, y⟩ := y
    subst e y
    exact w.fact fun _ _ => .int _
  · unfold rgL at hi
    rw [List.length_map, List.length_range] at hi
    exact hi
theorem iv_rng1 {ta : TA} {E : SM μ D} (h : AV G ta σ L C (ac E a0)) : IV G (iRng1 ta) σ L C (itR (ac E a0)) := by
  intro m F L' H R s w q b
  refine h m F L' H _ s w (fun xs m1 vs H1 L2 e1 s2 i2 w1 => ?_) b.fst
  have b1 := b.snd e1
  have hx : ∃ x, xs = [x] := by
    unfold ac at e1
    cases eE : E m with
    | ok x m' => rw [bd_ok eE] at e1; cases e1; exact ⟨x, rfl⟩
    | exc x m' => rw [bd_exc eE] at e1; cases e1
    | bad => rw [bd_bad eE] at e1; cases e1
  obtain ⟨x, rfl⟩ := hx
  cases x with
  | int n =>
    simp only [rngD] at b1
    split at b1
    · next c =>
      obtain ⟨v, rfl, hv⟩ := i2.one
      obtain ⟨B, hd⟩ := w1.dt hv
      rw [hd.int_inv]
      refine ⟨n, rfl, c.1, c.2, ?_⟩
      have hi : ItOk G (Itr 0 n.toNat) (rgL 0 n) L2 := by
        have := itok_rng (G := G) (a := 0) (b := n) (L0 := L2)
        rw [Int.sub_zero] at this
        exact this
      refine q (rgL 0 n) m1 _ H1 L2 ?_ s2 w1 hi
      show bd (ac E a0) _ m = _
      rw [bd_ok e1]
      simp only [rngD]; rw [if_pos c]; rfl
    · exact absurd rfl b1.2
  | _ => exact absurd rfl b1.2
theorem iv_rng2 {ta : TA} {E E' : SM μ D} (h : AV G ta σ L C (ac E (ac E' a0))) : IV G (iRng2 ta) σ L C (itR (ac E (ac E' a0))) := by
  intro m F L' H R s w q b
  refine h m F L' H _ s w (fun xs m1 vs H1 L2 e1 s2 i2 w1 => ?_) b.fst
  have b1 := b.snd e1
  have hx : ∃ x y, xs = [x, y] := by
    unfold ac at e1
    cases eE : E m with
    | ok x m' =>
      rw [bd_ok eE] at e1
      cases eE' : E' m' with
      | ok y m2 =>
        have e3 : (bd E' fun x => bd (a0 : SM μ (List D)) fun xs => pu (x :: xs)) m' = .ok [y] m2 := by rw [bd_ok eE']; rfl
        rw [bd_ok e3] at e1; cases e1; exact ⟨x, y, rfl⟩
      | exc y m2 =>
        have e3 : (bd E' fun x => bd (a0 : SM μ (List D)) fun xs => pu (x :: xs)) m' = .exc y m2 := by rw [bd_exc eE']
        rw [bd_exc e3] at e1; cases e1
      | bad =>
        have e3 : (bd E' fun x => bd (a0 : SM μ (List D)) fun xs => pu (x :: xs)) m' = .bad := by rw [bd_bad eE']
        rw [bd_bad e3] at e1; cases e1
    | exc x m' => rw [bd_exc eE] at e1; cases e1
    | bad => rw [bd_bad eE] at e1; cases e1
  obtain ⟨x, y, rfl⟩ := hx
  cases x with
  | int n =>
    cases y with
    | int k =>
      simp only [rngD] at b1
      split at b1
      · next c =>
        obtain ⟨v, v2, rfl, hv, hv2⟩ := i2.two
        obtain ⟨B, hd⟩ := w1.dt hv
        obtain ⟨B2, hd2⟩ := w1.dt hv2
        rw [hd.int_inv, hd2.int_inv]
        refine ⟨n, k, rfl, c, ?_⟩
        refine q (rgL n k) m1 _ H1 L2 ?_ s2 w1 itok_rng
        show bd (ac E (ac E' a0)) _ m = _
        rw [bd_ok e1]
        simp only [rngD]; rw [if_pos c]; rfl
      · exact absurd rfl b1.2
    | _ => exact absurd rfl b1.2
  | _ => exact absurd rfl b1.2
/-! ### for -/
/-- what is stored at a target, then the rest -/
def tTgt (g : TG) (v : V) (t : TS) : TS := fun d σ H => g v σ H fun σ2 H2 => t d σ2 H2
theorem forS_step {xs : List D} {i : Nat} {x : D} (h : xs[i]? = some x) : xs.drop i = x :: xs.drop (i + 1) := by
  rw [List.getElem?_eq_some_iff] at h
  obtain ⟨h1, h2⟩ := h
  rw [List.drop_eq_getElem_cons h1, h2]
theorem sv_for {wi : TI} {I : SM μ (List D)} {b : D → τ' → SM μ (Fl τ' τ')} {J : Shp μ τ'} {s0 : τ'} {L0 : List (V × D)} {g : TG} {tb : TS} (hc : Sub Cp C) (hi : IV G wi σ L C I) (h0 : J s0 σ L0 C) (hl : ∀ f ∈ L0, f ∈ L)
    (hC : ∀ s σ' L2 C2, J s σ' L2 C2 → Sub Cp C2)
    (hb : ∀ s σ' L2 C2, J s σ' L2 C2 → ∀ v x, SV G Cp (tTgt g v tb) σ' ((v, x) :: (L2 ++ L)) C2 (b x s) J J) : SV G Cp (tFor wi g tb) σ L C (bd I fun xs => forS xs s0 b) J Jl := by
  intro m F L' H d s w q1 q2 q3 q4 bk
  refine hi m F L' H _ s w (fun xs m1 It H1 L1 e1 s1 w1 hit => ?_) (bk.fst.subC hc)
  have er : bd I (fun xs => forS xs s0 b) m = (forS xs s0 b : SM μ (Fl τ' ρ)) m1 := bd_ok e1
  rw [er] at bk
  refine ⟨fun i n σ' H' => n = xs.length - i ∧ i ≤ xs.length ∧ ∃ z m' L2 C2, (forS xs s0 b : SM μ (Fl τ' ρ)) m1 = forS (xs.drop i) z b m' ∧ J z σ' L2 C2 ∧ Wd G.K G.O (L2 ++ L1) (C2 m' ++ F) H', ⟨xs.length, by simp, Nat.zero_le _, s0, m1, L0, C, rfl, h0, w1.sub fun f hf => ?_⟩, ?_⟩
  · rcases List.mem_append.mp hf with e | e
    · exact s1 f (s f (hl f e))
    · exact e
  · rintro i n σ' H' ⟨rfl, hin, z, m', L2, C2, ez, jz, wz⟩
    have hI := hit _ _ _ (fun f hf => List.mem_append.mpr (.inr hf)) wz i
    by_cases hlt : i < xs.length
    · have hx : xs[i]? = some xs[i] := List.getElem?_eq_getElem hlt
      obtain ⟨go, hy⟩ := hI.1 _ hx
      rw [forS_step hx] at ez
      rw [ez] at bk
      refine .inr ⟨go, fun σ'' H'' => ∃ z m' L2 C2, (forS xs s0 b : SM μ (Fl τ' ρ)) m1 = forS (xs.drop (i + 1)) z b m' ∧ J z σ'' L2 C2 ∧ Wd G.K G.O (L2 ++ L1) (C2 m' ++ F) H'', fun σ'' H'' hN => ⟨xs.length - (i + 1), by omega, rfl, hlt, hN⟩, fun v H2 y => ?_⟩
      have w2 := hy v H2 y
      have bb : Bk G Cp F L' ((b xs[i] z) m') := (show Bk G Cp F L' (bd (b xs[i] z) _ m') from bk).fst
      have sb : ∀ {L3 : List (V × D)} {C3 : List Root} {H3 : Hp}, Wd G.K G.O (L3 ++ ((v, xs[i]) :: (L2 ++ L1))) C3 H3 → Wd G.K G.O (L3 ++ L1) C3 H3 := fun {L3 C3 H3} w3 => w3.sub fun f hf => by
        rcases List.mem_append.mp hf with e | e
        · exact List.mem_append.mpr (.inl e)
        · exact List.mem_append.mpr (.inr (.tail _ (List.mem_append.mpr (.inr e))))
      have sb' : ∀ {L3 : List (V × D)} {C3 : List Root} {H3 : Hp}, Wd G.K G.O (L3 ++ L1) C3 H3 → Wd G.K G.O (L3 ++ L') C3 H3 := fun {L3 C3 H3} w3 => w3.sub fun f hf => by
        rcases List.mem_append.mp hf with e | e
        · exact List.mem_append.mpr (.inl e)
        · exact List.mem_append.mpr (.inr (s1 f e))
      refine hb z σ' L2 C2 jz v xs[i] m' F ((v, xs[i]) :: (L2 ++ L1)) H2 _ (fun f hf => ?_) w2 ?_ ?_ ?_ ?_ (bb.mono fun f hf => .tail _ (List.mem_append.mpr (.inr (s1 f hf))))
      · rcases List.mem_cons.mp hf with e | e
        · rw [e]; exact .head _
        · rcases List.mem_append.mp e with e | e
          · exact .tail _ (List.mem_append.mpr (.inl e))
          · exact .tail _ (List.mem_append.mpr (.inr (s1 f (s f e))))
      · intro z2 m2 σ3 L3 C3 H3 e3 j3 w3
        exact ⟨z2, m2, L3, C3, ez.trans (bd_ok e3), j3, sb w3⟩
      · intro z2 m2 σ3 L3 C3 H3 e3 j3 w3
        exact q1 z2 m2 σ3 L3 C3 H3 (er.trans (ez.trans (bd_ok e3))) j3 (sb' (sb w3))
      · intro z2 m2 σ3 L3 C3 H3 e3 j3 w3
        exact ⟨z2, m2, L3, C3, ez.trans (bd_ok e3), j3, sb w3⟩
      · intro x m2 v2 H3 e3 w3
        exact q4 x m2 v2 H3 (er.trans (ez.trans (bd_ok e3))) (sb' (L3 := [(v2, x)]) (sb (L3 := [(v2, x)]) w3))
    · have e : i = xs.length := by omega
      subst e
      rw [List.drop_length] at ez
      refine .inl ⟨hI.2 (Nat.le_refl _), q1 z m' σ' L2 C2 H' (er.trans ez) jz (wz.sub fun f hf => ?_)⟩
      rcases List.mem_append.mp hf with e | e
      · exact List.mem_append.mpr (.inl e)
      · exact List.mem_append.mpr (.inr (s1 f e))
/-! ### while -/
theorem sv_while {b : τ' → SM μ (Fl τ' τ')} {T : τ' → SM μ Bool} {J : Shp μ τ'} {s0 : τ'} {L0 : List (V × D)} {tb : TS} {n : Nat} (h0 : J s0 σ L0 C) (hl : ∀ f ∈ L0, f ∈ L)
    (hC : ∀ s σ' L2 C2, J s σ' L2 C2 → Sub Cp C2)
    (ht : ∀ s σ' L2 C2, J s σ' L2 C2 → TV G tt σ' (L2 ++ L) C2 (T s))
    (hb : ∀ s σ' L2 C2, J s σ' L2 C2 → SV G Cp tb σ' (L2 ++ L) C2 (b s) J J) : SV G Cp (tWhile tt tb) σ L C (whileS n T b s0) J Jl := by
  intro m F L' H d s w q1 q2 q3 q4 bk
  refine ⟨fun k σ' H' => ∃ z m' L2 C2, (whileS n T b s0 : SM μ (Fl τ' ρ)) m = whileS k T b z m' ∧ J z σ' L2 C2 ∧ Wd G.K G.O (L2 ++ L') (C2 m' ++ F) H', ⟨n, s0, m, L0, C, rfl, h0, w.sub fun f hf => ?_⟩, ?_⟩
  · rcases List.mem_append.mp hf with e | e
    · exact s f (hl f e)
    · exact e
  · rintro k σ' H' ⟨z, m', L2, C2, ez, jz, wz⟩
    rw [ez] at bk
    cases k with
    | zero => exact absurd rfl bk.2
    | succ k =>
      have sb : ∀ {L3 : List (V × D)} {C3 : List Root} {H3 : Hp}, Wd G.K G.O (L3 ++ (L2 ++ L')) C3 H3 → Wd G.K G.O (L3 ++ L') C3 H3 := fun {L3 C3 H3} w3 => w3.sub fun f hf => by
        rcases List.mem_append.mp hf with e | e
        · exact List.mem_append.mpr (.inl e)
        · exact List.mem_append.mpr (.inr (List.mem_append.mpr (.inr e)))
      have b1 : Bk G Cp F L' (T z m') := (show Bk G Cp F L' (bd (T z) _ m') from bk).fst
      have sL : ∀ f ∈ L2 ++ L, f ∈ L2 ++ L' := fun f hf => by
        rcases List.mem_append.mp hf with e | e
        · exact List.mem_append.mpr (.inl e)
        · exact List.mem_append.mpr (.inr (s f e))
      refine ht z σ' L2 C2 jz m' F (L2 ++ L') H' _ sL wz (fun c m2 H2 e2 w2 => ?_) ((b1.subC (hC _ _ _ _ jz)).mono fun f hf => List.mem_append.mpr (.inr hf))
      have e3 : (whileS (k + 1) T b z : SM μ (Fl τ' ρ)) m' = (if c then bd (b z) fun o => match o with
        | .nx s' => whileS k T b s'
        | .ct s' => whileS k T b s'
        | .bk s' => pu (.nx s')
        | .rt d => pu (.rt d)
        else pu (.nx z)) m2 := bd_ok e2
      cases c with
      | false => exact q1 z m2 σ' L2 C2 H2 (ez.trans e3) jz w2
      | true =>
        rw [if_pos rfl]
        rw [e3] at bk
        have b2 : Bk G Cp F L' (b z m2) := (show Bk G Cp F L' (bd (b z) _ m2) from bk).fst
        refine ⟨fun σ'' H'' => ∃ z m' L2 C2, (whileS n T b s0 : SM μ (Fl τ' ρ)) m = whileS k T b z m' ∧ J z σ'' L2 C2 ∧ Wd G.K G.O (L2 ++ L') (C2 m' ++ F) H'', fun σ'' H'' hN => ⟨k, by omega, hN⟩, ?_⟩
        refine hb z σ' L2 C2 jz m2 F (L2 ++ L') H2 _ sL w2 ?_ ?_ ?_ ?_ (b2.mono fun f hf => List.mem_append.mpr (.inr hf))
        · intro z2 m3 σ3 L3 C3 H3 e4 j3 w3
          exact ⟨z2, m3, L3, C3, ez.trans (e3.trans (bd_ok e4)), j3, sb w3⟩
        · intro z2 m3 σ3 L3 C3 H3 e4 j3 w3
          exact q1 z2 m3 σ3 L3 C3 H3 (ez.trans (e3.trans (bd_ok e4))) j3 (sb w3)
        · intro z2 m3 σ3 L3 C3 H3 e4 j3 w3
          exact ⟨z2, m3, L3, C3, ez.trans (e3.trans (bd_ok e4)), j3, sb w3⟩
        · intro x m3 v2 H3 e4 w3
          exact q4 x m3 v2 H3 (ez.trans (e3.trans (bd_ok e4))) (sb (L3 := [(v2, x)]) w3)
end
/-! ### targets -/
section
open SM
variable {X : Cx} {μ τ τ' ρ : Type} {G : Gx} {σ : St} {L : List (V × D)} {C Cp : μ → List Root} {te ta tb tc : TE} {tt tu : TT} {t u : TS} {E E1 E2 E3 : SM μ D} {T T1 T2 : SM μ Bool} {Jn : Shp μ τ} {Jl : Shp μ ρ} {i j : Nat} {v : V} {x : D}
def tTgts (g : TGs) (vs : List V) (t : TS) : TS := fun d σ H => g vs σ H fun σ2 H2 => t d σ2 H2
theorem tg_name {R : SM μ (Fl τ ρ)} {σ' : St} (hσ : σ.set i (some v) = σ') (h : SV G Cp u σ' L C R Jn Jl) : SV G Cp (tTgt (gName i) v u) σ L C R Jn Jl := by
  subst hσ
  exact h
theorem tgs_nil {R : SM μ (Fl τ ρ)} (h : SV G Cp u σ L C R Jn Jl) : SV G Cp (tTgts gNil [] u) σ L C R Jn Jl := fun m F L' H d s w q1 q2 q3 q4 bk => ⟨rfl, h m F L' H d s w q1 q2 q3 q4 bk⟩
theorem tgs_cons {R : SM μ (Fl τ ρ)} {g : TG} {gs : TGs} {vs : List V} (h : SV G Cp (tTgt g v (tTgts gs vs u)) σ L C R Jn Jl) : SV G Cp (tTgts (gCons g gs) (v :: vs) u) σ L C R Jn Jl := fun m F L' H d s w q1 q2 q3 q4 bk => ⟨v, vs, rfl, h m F L' H d s w q1 q2 q3 q4 bk⟩
/-- names in slots, one by one -/
theorem tgs_name {R : SM μ (Fl τ ρ)} {gs : TGs} {vs : List V} {σ' : St} (hσ : σ.set i (some v) = σ') (h : SV G Cp (tTgts gs vs u) σ' L C R Jn Jl) : SV G Cp (tTgts (gCons (gName i) gs) (v :: vs) u) σ L C R Jn Jl := tgs_cons (tg_name hσ h)
/-- parts of a tuple, found among the facts -/
theorem dt_parts {K : PySem.W.Frag} {O : Og} {L : List (V × D)} {C : List Root} {H : Hp} {v : V} {ds : List D} (w : Wd K O L C H) (h : (v, PyData.tuple ds) ∈ L) : ∃ p vs, v = .ref p ∧ SqT K H p vs ∧ vs.length = ds.length ∧ Wd K O (vs.zip ds ++ L) C H := by
  obtain ⟨B, wb⟩ := w
  obtain ⟨p, vs, rfl, hl, ha⟩ := Dt.tup_inv (wb.ft _ h)
  refine ⟨p, vs, rfl, hl.sq, ha.len, B, wb.fts fun f hf => ?_⟩
  rcases List.mem_append.mp hf with e | e
  · have : ∀ {vs : List V} {ds : List D}, DtAll K B H vs ds → ∀ f ∈ vs.zip ds, Dt K B H f.1 f.2 := by
      intro vs
      induction vs with
      | nil => intro ds h f hf; cases hf
      | cons a r ih =>
        intro ds h f hf
        cases h with
        | cons x y =>
          rcases List.mem_cons.mp hf with e | e
          · subst e; exact x
          · exact ih y f e
    exact this ha f e
  · exact wb.ft f e
/-- more facts on top, taken off at the end -/
theorem sv_more {R : SM μ (Fl τ ρ)} {L1 : List (V × D)} (h : SV G Cp t σ (L1 ++ L) C R Jn Jl) {m : μ} {F : List Root} {L' : List (V × D)} {H : Hp} {d : Ends} (s : ∀ f ∈ L, f ∈ L') (w : Wd G.K G.O (L1 ++ L') (C m ++ F) H)
    (q1 : ∀ s m' σ' L2 C2 H', R m = .ok (.nx s) m' → Jn s σ' L2 C2 → Wd G.K G.O (L2 ++ L') (C2 m' ++ F) H' → d.nx σ' H')
    (q2 : ∀ s m' σ' L2 C2 H', R m = .ok (.bk s) m' → Jl s σ' L2 C2 → Wd G.K G.O (L2 ++ L') (C2 m' ++ F) H' → d.bk σ' H')
    (q3 : ∀ s m' σ' L2 C2 H', R m = .ok (.ct s) m' → Jl s σ' L2 C2 → Wd G.K G.O (L2 ++ L') (C2 m' ++ F) H' → d.ct σ' H')
    (q4 : ∀ x m' v H', R m = .ok (.rt x) m' → Wd G.K G.O ((v, x) :: L') (Cp m' ++ F) H' → d.rt v H') (bk : Bk G Cp F L' (R m)) : t d σ H := by
  have sb : ∀ {L3 : List (V × D)} {C3 : List Root} {H3 : Hp}, Wd G.K G.O (L3 ++ (L1 ++ L')) C3 H3 → Wd G.K G.O (L3 ++ L') C3 H3 := fun {L3 C3 H3} w3 => w3.sub fun f hf => by
    rcases List.mem_append.mp hf with e | e
    · exact List.mem_append.mpr (.inl e)
    · exact List.mem_append.mpr (.inr (List.mem_append.mpr (.inr e)))
  refine h m F (L1 ++ L') H d (fun f hf => ?_) w (fun z2 m2 σ2 L3 C3 H2 e2 j2 w2 => q1 z2 m2 σ2 L3 C3 H2 e2 j2 (sb w2)) (fun z2 m2 σ2 L3 C3 H2 e2 j2 w2 => q2 z2 m2 σ2 L3 C3 H2 e2 j2 (sb w2))
    (fun z2 m2 σ2 L3 C3 H2 e2 j2 w2 => q3 z2 m2 σ2 L3 C3 H2 e2 j2 (sb w2)) (fun x m2 v H2 e2 w2 => q4 x m2 v H2 e2 (sb (L3 := [(v, x)]) w2)) (bk.mono fun f hf => List.mem_append.mpr (.inr hf))
  rcases List.mem_append.mp hf with e | e
  · exact List.mem_append.mpr (.inl e)
  · exact List.mem_append.mpr (.inr (s f e))
theorem tg_tup2 {gs : TGs} {k : D → D → SM μ (Fl τ ρ)} (hm : (v, x) ∈ L) (h : ∀ v1 v2 a b, SV G Cp (tTgts gs [v1, v2] u) σ ((v1, a) :: (v2, b) :: L) C (k a b) Jn Jl) : SV G Cp (tTgt (gTup G.K 2 gs) v u) σ L C (unp2 x k) Jn Jl := by
  intro m F L' H d s w q1 q2 q3 q4 bk
  unfold unp2 at bk q1 q2 q3 q4
  split at bk
  · next a b =>
    obtain ⟨p, vs, rfl, hl, hlen, w2⟩ := dt_parts w (s _ hm)
    match vs, hlen with
    | [v1, v2], _ => exact ⟨p, [v1, v2], rfl, hl, rfl, sv_more (L1 := [(v1, a), (v2, b)]) (h v1 v2 a b) s w2 q1 q2 q3 q4 bk⟩
  · exact absurd rfl bk.2
theorem tg_tup3 {gs : TGs} {k : D → D → D → SM μ (Fl τ ρ)} (hm : (v, x) ∈ L) (h : ∀ v1 v2 v3 a b c, SV G Cp (tTgts gs [v1, v2, v3] u) σ ((v1, a) :: (v2, b) :: (v3, c) :: L) C (k a b c) Jn Jl) : SV G Cp (tTgt (gTup G.K 3 gs) v u) σ L C (unp3 x k) Jn Jl := by
  intro m F L' H d s w q1 q2 q3 q4 bk
  unfold unp3 at bk q1 q2 q3 q4
  split at bk
  · next a b c =>
    obtain ⟨p, vs, rfl, hl, hlen, w2⟩ := dt_parts w (s _ hm)
    match vs, hlen with
    | [v1, v2, v3], _ => exact ⟨p, [v1, v2, v3], rfl, hl, rfl, sv_more (L1 := [(v1, a), (v2, b), (v3, c)]) (h v1 v2 v3 a b c) s w2 q1 q2 q3 q4 bk⟩
  · exact absurd rfl bk.2
theorem tg_tup4 {gs : TGs} {k : D → D → D → D → SM μ (Fl τ ρ)} (hm : (v, x) ∈ L) (h : ∀ v1 v2 v3 v4 a b c e, SV G Cp (tTgts gs [v1, v2, v3, v4] u) σ ((v1, a) :: (v2, b) :: (v3, c) :: (v4, e) :: L) C (k a b c e) Jn Jl) : SV G Cp (tTgt (gTup G.K 4 gs) v u) σ L C (unp4 x k) Jn Jl := by
  intro m F L' H d s w q1 q2 q3 q4 bk
  unfold unp4 at bk q1 q2 q3 q4
  split at bk
  · next a b c e =>
    obtain ⟨p, vs, rfl, hl, hlen, w2⟩ := dt_parts w (s _ hm)
    match vs, hlen with
    | [v1, v2, v3, v4], _ => exact ⟨p, [v1, v2, v3, v4], rfl, hl, rfl, sv_more (L1 := [(v1, a), (v2, b), (v3, c), (v4, e)]) (h v1 v2 v3 v4 a b c e) s w2 q1 q2 q3 q4 bk⟩
  · exact absurd rfl bk.2
/-- target = e, any target -/
theorem sv_asgT {g : TG} {k : D → SM μ (Fl τ ρ)} (hc : Sub Cp C) (h : EV G te σ L C E) (hk : ∀ v x, SV G Cp (tTgt g v u) σ ((v, x) :: L) C (k x) Jn Jl) : SV G Cp (tSeq (tAsg te g) u) σ L C (bd E k) Jn Jl := by
  intro m F L' H d s w q1 q2 q3 q4 b
  refine h m F L' H _ s w (fun x m1 v H1 e1 w1 => ?_) (b.fst.subC hc)
  have er : bd E k m = k x m1 := bd_ok e1
  exact sv_more (t := tTgt g v u) (L1 := [(v, x)]) (hk v x) s w1 (fun z2 m2 σ2 L3 C3 H2 e2 j2 w2 => q1 z2 m2 σ2 L3 C3 H2 (er.trans e2) j2 w2) (fun z2 m2 σ2 L3 C3 H2 e2 j2 w2 => q2 z2 m2 σ2 L3 C3 H2 (er.trans e2) j2 w2)
    (fun z2 m2 σ2 L3 C3 H2 e2 j2 w2 => q3 z2 m2 σ2 L3 C3 H2 (er.trans e2) j2 w2) (fun x m2 v H2 e2 w2 => q4 x m2 v H2 (er.trans e2) w2) (by rw [er] at b; exact b)
/-! ### comprehensions -/
theorem tv_yes : TV G tYes σ L C (pu true : SM μ Bool) := fun m F L' H Q s w q _ => q true m H rfl w
/-- the new list, on top of what is not told -/
theorem Wd.acc {K : PySem.W.Frag} {O : Og} {L : List (V × D)} {C F : List Root} {H : Hp} {p : Addr} (w : Wd K O L (C ++ F) H) (hp : H p = none) : Wd K O L (C ++ (rootL K p (.list []) :: F)) (upd H p (.lst [])) :=
  (Wd.root (ds := []) w hp .nil).perm List.perm_middle.symm
theorem lcS_step {T : D → SM μ Bool} {E : D → SM μ D} {xs acc : List D} : True := trivial
/-- the walk of a comprehension: g, the target, in σ2; by turns -/
theorem ev_lcG {wi : TI} {I : SM μ (List D)} {T : D → SM μ Bool} {E : D → SM μ D} {g : TG} {vs : List Nat} (hi : IV G wi σ L C I)
    (ht : ∀ v x m F L' H (Q : St → Hp → Prop), (∀ f ∈ (v, x) :: L, f ∈ L') → Wd G.K G.O L' (C m ++ F) H → T x m ≠ .bad →
      (∀ σ2 L1, (∀ f ∈ L', f ∈ L1) → wipe σ2 vs = wipe σ vs → Wd G.K G.O L1 (C m ++ F) H → TV G tt σ2 L1 C (T x) → EV G te σ2 L1 C (E x) → Q σ2 H) → g v (wipe σ vs) H Q) :
    EV G (tLc wi g tt te vs) σ L C (lc I T E) := by
  intro m F L' H Q s w q bk
  refine hi m F L' H _ s w (fun xs m1 It H1 L1 e1 s1 w1 hit => ?_) bk.fst
  have b1 := bk.snd e1
  have er : lc I T E m = bd (lcS T E xs []) (fun ys => pu (.list ys)) m1 := bd_ok e1
  intro A hA
  refine ⟨fun i n H' => n = xs.length - i ∧ i ≤ xs.length ∧ ∃ m' acc, lcS T E xs [] m1 = lcS T E (xs.drop i) acc m' ∧ Wd G.K G.O L1 (C m' ++ (rootL G.K A (.list acc) :: F)) H', ⟨xs.length, by simp, Nat.zero_le _, m1, [], rfl, w1.acc hA⟩, ?_⟩
  rintro i n H' ⟨rfl, hin, m', acc, ez, wz⟩
  have hI := hit _ _ _ (fun f hf => hf) wz i
  have hAO : A ∉ G.O.fp := by
    obtain ⟨B, wb⟩ := w1
    exact wb.nofp hA
  by_cases hlt : i < xs.length
  · have hx : xs[i]? = some xs[i] := List.getElem?_eq_getElem hlt
    obtain ⟨go, hy⟩ := hI.1 _ hx
    rw [forS_step hx] at ez
    refine .inr ⟨go, fun H'' => ∃ m' acc, lcS T E xs [] m1 = lcS T E (xs.drop (i + 1)) acc m' ∧ Wd G.K G.O L1 (C m' ++ (rootL G.K A (.list acc) :: F)) H'', fun H'' hN => ⟨xs.length - (i + 1), by omega, rfl, hlt, hN⟩, fun v H2 y => ?_⟩
    have w2 := hy v H2 y
    have b2 : Bk G C F L' (lcS T E (xs[i] :: xs.drop (i + 1)) acc m') := by
      have := b1.fst
      rw [ez] at this
      exact this
    have b3 : Bk G C F L' (T xs[i] m') := (show Bk G C F L' (bd (T xs[i]) _ m') from b2).fst
    have toF : ∀ {α : Type} {acc : List D} {r : Rs μ α}, Bk G C F L' r → Bk G C (rootL G.K A (.list acc) :: F) L' r := fun {α acc r} b => ⟨fun e m' cls d H' q x w => b.1 e m' cls d H' q x (w.subC ((List.Sublist.refl _).append (List.sublist_cons_self _ _))), b.2⟩
    refine ht v xs[i] m' (rootL G.K A (.list acc) :: F) ((v, xs[i]) :: L1) H2 _ (fun f hf => ?_) w2 b3.2 (fun σ2 L2 sL2 hw w3 hT hE => ⟨hw, ?_⟩)
    · rcases List.mem_cons.mp hf with e | e
      · rw [e]; exact .head _
      · exact .tail _ (s1 f (s f e))
    · refine hT m' (rootL G.K A (.list acc) :: F) L2 H2 _ (fun f hf => hf) w3 (fun c m3 H3 e3 w4 => ?_) ((toF b3).mono fun f hf => sL2 f (.tail _ (s1 f hf)))
      have e4 : lcS T E (xs[i] :: xs.drop (i + 1)) acc m' = (if c then bd (E xs[i]) fun y => if acc.length < sizeLine then lcS T E (xs.drop (i + 1)) (acc ++ [y]) else bad else lcS T E (xs.drop (i + 1)) acc) m3 := bd_ok e3
      have sb : ∀ {C3 : List Root} {H3 : Hp}, Wd G.K G.O L2 C3 H3 → Wd G.K G.O L1 C3 H3 := fun {C3 H3} w => w.sub fun f hf => sL2 f (.tail _ hf)
      cases c with
      | false =>
        rw [if_neg (by decide)]
        exact ⟨m3, acc, ez.trans e4, sb w4⟩
      | true =>
        rw [if_pos rfl]
        have b4 : Bk G C F L' (bd (E xs[i]) (fun y => if acc.length < sizeLine then lcS T E (xs.drop (i + 1)) (acc ++ [y]) else bad) m3) := by
          rw [e4] at b2
          exact b2
        refine hE m3 (rootL G.K A (.list acc) :: F) L2 H3 _ (fun f hf => hf) w4 (fun y m4 u H4 e5 w5 => ?_) ((toF b4.fst).mono fun f hf => sL2 f (.tail _ (s1 f hf)))
        have b5 := b4.snd e5
        by_cases hz : acc.length < sizeLine
        · have w6 := w5.perm List.perm_middle
          obtain ⟨B, wb⟩ := w6
          obtain ⟨ds, us, e6, hA4, hda⟩ := wb.rt _ (.head _)
          cases e6
          refine ⟨us, hA4, by rw [hda.len]; exact hz, m4, acc ++ [y], ez.trans (e4.trans ?_), ?_⟩
          · show bd (E xs[i]) _ m3 = _
            rw [bd_ok e5, if_pos hz]
          · have w7 : Wd G.K G.O ((u, y) :: L2) (rootL G.K A (.list (acc ++ [y])) :: (C m4 ++ F)) (upd H4 A (.lst (us ++ [u]))) :=
              Wd.put ⟨B, wb⟩ fun B' f hr => by
                obtain ⟨ds', us', e6, hA5, hda5⟩ := hr
                cases e6
                rw [hA4] at hA5
                cases hA5
                exact hda5.app (.cons (f _ (.head _)) .nil)
            exact (w7.perm List.perm_middle.symm).sub fun f hf => .tail _ (sL2 f (.tail _ hf))
        · rw [if_neg hz] at b5
          exact absurd rfl b5.2
  · have e : i = xs.length := by omega
    subst e
    rw [List.drop_length] at ez
    refine .inl ⟨hI.2 (Nat.le_refl _), ?_⟩
    have w2 := (wz.perm List.perm_middle).freeze hAO
    refine q (.list acc) m' (.ref A) H' ?_ (w2.sub fun f hf => ?_)
    · rw [er]
      show bd (lcS T E xs []) _ m1 = _
      rw [bd_ok (show lcS T E xs [] m1 = .ok acc m' from ez)]; rfl
    · rcases List.mem_cons.mp hf with e | e
      · rw [e]; exact .head _
      · exact .tail _ (s1 f e)
theorem TV.sub {T : SM μ Bool} {L0 : List (V × D)} (h : TV G tt σ L0 C T) (s : ∀ f ∈ L0, f ∈ L) : TV G tt σ L C T := fun m F L' H Q s' w q b => h m F L' H Q (fun f hf => s' f (s f hf)) w q b
theorem EV.sub {L0 : List (V × D)} (h : EV G te σ L0 C E) (s : ∀ f ∈ L0, f ∈ L) : EV G te σ L C E := fun m F L' H Q s' w q b => h m F L' H Q (fun f hf => s' f (s f hf)) w q b
/-- one name -/
theorem ev_lc1 {wi : TI} {I : SM μ (List D)} {T : D → SM μ Bool} {E : D → SM μ D} {vs : List Nat} {σ2 : V → St} (hi : IV G wi σ L C I) (hσ : ∀ v, (wipe σ vs).set i (some v) = σ2 v) (hw : ∀ v, wipe (σ2 v) vs = wipe σ vs)
    (hT : ∀ v x, TV G tt (σ2 v) ((v, x) :: L) C (T x)) (hE : ∀ v x, EV G te (σ2 v) ((v, x) :: L) C (E x)) : EV G (tLc wi (gName i) tt te vs) σ L C (lc I T E) :=
  ev_lcG hi fun v x m F L' H Q s w _ q => by
    show Q ((wipe σ vs).set i (some v)) H
    rw [hσ]
    exact q (σ2 v) L' (fun f hf => hf) (hw v) w ((hT v x).sub s) ((hE v x).sub s)
/-- two names -/
theorem ev_lc2 {wi : TI} {I : SM μ (List D)} {T : D → D → SM μ Bool} {E : D → D → SM μ D} {vs : List Nat} {σ2 : V → V → St} (hi : IV G wi σ L C I) (hσ : ∀ v w, ((wipe σ vs).set i (some v)).set j (some w) = σ2 v w) (hw : ∀ v w, wipe (σ2 v w) vs = wipe σ vs)
    (hT : ∀ v w x y, TV G tt (σ2 v w) ((v, x) :: (w, y) :: L) C (T x y)) (hE : ∀ v w x y, EV G te (σ2 v w) ((v, x) :: (w, y) :: L) C (E x y)) : EV G (tLc wi (gTup G.K 2 (gCons (gName i) (gCons (gName j) gNil))) tt te vs) σ L C (lc I (fun z => unp2 z T) (fun z => unp2 z E)) :=
  ev_lcG hi fun v x m F L' H Q s w b q => by
    unfold unp2 at b
    split at b
    · next a c =>
      obtain ⟨p, us, rfl, hl, hlen, w2⟩ := dt_parts w (s _ (.head _))
      match us, hlen with
      | [v1, v2], _ =>
        refine ⟨p, [v1, v2], rfl, hl, rfl, v1, [v2], rfl, v2, [], rfl, rfl, ?_⟩
        show Q (((wipe σ vs).set i (some v1)).set j (some v2)) H
        rw [hσ]
        have s2 : ∀ f ∈ (v1, a) :: (v2, c) :: L, f ∈ [v1, v2].zip [a, c] ++ L' := fun f hf => by
          rcases List.mem_cons.mp hf with e | hf
          · rw [e]; exact .head _
          · rcases List.mem_cons.mp hf with e | hf
            · rw [e]; exact .tail _ (.head _)
            · exact .tail _ (.tail _ (s f (.tail _ hf)))
        exact q (σ2 v1 v2) _ (fun f hf => .tail _ (.tail _ hf)) (hw v1 v2) w2 ((hT v1 v2 a c).sub s2) ((hE v1 v2 a c).sub s2)
    · exact absurd rfl b
end
/-! ### defs: promises by mirrors -/
section
open SM
/-- a def that changes nothing -/
def SpPX (K : PySem.W.Frag) (XR : D → Value → Option Addr → Hp → Prop) (n : Nat) (mf : List D → SM Unit D) : Sp := fun vs H Q E => vs.length = n ∧ ∃ (B : Addr → Prop) (ds : List D), (∀ p, B p → ∃ o, H p = some o) ∧ DtAll K B H vs ds ∧ mf ds () ≠ .bad ∧
  (∀ x v H' B', mf ds () = .ok x () → Same H H' → (∀ p, B p → B' p) → (∀ p, B' p → B p ∨ (H p = none ∧ ∃ o, H' p = some o)) → Dt K B' H' v x → Q v H') ∧
  (∀ e cls d H', mf ds () = .exc e () → Same H H' → XR e cls d H' → E cls d H')
/-- a def that changes the list that it is handed first -/
def SpDX (K : PySem.W.Frag) (XR : D → Value → Option Addr → Hp → Prop) (n : Nat) (mf : List D → SM D D) : Sp := fun vs H Q E => vs.length = n + 1 ∧ ∃ (B : Addr → Prop) (a : Addr) (us : List V) (ds : List D) (m : D), vs = .ref a :: us ∧ (∀ p, B p → ∃ o, H p = some o) ∧ ¬ B a ∧ DtAll K B H us ds ∧ (rootL K a m).P B H ∧ mf ds m ≠ .bad ∧
  (∀ x m' v H' B', mf ds m = .ok x m' → (∀ p o, p ≠ a → H p = some o → H' p = some o) → (∀ p, B p → B' p) → (∀ p, B' p → B p ∨ (H p = none ∧ ∃ o, H' p = some o)) → Dt K B' H' v x → (rootL K a m').P B' H' → Q v H') ∧
  (∀ e m' cls d H' B', mf ds m = .exc e m' → (∀ p o, p ≠ a → H p = some o → H' p = some o) → (∀ p, B p → B' p) → (∀ p, B' p → B p ∨ (H p = none ∧ ∃ o, H' p = some o)) → XR e cls d H' → (rootL K a m').P B' H' → E cls d H')
/-- a def that makes a list of frozen items, new -/
def SpNX (K : PySem.W.Frag) (XR : D → Value → Option Addr → Hp → Prop) (n : Nat) (mf : List D → SM Unit D) : Sp := fun vs H Q E => vs.length = n ∧ ∃ (B : Addr → Prop) (ds : List D), (∀ p, B p → ∃ o, H p = some o) ∧ DtAll K B H vs ds ∧ mf ds () ≠ .bad ∧
  (∀ x a H' B', mf ds () = .ok x () → Same H H' → (∀ p, B p → B' p) → (∀ p, B' p → B p ∨ (H p = none ∧ ∃ o, H' p = some o)) → H a = none → ¬ B' a → (rootL K a x).P B' H' → Q (.ref a) H') ∧
  (∀ e cls d H', mf ds () = .exc e () → Same H H' → XR e cls d H' → E cls d H')
/-- the same of defs that raise nothing -/
def SpP (K : PySem.W.Frag) (n : Nat) (mf : List D → SM Unit D) : Sp := fun vs H Q _ => vs.length = n ∧ ∃ (B : Addr → Prop) (ds : List D) (x : D), (∀ p, B p → ∃ o, H p = some o) ∧ DtAll K B H vs ds ∧ mf ds () = .ok x () ∧
  (∀ v H' B', Same H H' → (∀ p, B p → B' p) → (∀ p, B' p → B p ∨ (H p = none ∧ ∃ o, H' p = some o)) → Dt K B' H' v x → Q v H')
def SpD (K : PySem.W.Frag) (n : Nat) (mf : List D → SM D D) : Sp := fun vs H Q _ => vs.length = n + 1 ∧ ∃ (B : Addr → Prop) (a : Addr) (us : List V) (ds : List D) (m x m' : D), vs = .ref a :: us ∧ (∀ p, B p → ∃ o, H p = some o) ∧ ¬ B a ∧ DtAll K B H us ds ∧ (rootL K a m).P B H ∧ mf ds m = .ok x m' ∧
  (∀ v H' B', (∀ p o, p ≠ a → H p = some o → H' p = some o) → (∀ p, B p → B' p) → (∀ p, B' p → B p ∨ (H p = none ∧ ∃ o, H' p = some o)) → Dt K B' H' v x → (rootL K a m').P B' H' → Q v H')
def SpN (K : PySem.W.Frag) (n : Nat) (mf : List D → SM Unit D) : Sp := fun vs H Q _ => vs.length = n ∧ ∃ (B : Addr → Prop) (ds : List D) (x : D), (∀ p, B p → ∃ o, H p = some o) ∧ DtAll K B H vs ds ∧ mf ds () = .ok x () ∧
  (∀ a H' B', Same H H' → (∀ p, B p → B' p) → (∀ p, B' p → B p ∨ (H p = none ∧ ∃ o, H' p = some o)) → H a = none → ¬ B' a → (rootL K a x).P B' H' → Q (.ref a) H')
end
namespace SM
variable {μ : Type}
def u0 (f : SM μ D) : List D → SM μ D
  | [] => f
  | _ => bad
def u1 (f : D → SM μ D) : List D → SM μ D
  | [a] => f a
  | _ => bad
def u2 (f : D → D → SM μ D) : List D → SM μ D
  | [a, b] => f a b
  | _ => bad
def u3 (f : D → D → D → SM μ D) : List D → SM μ D
  | [a, b, c] => f a b c
  | _ => bad
def u4 (f : D → D → D → D → SM μ D) : List D → SM μ D
  | [a, b, c, d] => f a b c d
  | _ => bad
def u5 (f : D → D → D → D → D → SM μ D) : List D → SM μ D
  | [a, b, c, d, e] => f a b c d e
  | _ => bad
def u6 (f : D → D → D → D → D → D → SM μ D) : List D → SM μ D
  | [a, b, c, d, e, g] => f a b c d e g
  | _ => bad
def u7 (f : D → D → D → D → D → D → D → SM μ D) : List D → SM μ D
  | [a, b, c, d, e, g, h] => f a b c d e g h
  | _ => bad
def cP (mf : List D → SM Unit D) (Es : SM μ (List D)) : SM μ D := bd Es fun xs => px (mf xs)
def cD (mf : List D → SM μ D) (Es : SM μ (List D)) : SM μ D := bd Es fun xs => qx (mf xs)
def cPX (mf : List D → SM Unit D) (Es : SM μ (List D)) : SM μ D := bd Es fun xs => p0 (mf xs)
def cDX (mf : List D → SM μ D) (Es : SM μ (List D)) : SM μ D := bd Es fun xs => mf xs
theorem u0_len {f : SM μ D} {ds : List D} {m : μ} (h : u0 f ds m ≠ .bad) : ds.length = 0 := by unfold u0 at h; split at h <;> first | rfl | exact absurd rfl h
theorem u1_len {f : D → SM μ D} {ds : List D} {m : μ} (h : u1 f ds m ≠ .bad) : ds.length = 1 := by unfold u1 at h; split at h <;> first | rfl | exact absurd rfl h
theorem u2_len {f : D → D → SM μ D} {ds : List D} {m : μ} (h : u2 f ds m ≠ .bad) : ds.length = 2 := by unfold u2 at h; split at h <;> first | rfl | exact absurd rfl h
theorem u3_len {f : D → D → D → SM μ D} {ds : List D} {m : μ} (h : u3 f ds m ≠ .bad) : ds.length = 3 := by unfold u3 at h; split at h <;> first | rfl | exact absurd rfl h
theorem u4_len {f : D → D → D → D → SM μ D} {ds : List D} {m : μ} (h : u4 f ds m ≠ .bad) : ds.length = 4 := by unfold u4 at h; split at h <;> first | rfl | exact absurd rfl h
theorem u5_len {f : D → D → D → D → D → SM μ D} {ds : List D} {m : μ} (h : u5 f ds m ≠ .bad) : ds.length = 5 := by unfold u5 at h; split at h <;> first | rfl | exact absurd rfl h
theorem u6_len {f : D → D → D → D → D → D → SM μ D} {ds : List D} {m : μ} (h : u6 f ds m ≠ .bad) : ds.length = 6 := by unfold u6 at h; split at h <;> first | rfl | exact absurd rfl h
theorem u7_len {f : D → D → D → D → D → D → D → SM μ D} {ds : List D} {m : μ} (h : u7 f ds m ≠ .bad) : ds.length = 7 := by unfold u7 at h; split at h <;> first | rfl | exact absurd rfl h
end SM
section
open SM
variable {X : Cx} {μ τ τ' ρ : Type} {G : Gx} {σ : St} {L : List (V × D)} {C Cp : μ → List Root} {te ta tb tc : TE} {tt tu : TT} {t u : TS} {E E1 E2 E3 : SM μ D} {T T1 T2 : SM μ Bool} {Jn : Shp μ τ} {Jl : Shp μ ρ} {i j : Nat} {v : V} {x : D}
theorem AV.len {ta : TA} {Es : SM μ (List D)} : True := trivial
theorem ev_cPX {ta : TA} {Es : SM μ (List D)} {mf : List D → SM Unit D} {n : Nat} (hn : ∀ ds, mf ds () ≠ .bad → ds.length = n) (h : AV G ta σ L C Es) : EV G (tCall (SpPX G.K G.XR n mf) [] G.Xk ta) σ L C (cPX mf Es) := by
  intro m F L' H Q s w q b
  refine h m F L' H _ s w (fun xs m1 vs H1 L2 e1 s2 i2 w1 => ?_) b.fst
  have b1 := b.snd e1
  have er : cPX mf Es m = p0 (mf xs) m1 := bd_ok e1
  rw [List.append_nil]
  have nb : mf xs () ≠ .bad := fun z => by
    exact b1.2 (p0_bad z)
  obtain ⟨B, wb⟩ := w1
  refine ⟨by rw [i2.len]; exact hn xs nb, B, xs, wb.bo, i2.dt wb.ft, nb, fun x v H' B' ex sm h1 h2 hd => ?_, fun e cls d H' ex sm xr => ?_⟩
  · refine q x m1 v H' ?_ ⟨B', ((wb.grow sm h1 h2).fact hd).fts fun f hf => ?_⟩
    · rw [er]
      exact p0_ok ex
    · rcases List.mem_cons.mp hf with e | e
      · subst e; exact hd
      · exact (wb.grow sm h1 h2).ft f (s2 f e)
  · refine b.1 e m1 cls d H' ?_ xr ⟨B, (wb.grow (B' := B) sm (fun _ b => b) fun _ b => .inl b).fts fun f hf => (wb.grow (B' := B) sm (fun _ b => b) fun _ b => .inl b).ft f (s2 f hf)⟩
    rw [er]
    exact p0_exc ex
/-- the first root was changed, the rest kept -/
theorem Wb.chg {K : PySem.W.Frag} {O : Og} {B B' : Addr → Prop} {L : List (V × D)} {Z : List Root} {H H' : Hp} {a : Addr} {m m' : D} (wb : Wb K O B L (rootL K a m :: Z) H) (hk : ∀ p o, p ≠ a → H p = some o → H' p = some o)
    (h1 : ∀ p, B p → B' p) (h2 : ∀ p, B' p → B p ∨ (H p = Option.none ∧ ∃ o, H' p = some o)) (hr : (rootL K a m').P B' H') : Wb K O B' L (rootL K a m' :: Z) H' := by
  have ha : ¬ B a := wb.nb a (by rw [fps_cons]; exact .head _)
  have hnd := wb.nd
  rw [fps_cons] at hnd
  have hna : a ∉ fps Z := (List.nodup_cons.mp hnd).1
  obtain ⟨_, _, _, hoc, _⟩ := wb.rt _ (.head _)
  have k : Kp B H B' H' := fun p o b e => ⟨h1 p b, hk p o (fun z => ha (by rw [← z]; exact b)) e⟩
  refine ⟨fun p b => h1 p (wb.lo p b), fun p b => ?_, wb.nd, fun p hp b => ?_, wb.fr, fun c hc => ?_, fun f hf => Dt.mono k _ _ (wb.ft f hf), fun p o hp e => ?_, fun p hp => ?_, fun p b => ?_⟩
  · rcases h2 p b with b | n
    · exact wb.hi p b
    · exact .inr (wb.none n.1)
  · rcases h2 p b with b | n
    · exact wb.nb p hp b
    · exact wb.free n.1 hp
  · rcases List.mem_cons.mp hc with e | e
    · subst e; exact hr
    · refine c.mono k (fun p hp => ?_) (wb.rt c (.tail _ e))
      obtain ⟨o, ho⟩ := c.occ (wb.rt c (.tail _ e)) p hp
      rw [ho]
      exact hk p o (fun z => hna (by rw [← z]; exact mem_fps e hp)) ho
  · by_cases z : p = a
    · subst z
      rcases wb.fr p (by rw [fps_cons]; exact .head _) with y | y
      · exact absurd y hp
      · rw [y] at e; cases e
    · exact hk p o z (wb.kp p o hp e)
  · by_cases z : p = a
    · subst z
      obtain ⟨_, vs, _, h, _⟩ := hr
      exact ⟨_, h⟩
    · obtain ⟨o, ho⟩ := wb.oc p hp
      exact ⟨o, hk p o z ho⟩
  · rcases h2 p b with b | n
    · obtain ⟨o, ho⟩ := wb.bo p b
      exact ⟨o, hk p o (fun z => ha (by rw [← z]; exact b)) ho⟩
    · exact n.2
/-- a call that changes the root, which is the state -/
theorem ev_cDX {ta : TA} {Z : List Root} {Es : SM D (List D)} {mf : List D → SM D D} {n : Nat} {a : Addr} (hσ : σ[i]? = some (some (.ref a))) (hn : ∀ ds m, mf ds m ≠ .bad → ds.length = n) (h : AV G ta σ L (fun m => rootL G.K a m :: Z) Es) :
    EV G (tCall (SpDX G.K G.XR n mf) [] G.Xk (tCons (tVar i) ta)) σ L (fun m => rootL G.K a m :: Z) (cDX mf Es) := by
  intro m F L' H Q s w q b
  refine ⟨.ref a, hσ, h m F L' H _ s w (fun xs m1 vs H1 L2 e1 s2 i2 w1 => ?_) b.fst⟩
  have b1 := b.snd e1
  have er : cDX mf Es m = mf xs m1 := bd_ok e1
  show SpDX G.K G.XR n mf ((.ref a :: vs) ++ []) H1 Q G.Xk
  rw [List.append_nil]
  obtain ⟨B, wb⟩ := w1
  have ha : ¬ B a := wb.nb a (by rw [List.cons_append, fps_cons]; exact .head _)
  refine ⟨by rw [List.length_cons, i2.len, hn xs m1 b1.2], B, a, vs, xs, m1, rfl, wb.bo, ha, i2.dt wb.ft, wb.rt _ (.head _), b1.2, fun x m' v H' B' ex hk h1 h2 hd hr => ?_, fun e m' cls d H' B' ex hk h1 h2 xr hr => ?_⟩
  · have w2 := Wb.chg (Z := Z ++ F) wb hk h1 h2 hr
    refine q x m' v H' (er.trans ex) ⟨B', ?_⟩
    refine (w2.fact hd).fts fun f hf => ?_
    rcases List.mem_cons.mp hf with e | e
    · subst e; exact hd
    · exact w2.ft f (s2 f e)
  · have w2 := Wb.chg (Z := Z ++ F) wb hk h1 h2 hr
    refine b.1 e m' cls d H' (er.trans ex) xr ⟨B', ?_⟩
    exact w2.fts fun f hf => w2.ft f (s2 f hf)
theorem ev_cP {ta : TA} {Es : SM μ (List D)} {mf : List D → SM Unit D} {n : Nat} (hn : ∀ ds, mf ds () ≠ .bad → ds.length = n) (h : AV G ta σ L C Es) : EV G (tCall (SpP G.K n mf) [] E0 ta) σ L C (cP mf Es) := by
  intro m F L' H Q s w q b
  refine h m F L' H _ s w (fun xs m1 vs H1 L2 e1 s2 i2 w1 => ?_) b.fst
  have b1 := b.snd e1
  have er : cP mf Es m = px (mf xs) m1 := bd_ok e1
  rw [List.append_nil]
  obtain ⟨x, ex⟩ := px_nb b1.2
  obtain ⟨B, wb⟩ := w1
  refine ⟨by rw [i2.len]; exact hn xs (by rw [ex]; intro z; cases z), B, xs, x, wb.bo, i2.dt wb.ft, ex, fun v H' B' sm h1 h2 hd => ?_⟩
  refine q x m1 v H' (er.trans (px_ok ex)) ⟨B', ((wb.grow sm h1 h2).fact hd).fts fun f hf => ?_⟩
  rcases List.mem_cons.mp hf with e | e
  · subst e; exact hd
  · exact (wb.grow sm h1 h2).ft f (s2 f e)
theorem ev_cP0 {mf : List D → SM Unit D} {n : Nat} (hn : ∀ ds, mf ds () ≠ .bad → ds.length = n) : EV G (fun _ H Q => SpP G.K n mf [] H Q E0) σ L C (cP mf a0) := by
  intro m F L' H Q s w q b
  have b1 : Bk G C F L' (px (mf []) m) := b.snd (a := []) (m' := m) rfl
  obtain ⟨x, ex⟩ := px_nb b1.2
  obtain ⟨B, wb⟩ := w
  refine ⟨hn [] (by rw [ex]; intro z; cases z), B, [], x, wb.bo, .nil, ex, fun v H' B' sm h1 h2 hd => ?_⟩
  exact q x m v H' (px_ok ex) ⟨B', (wb.grow sm h1 h2).fact hd⟩
theorem ev_cD {ta : TA} {Z : List Root} {Es : SM D (List D)} {mf : List D → SM D D} {n : Nat} {a : Addr} (hσ : σ[i]? = some (some (.ref a))) (hn : ∀ ds m, mf ds m ≠ .bad → ds.length = n) (h : AV G ta σ L (fun m => rootL G.K a m :: Z) Es) :
    EV G (tCall (SpD G.K n mf) [] E0 (tCons (tVar i) ta)) σ L (fun m => rootL G.K a m :: Z) (cD mf Es) := by
  intro m F L' H Q s w q b
  refine ⟨.ref a, hσ, h m F L' H _ s w (fun xs m1 vs H1 L2 e1 s2 i2 w1 => ?_) b.fst⟩
  have b1 := b.snd e1
  have er : cD mf Es m = qx (mf xs) m1 := bd_ok e1
  show SpD G.K n mf ((.ref a :: vs) ++ []) H1 Q E0
  rw [List.append_nil]
  obtain ⟨x, m', ex⟩ := qx_nb b1.2
  obtain ⟨B, wb⟩ := w1
  have ha : ¬ B a := wb.nb a (by rw [List.cons_append, fps_cons]; exact .head _)
  refine ⟨by rw [List.length_cons, i2.len, hn xs m1 (by rw [ex]; intro z; cases z)], B, a, vs, xs, m1, x, m', rfl, wb.bo, ha, i2.dt wb.ft, wb.rt _ (.head _), ex, fun v H' B' hk h1 h2 hd hr => ?_⟩
  have w2 := Wb.chg (Z := Z ++ F) wb hk h1 h2 hr
  refine q x m' v H' (er.trans (qx_ok ex)) ⟨B', (w2.fact hd).fts fun f hf => ?_⟩
  rcases List.mem_cons.mp hf with e | e
  · subst e; exact hd
  · exact w2.ft f (s2 f e)
/-! ### bodies -/
theorem in2_zip : ∀ {vs : List V} {ds : List D}, vs.length = ds.length → In2 (vs.zip ds) vs ds
  | [], [], _ => .nil
  | v :: vs, d :: ds, h => .cons (.head _) ((in2_zip (by simpa using h)).mono fun f hf => .tail _ hf)
theorem zip_dt {K : PySem.W.Frag} {B : Addr → Prop} {H : Hp} : ∀ {vs : List V} {ds : List D}, DtAll K B H vs ds → ∀ f ∈ vs.zip ds, Dt K B H f.1 f.2
  | [], _, _, f, hf => by cases hf
  | a :: r, _, h, f, hf => by
    cases h with
    | cons x y =>
      rcases List.mem_cons.mp hf with e | e
      · subst e; exact x
      · exact zip_dt y f e
/-- the body of a def that changes nothing keeps its promise -/
theorem body_PX {K : PySem.W.Frag} {XR : D → Value → Option Addr → Hp → Prop} {n : Nat} {mf : List D → SM Unit D} {ts : TS} {N : List Str} {H : Hp} {vs : List V} {Q : VK} {E : XK} (hsp : SpPX K XR n mf vs H Q E)
    (h : ∀ (ds : List D) (O : Og), vs.length = ds.length → ∃ (R : SM Unit (Fl Unit Empty)), mf ds = fin R ∧ SV ⟨K, O, E, XR⟩ (fun _ => []) ts (start N vs) (vs.zip ds) (fun _ => []) R (fun _ _ _ _ => True) (fun z _ _ _ => z.elim)) : ts { nx := fun _ H' => Q .non H', rt := Q } (start N vs) H := by
  obtain ⟨_, B, ds, hb, hd, nb, q, qx⟩ := hsp
  obtain ⟨R, hR, hS⟩ := h ds ⟨B, H, []⟩ hd.len
  have w0 : Wd K ⟨B, H, []⟩ (vs.zip ds) ([] ++ []) H := ⟨B, fun p b => b, fun p b => .inl b, List.nodup_nil, fun p hp => (by cases hp), fun p hp => (by cases hp), fun c hc => (by cases hc), zip_dt hd, fun p o _ e => e, fun p hp => (by cases hp), hb⟩
  have same : ∀ {L : List (V × D)} {C : List Root} {H' : Hp}, Wd K ⟨B, H, []⟩ L C H' → Same H H' := fun {L C H'} w p o e => by
    obtain ⟨B', wb⟩ := w
    exact wb.kp p o (by intro z; cases z) e
  refine hS () [] (vs.zip ds) H _ (fun f hf => hf) w0 ?_ ?_ ?_ ?_ ?_
  · intro s m' σ' L2 C2 H' e _ w
    have sm := same w
    obtain ⟨B', wb⟩ := w
    refine q .none .non H' B' ?_ sm wb.lo (fun p b => ?_) .non
    · rw [hR]
      exact bd_ok e
    · rcases wb.hi p b with z | z
      · exact .inl z
      · exact .inr ⟨z, wb.bo p b⟩
  · intro s; exact s.elim
  · intro s; exact s.elim
  · intro x m' v H' e w
    have sm := same w
    obtain ⟨B', wb⟩ := w
    refine q x v H' B' ?_ sm wb.lo (fun p b => ?_) (wb.ft _ (.head _))
    · rw [hR]
      exact bd_ok e
    · rcases wb.hi p b with z | z
      · exact .inl z
      · exact .inr ⟨z, wb.bo p b⟩
  · refine ⟨fun e m' cls d H' ex xr w => qx e cls d H' ?_ (same w) xr, fun z => nb ?_⟩
    · rw [hR]
      exact bd_exc ex
    · rw [hR]
      exact bd_bad z
/-- the body of a def that changes the list that it is handed first -/
theorem body_DX {K : PySem.W.Frag} {XR : D → Value → Option Addr → Hp → Prop} {n : Nat} {mf : List D → SM D D} {ts : TS} {N : List Str} {H : Hp} {vs : List V} {Q : VK} {E : XK} (hsp : SpDX K XR n mf vs H Q E)
    (h : ∀ (a : Addr) (us : List V) (ds : List D) (O : Og), vs = .ref a :: us → us.length = ds.length → ∃ (R : SM D (Fl Unit Empty)), mf ds = fin R ∧ SV ⟨K, O, E, XR⟩ (fun m => [rootL K a m]) ts (start N vs) (us.zip ds) (fun m => [rootL K a m]) R (fun _ _ _ C2 => C2 = fun m => [rootL K a m]) (fun z _ _ _ => z.elim)) : ts { nx := fun _ H' => Q .non H', rt := Q } (start N vs) H := by
  obtain ⟨_, B, a, us, ds, m, rfl, hb, hna, hd, hr, nb, q, qx⟩ := hsp
  obtain ⟨R, hR, hS⟩ := h a us ds ⟨B, H, [a]⟩ rfl hd.len
  have hoc : ∃ o, H a = some o := by
    obtain ⟨_, _, _, h, _⟩ := hr
    exact ⟨_, h⟩
  have w0 : Wd K ⟨B, H, [a]⟩ (us.zip ds) ([rootL K a m] ++ []) H := by
    refine ⟨B, fun p b => b, fun p b => .inl b, ?_, fun p hp => ?_, fun p hp => ?_, fun c hc => ?_, zip_dt hd, fun p o _ e => e, fun p hp => ?_, hb⟩
    · show [a].Nodup; simp
    · have : p = a := by simpa [fps, rootL] using hp
      subst this; exact hna
    · have : p = a := by simpa [fps, rootL] using hp
      subst this; exact .inl (.head _)
    · have : c = rootL K a m := by simpa using hc
      subst this; exact hr
    · have : p = a := by simpa using hp
      subst this; exact hoc
  have same : ∀ {L : List (V × D)} {C : List Root} {H' : Hp}, Wd K ⟨B, H, [a]⟩ L C H' → ∀ p o, p ≠ a → H p = some o → H' p = some o := fun {L C H'} w p o hp e => by
    obtain ⟨B', wb⟩ := w
    exact wb.kp p o (by simpa using hp) e
  refine hS m [] (us.zip ds) H _ (fun f hf => hf) w0 ?_ ?_ ?_ ?_ ?_
  · intro s m' σ' L2 C2 H' e hC2 w
    rw [show C2 = fun m => [rootL K a m] from hC2] at w
    have sm := same w
    obtain ⟨B', wb⟩ := w
    refine q .none m' .non H' B' ?_ sm wb.lo (fun p b => ?_) .non (wb.rt _ (.head _))
    · rw [hR]
      exact bd_ok e
    · rcases wb.hi p b with z | z
      · exact .inl z
      · exact .inr ⟨z, wb.bo p b⟩
  · intro s; exact s.elim
  · intro s; exact s.elim
  · intro x m' v H' e w
    have sm := same w
    obtain ⟨B', wb⟩ := w
    refine q x m' v H' B' ?_ sm wb.lo (fun p b => ?_) (wb.ft _ (.head _)) (wb.rt _ (.head _))
    · rw [hR]
      exact bd_ok e
    · rcases wb.hi p b with z | z
      · exact .inl z
      · exact .inr ⟨z, wb.bo p b⟩
  · refine ⟨fun e m' cls d H' ex xr w => ?_, fun z => nb ?_⟩
    · have sm := same w
      obtain ⟨B', wb⟩ := w
      refine qx e m' cls d H' B' ?_ sm wb.lo (fun p b => ?_) xr (wb.rt _ (.head _))
      · rw [hR]
        exact bd_exc ex
      · rcases wb.hi p b with z | z
        · exact .inl z
        · exact .inr ⟨z, wb.bo p b⟩
    · rw [hR]
      exact bd_bad z
theorem body_P {K : PySem.W.Frag} {n : Nat} {mf : List D → SM Unit D} {ts : TS} {N : List Str} {H : Hp} {vs : List V} {Q : VK} {E : XK} (hsp : SpP K n mf vs H Q E)
    (h : ∀ (ds : List D) (O : Og), vs.length = ds.length → ∃ (R : SM Unit (Fl Unit Empty)), mf ds = fin R ∧ SV ⟨K, O, E0, fun _ _ _ _ => True⟩ (fun _ => []) ts (start N vs) (vs.zip ds) (fun _ => []) R (fun _ _ _ _ => True) (fun z _ _ _ => z.elim)) : ts { nx := fun _ H' => Q .non H', rt := Q } (start N vs) H := by
  obtain ⟨hlen, B, ds, x, hb, hd, ex, q⟩ := hsp
  refine body_PX (K := K) (XR := fun _ _ _ _ => True) (n := n) (mf := mf) (N := N) (E := E0) ⟨hlen, B, ds, hb, hd, (by rw [ex]; intro z; cases z), fun x' v H' B' ex' sm h1 h2 hd' => ?_, fun e cls d H' ex' => ?_⟩ h
  · rw [ex] at ex'
    cases ex'
    exact q v H' B' sm h1 h2 hd'
  · rw [ex] at ex'
    cases ex'
theorem body_D {K : PySem.W.Frag} {n : Nat} {mf : List D → SM D D} {ts : TS} {N : List Str} {H : Hp} {vs : List V} {Q : VK} {E : XK} (hsp : SpD K n mf vs H Q E)
    (h : ∀ (a : Addr) (us : List V) (ds : List D) (O : Og), vs = .ref a :: us → us.length = ds.length → ∃ (R : SM D (Fl Unit Empty)), mf ds = fin R ∧ SV ⟨K, O, E0, fun _ _ _ _ => True⟩ (fun m => [rootL K a m]) ts (start N vs) (us.zip ds) (fun m => [rootL K a m]) R (fun _ _ _ C2 => C2 = fun m => [rootL K a m]) (fun z _ _ _ => z.elim)) : ts { nx := fun _ H' => Q .non H', rt := Q } (start N vs) H := by
  obtain ⟨hlen, B, a, us, ds, m, x, m', e0, hb, hna, hd, hr, ex, q⟩ := hsp
  refine body_DX (K := K) (XR := fun _ _ _ _ => True) (n := n) (mf := mf) (N := N) (E := E0) ⟨hlen, B, a, us, ds, m, e0, hb, hna, hd, hr, (by rw [ex]; intro z; cases z), fun x' m2 v H' B' ex' hk h1 h2 hd' hr' => ?_, fun e m2 cls d H' B' ex' => ?_⟩ h
  · rw [ex] at ex'
    cases ex'
    exact q v H' B' hk h1 h2 hd' hr'
  · rw [ex] at ex'
    cases ex'
end
/-! ### roots: made, changed, read, frozen -/
section
open SM
variable {X : Cx} {μ τ τ' ρ : Type} {G : Gx} {σ : St} {L : List (V × D)} {C Cp : μ → List Root} {te ta tb tc : TE} {tt tu : TT} {t u : TS} {E E1 E2 E3 : SM μ D} {T T1 T2 : SM μ Bool} {Jn : Shp μ τ} {Jl : Shp μ ρ} {i j : Nat} {v : V} {x d : D} {l : Addr}
/-- a root is frozen -/
theorem sv_freeze {R : SM μ (Fl τ ρ)} {C' : μ → List Root} (hC : ∀ m, (C m).Perm (rootL G.K l d :: C' m)) (hl : l ∉ G.O.fp) (h : SV G Cp t σ ((.ref l, d) :: L) C' R Jn Jl) : SV G Cp t σ L C R Jn Jl := by
  intro m F L' H e s w q1 q2 q3 q4 b
  have w2 : Wd G.K G.O ((.ref l, d) :: L') (C' m ++ F) H := Wd.freeze (C := C' m ++ F) (w.perm ((hC m).append_right F)) hl
  exact sv_more (L1 := [(.ref l, d)]) h s w2 q1 q2 q3 q4 b
/-- roots in another order -/
theorem sv_perm {R : SM μ (Fl τ ρ)} {C' : μ → List Root} (hC : ∀ m, (C m).Perm (C' m)) (h : SV G Cp t σ L C' R Jn Jl) : SV G Cp t σ L C R Jn Jl :=
  fun m F L' H e s w q1 q2 q3 q4 b => h m F L' H e s (w.perm ((hC m).append_right F)) q1 q2 q3 q4 b
/-- roots forgotten -/
theorem sv_drop {R : SM μ (Fl τ ρ)} {C' : μ → List Root} (hC : ∀ m, (C' m).Sublist (C m)) (h : SV G Cp t σ L C' R Jn Jl) : SV G Cp t σ L C R Jn Jl :=
  fun m F L' H e s w q1 q2 q3 q4 b => h m F L' H e s (w.subC ((hC m).append_right F)) q1 q2 q3 q4 b
/-- x = [..], a root -/
theorem sv_new {ta : TA} {Es : SM μ (List D)} {k : D → SM μ (Fl τ ρ)} {σ' : V → St} {C' : Addr → D → μ → List Root} (hc : Sub Cp C) (h : AV G ta σ L C Es) (hσ : ∀ v, σ.set i (some v) = σ' v) (hC : ∀ p d m, (rootL G.K p d :: C m).Perm (C' p d m))
    (hk : ∀ p d, p ∉ G.O.fp → SV G Cp u (σ' (.ref p)) L (C' p d) (k d) Jn Jl) : SV G Cp (tSeq (tAsg (tLst ta) (gName i)) u) σ L C (bd (opL lstD Es) k) Jn Jl := by
  refine sv_bd hc fun m F L' H d s w q b => ?_
  refine h m F L' H _ s w (fun xs m1 vs H1 L2 e1 s2 i2 w1 => ?_) b.fst
  have b1 := b.snd e1
  unfold lstD at b1
  split at b1
  · next c =>
    refine ⟨by rw [i2.len]; exact c, fun p hp => ?_⟩
    show u d (σ.set i (some (.ref p))) _
    rw [hσ]
    have hpf : p ∉ G.O.fp := by
      obtain ⟨B, wb⟩ := w1
      exact wb.nofp hp
    have w2 : Wd G.K G.O L2 (rootL G.K p (.list xs) :: (C m1 ++ F)) (upd H1 p (.lst vs)) := w1.root hp i2
    have w3 : Wd G.K G.O L2 (C' p (.list xs) m1 ++ F) (upd H1 p (.lst vs)) := w2.perm ((hC p (.list xs) m1).append_right F)
    refine q (.list xs) m1 (σ' (.ref p)) [] (C' p (.list xs)) _ ?_ (w3.sub fun f hf => s2 f hf) (hk p (.list xs) hpf)
    show bd Es _ m = _
    rw [bd_ok e1]
    show of (lstD xs) m1 = _
    unfold lstD
    rw [if_pos c]; rfl
  · exact absurd rfl b1.2
/-- the root's object -/
theorem rootAt {K : PySem.W.Frag} {O : Og} {L : List (V × D)} {Z : List Root} {H : Hp} (w : Wd K O L (rootL K l d :: Z) H) : ∃ B ds vs, Wb K O B L (rootL K l d :: Z) H ∧ d = .list ds ∧ H l = some (.lst vs) ∧ DtAll K B H vs ds := by
  obtain ⟨B, wb⟩ := w
  obtain ⟨ds, vs, h1, h2, h3⟩ := wb.rt _ (.head _)
  exact ⟨B, ds, vs, wb, h1, h2, h3⟩
theorem sv_app {k : D → SM μ (Fl τ ρ)} {Z : μ → List Root} {C' : D → μ → List Root} (hc : Sub Cp C) (hv : σ[i]? = some (some (.ref l))) (h : EV G te σ L C E) (hC : ∀ m, (C m).Perm (rootL G.K l d :: Z m)) (hC' : ∀ d' m, (rootL G.K l d' :: Z m).Perm (C' d' m))
    (hk : ∀ d', SV G Cp u σ L (C' d') (k d') Jn Jl) : SV G Cp (tSeq (tDrop (tBM G.K "list" rAppend (tVar i) (tCons te tNil))) u) σ L C (bd (bd E fun x => of (appD d x)) k) Jn Jl := by
  refine sv_bd hc fun m F L' H e s w q b => ?_
  obtain ⟨B0, ds0, vs0, wb0, rfl, h0, _⟩ := rootAt (Z := Z m ++ F) (w.perm ((hC m).append_right F))
  refine ⟨.ref l, hv, .inl ⟨rfl, vs0, SqL.of h0⟩, h m F L' H _ s w (fun x m1 v H1 e1 w1 => ?_) b.fst⟩
  have b1 := b.snd e1
  obtain ⟨B, ds, vs, wb, ed, h1, hd⟩ := rootAt (Z := Z m1 ++ F) (w1.perm ((hC m1).append_right F))
  cases ed
  simp only [appD] at b1
  split at b1
  · next c =>
    refine ⟨l, vs, v, rfl, rfl, h1, by rw [hd.len]; exact c, ?_⟩
    have w2 : Wd G.K G.O ((v, x) :: L') (rootL G.K l (.list (ds0 ++ [x])) :: (Z m1 ++ F)) (upd H1 l (.lst (vs ++ [v]))) := Wd.put ⟨B, wb⟩ fun B' f hr => by
      obtain ⟨ds', us', e6, hA5, hda5⟩ := hr
      cases e6
      rw [h1] at hA5
      cases hA5
      exact hda5.app (.cons (f _ (.head _)) .nil)
    have w3 : Wd G.K G.O ((v, x) :: L') (C' (.list (ds0 ++ [x])) m1 ++ F) (upd H1 l (.lst (vs ++ [v]))) := w2.perm ((hC' _ m1).append_right F)
    refine q (.list (ds0 ++ [x])) m1 σ [] (C' (.list (ds0 ++ [x]))) _ ?_ (w3.sub fun f hf => .tail _ hf) (hk _)
    show bd E _ m = _
    rw [bd_ok e1]
    simp only [appD]
    rw [if_pos c]; rfl
  · exact absurd rfl b1.2
theorem sv_ext {k : D → SM μ (Fl τ ρ)} {Z : μ → List Root} {C' : D → μ → List Root} (hc : Sub Cp C) (hv : σ[i]? = some (some (.ref l))) (h : EV G te σ L C E) (hC : ∀ m, (C m).Perm (rootL G.K l d :: Z m)) (hC' : ∀ d' m, (rootL G.K l d' :: Z m).Perm (C' d' m))
    (hk : ∀ d', SV G Cp u σ L (C' d') (k d') Jn Jl) : SV G Cp (tSeq (tDrop (tBM G.K "list" rExtend (tVar i) (tCons te tNil))) u) σ L C (bd (bd E fun x => of (extD d x)) k) Jn Jl := by
  refine sv_bd hc fun m F L' H e s w q b => ?_
  obtain ⟨B0, ds0, vs0, wb0, rfl, h0, _⟩ := rootAt (Z := Z m ++ F) (w.perm ((hC m).append_right F))
  refine ⟨.ref l, hv, .inl ⟨rfl, vs0, SqL.of h0⟩, h m F L' H _ s w (fun x m1 v H1 e1 w1 => ?_) b.fst⟩
  have b1 := b.snd e1
  obtain ⟨B, ds, vs, wb, ed, h1, hd⟩ := rootAt (Z := Z m1 ++ F) (w1.perm ((hC m1).append_right F))
  cases ed
  cases x with
  | list es =>
    simp only [extD] at b1
    split at b1
    · next c =>
      obtain ⟨p, us, rfl, hl, ha⟩ := Dt.lst_inv (wb.ft _ (.head _))
      refine ⟨l, p, vs, us, rfl, rfl, h1, hl.2, by rw [hd.len, ha.len]; exact c, ?_⟩
      have w2 : Wd G.K G.O ((.ref p, .list es) :: L') (rootL G.K l (.list (ds0 ++ es)) :: (Z m1 ++ F)) (upd H1 l (.lst (vs ++ us))) := Wd.put ⟨B, wb⟩ fun B' f hr => by
        obtain ⟨ds', us', e6, hA5, hda5⟩ := hr
        cases e6
        rw [h1] at hA5
        cases hA5
        obtain ⟨p', us'', e7, hl', ha'⟩ := Dt.lst_inv (f _ (.head _))
        cases e7
        have e8 := hl'.2
        rw [hl.2] at e8
        cases e8
        exact hda5.app ha'
      have w3 : Wd G.K G.O ((.ref p, .list es) :: L') (C' (.list (ds0 ++ es)) m1 ++ F) (upd H1 l (.lst (vs ++ us))) := w2.perm ((hC' _ m1).append_right F)
      refine q (.list (ds0 ++ es)) m1 σ [] (C' (.list (ds0 ++ es))) _ ?_ (w3.sub fun f hf => .tail _ hf) (hk _)
      show bd E _ m = _
      rw [bd_ok e1]
      simp only [extD]
      rw [if_pos c]; rfl
    · exact absurd rfl b1.2
  | _ => exact absurd rfl b1.2
/-- a root read at a place -/
theorem ev_ridx {Z : μ → List Root} (hv : σ[i]? = some (some (.ref l))) (h : EV G te σ L C E) (hC : ∀ m, (C m).Perm (rootL G.K l d :: Z m)) : EV G (tOp (rIx G.K) (tVar i) te) σ L C (bd E fun x => of (idxD d x)) := by
  intro m F L' H Q s w q b
  refine ⟨.ref l, hv, h m F L' H _ s w (fun x m1 v H1 e1 w1 => ?_) b.fst⟩
  have b1 := b.snd e1
  obtain ⟨B, ds, vs, wb, ed, h1, hd⟩ := rootAt (Z := Z m1 ++ F) (w1.perm ((hC m1).append_right F))
  subst ed
  cases x with
  | int n =>
    simp only [idxD] at b1
    cases ea : atI ds n with
    | none => rw [ea] at b1; exact absurd rfl b1.2
    | some y =>
      obtain ⟨v', hv', hd'⟩ := atI_dt hd ea
      refine .inl ⟨l, vs, n, v', rfl, (wb.ft _ (.head _)).int_inv, SqL.of h1, hv', q y m1 v' H1 ?_ ?_⟩
      · show bd E _ m = _
        rw [bd_ok e1]
        simp only [idxD]
        rw [ea]; rfl
      · have w2 : Wd G.K G.O ((v', y) :: (v, .int n) :: L') (rootL G.K l (.list ds) :: (Z m1 ++ F)) H1 := ⟨B, wb.fact hd'⟩
        refine (w2.perm ((hC m1).symm.append_right F)).sub fun f hf => ?_
        rcases List.mem_cons.mp hf with e | e
        · rw [e]; exact .head _
        · exact .tail _ (.tail _ e)
  | _ => exact absurd rfl b1.2
theorem ev_rlen {Z : μ → List Root} (hv : σ[i]? = some (some (.ref l))) (hC : ∀ m, (C m).Perm (rootL G.K l d :: Z m)) : EV G (tCB (fun xs H Q => ∃ x n, xs = [x] ∧ LenV G.K x H n ∧ Q (.int n) H) (tCons (tVar i) tNil)) σ L C (of (lenD [d])) := by
  intro m F L' H Q s w q b
  obtain ⟨B, ds, vs, wb, ed, h1, hd⟩ := rootAt (Z := Z m ++ F) (w.perm ((hC m).append_right F))
  subst ed
  refine ⟨.ref l, hv, .ref l, vs.length, rfl, .inl ⟨vs, SqL.of h1, rfl⟩, ?_⟩
  rw [hd.len]
  exact q _ m _ H rfl (w.fact fun _ _ => .int _)
/-! the root that is the state -/
theorem ev_sidx {Z : List Root} {E : SM D D} (hv : σ[i]? = some (some (.ref l))) (h : EV G te σ L (fun m => rootL G.K l m :: Z) E) : EV G (tOp (rIx G.K) (tVar i) te) σ L (fun m => rootL G.K l m :: Z) (bd E fun x => bd gets fun m => of (idxD m x)) := by
  intro m F L' H Q s w q b
  refine ⟨.ref l, hv, h m F L' H _ s w (fun x m1 v H1 e1 w1 => ?_) b.fst⟩
  have b1 : Bk G _ F L' (of (idxD m1 x) m1) := b.snd e1
  obtain ⟨B, ds, vs, wb, ed, h1, hd⟩ := rootAt (Z := Z ++ F) w1
  subst ed
  cases x with
  | int n =>
    simp only [idxD] at b1
    cases ea : atI ds n with
    | none => rw [ea] at b1; exact absurd rfl b1.2
    | some y =>
      obtain ⟨v', hv', hd'⟩ := atI_dt hd ea
      refine .inl ⟨l, vs, n, v', rfl, (wb.ft _ (.head _)).int_inv, SqL.of h1, hv', q y (.list ds) v' H1 ?_ ?_⟩
      · show bd E _ m = _
        rw [bd_ok e1]
        show of (idxD (.list ds) (.int n)) _ = _
        simp only [idxD]
        rw [ea]; rfl
      · have w2 : Wd G.K G.O ((v', y) :: (v, .int n) :: L') (rootL G.K l (.list ds) :: (Z ++ F)) H1 := ⟨B, wb.fact hd'⟩
        refine w2.sub fun f hf => ?_
        rcases List.mem_cons.mp hf with e | e
        · rw [e]; exact .head _
        · exact .tail _ (.tail _ e)
  | _ => exact absurd rfl b1.2
theorem sv_sset {Z : List Root} {E1 E2 : SM D D} {Cp : D → List Root} {Jn : Shp D τ} {Jl : Shp D ρ} {k : SM D (Fl τ ρ)} (hc : Sub Cp (fun m => rootL G.K l m :: Z)) (hv : σ[i]? = some (some (.ref l))) (h1 : EV G ta σ L (fun m => rootL G.K l m :: Z) E1) (h2 : EV G tb σ L (fun m => rootL G.K l m :: Z) E2)
    (hk : SV G Cp u σ L (fun m => rootL G.K l m :: Z) k Jn Jl) : SV G Cp (tSeq (tAsg ta (gSub (tVar i) tb rSetL)) u) σ L (fun m => rootL G.K l m :: Z) (bd (bd E1 fun y => bd E2 fun x => bd gets fun m => bd (of (setD m x y)) fun m' => puts m') fun _ => k) Jn Jl := by
  refine sv_bd hc fun m F L' H e s w q b => ?_
  refine h1 m F L' H _ s w (fun y m1 vy H1 e1 w1 => ?_) b.fst
  have b1 := b.snd e1
  refine ⟨.ref l, hv, h2 m1 F _ H1 _ (fun f hf => .tail _ (s f hf)) w1 (fun x m2 v H2 e2 w2 => ?_) (b1.fst.mono fun f hf => .tail _ hf)⟩
  have b2 : Bk G _ F L' (bd (of (setD m2 x y)) (fun m' => puts m') m2) := b1.snd e2
  obtain ⟨B, ds, vs, wb, ed, hl, hd⟩ := rootAt (Z := Z ++ F) w2
  subst ed
  cases x with
  | int n =>
    have hset : setD (.list ds) (.int n) y = (match ixN ds.length n with | some j => some (.list (ds.set j y)) | none => none) := rfl
    cases ea : ixN ds.length n with
    | none =>
      rw [hset, ea] at b2
      exact absurd rfl b2.2
    | some j =>
      rw [ea] at hset
      refine ⟨l, vs, n, j, rfl, (wb.ft _ (.head _)).int_inv, hl, by rw [hd.len]; exact ea, ?_⟩
      have w3 : Wd G.K G.O ((v, .int n) :: (vy, y) :: L') (rootL G.K l (.list (ds.set j y)) :: (Z ++ F)) (upd H2 l (.lst (vs.set j vy))) := Wd.put ⟨B, wb⟩ fun B' f hr => by
        obtain ⟨ds', us', e6, hA5, hda5⟩ := hr
        cases e6
        rw [hl] at hA5
        cases hA5
        exact hda5.set (f _ (.tail _ (.head _)))
      refine q () (.list (ds.set j y)) σ [] (fun m => rootL G.K l m :: Z) _ ?_ (w3.sub fun f hf => .tail _ (.tail _ hf)) hk
      show bd E1 _ m = _
      rw [bd_ok e1, bd_ok e2]
      show bd (of (setD (.list ds) (.int n) y)) _ _ = _
      rw [hset]; rfl
  | _ => exact absurd rfl b2.2
/-- a def's body that returns a new list -/
def NV (G : Gx) (ts : TS) (σ : St) (L : List (V × D)) (R : SM Unit (Fl Unit Empty)) : Prop :=
  ∀ m F L' H (d : Ends), (∀ f ∈ L, f ∈ L') → Wd G.K G.O L' ([] ++ F) H → (∀ x m' a H', R m = .ok (.rt x) m' → a ∉ G.O.fp → Wd G.K G.O L' (rootL G.K a x :: F) H' → d.rt (.ref a) H') → Bk G (fun _ => []) F L' (R m) → ts d σ H
/-- x = f(..), a new root that becomes the state -/
theorem sv_newD {ta : TA} {Es : SM D (List D)} {mf : List D → SM Unit D} {n : Nat} {Cp C : D → List Root} {Z : List Root} {Jn : Shp D τ} {Jl : Shp D ρ} {k : SM D (Fl τ ρ)} {σ' : V → St} (hc : Sub Cp C) (hZ : ∀ m, Z.Sublist (C m)) (hn : ∀ ds, mf ds () ≠ .bad → ds.length = n) (h : AV G ta σ L C Es) (hσ : ∀ v, σ.set i (some v) = σ' v)
    (hk : ∀ a, a ∉ G.O.fp → SV G Cp u (σ' (.ref a)) L (fun m => rootL G.K a m :: Z) k Jn Jl) : SV G Cp (tSeq (tAsg (tCall (SpN G.K n mf) [] E0 ta) (gName i)) u) σ L C (bd (bd (cP mf Es) fun d => puts d) fun _ => k) Jn Jl := by
  refine sv_bd hc fun m F L' H e s w q b => ?_
  refine h m F L' H _ s w (fun xs m1 vs H1 L2 e1 s2 i2 w1 => ?_) b.fst.fst
  have b1 := b.fst.snd e1
  have er : cP mf Es m = px (mf xs) m1 := bd_ok e1
  show SpN G.K n mf (vs ++ []) H1 _ E0
  rw [List.append_nil]
  obtain ⟨x, ex⟩ := px_nb b1.2
  obtain ⟨B, wb⟩ := w1
  refine ⟨by rw [i2.len]; exact hn xs (by rw [ex]; intro z; cases z), B, xs, x, wb.bo, i2.dt wb.ft, ex, fun a H' B' sm h1 h2 hna hnB hr => ?_⟩
  · show u e (σ.set i (some (.ref a))) H'
    rw [hσ]
    have wg := wb.grow sm h1 h2
    have hz : (fps (Z ++ F)).Sublist (fps (C m1 ++ F)) := fps_sub ((hZ m1).append_right F)
    have w2 : Wb G.K G.O B' L2 (rootL G.K a x :: (Z ++ F)) H' := by
      refine ⟨wg.lo, wg.hi, ?_, ?_, ?_, ?_, wg.ft, wg.kp, wg.oc, wg.bo⟩
      · rw [fps_cons]
        exact List.nodup_cons.mpr ⟨fun z => wb.free hna (hz.mem z), hz.nodup wg.nd⟩
      · intro p hp
        rw [fps_cons] at hp
        rcases List.mem_cons.mp hp with z | z
        · subst z; exact hnB
        · exact wg.nb p (hz.mem z)
      · intro p hp
        rw [fps_cons] at hp
        rcases List.mem_cons.mp hp with z | z
        · subst z; exact .inr (wb.none hna)
        · exact wg.fr p (hz.mem z)
      · intro c hc
        rcases List.mem_cons.mp hc with z | z
        · subst z; exact hr
        · exact wg.rt c (((hZ m1).append_right F).mem z)
    refine q () x (σ' (.ref a)) [] (fun m => rootL G.K a m :: Z) H' ?_ ⟨B', w2.fts fun f hf => w2.ft f (s2 f hf)⟩ (hk a (wb.nofp hna))
    show bd (cP mf Es) _ m = _
    rw [bd_ok (er.trans (px_ok ex))]; rfl
/-- the body of a def that makes a list -/
theorem body_N {K : PySem.W.Frag} {n : Nat} {mf : List D → SM Unit D} {ts : TS} {N : List Str} {H : Hp} {vs : List V} {Q : VK} {E : XK} (hsp : SpN K n mf vs H Q E)
    (h : ∀ (ds : List D) (O : Og), vs.length = ds.length → ∃ (R : SM Unit (Fl Unit Empty)), mf ds = fin R ∧ NV ⟨K, O, E0, fun _ _ _ _ => True⟩ ts (start N vs) (vs.zip ds) R) : ts { nx := fun _ H' => Q .non H', rt := Q } (start N vs) H := by
  obtain ⟨hlen, B, ds, x0, hb, hd, ex, q⟩ := hsp
  obtain ⟨R, hR, hS⟩ := h ds ⟨B, H, []⟩ hd.len
  have w0 : Wd K ⟨B, H, []⟩ (vs.zip ds) ([] ++ []) H := ⟨B, fun p b => b, fun p b => .inl b, List.nodup_nil, fun p hp => (by cases hp), fun p hp => (by cases hp), fun c hc => (by cases hc), zip_dt hd, fun p o _ e => e, fun p hp => (by cases hp), hb⟩
  rw [hR] at ex
  refine hS () [] (vs.zip ds) H _ (fun f hf => hf) w0 (fun x m' a H' e _ w => ?_) ⟨fun e m' cls d H' z => ?_, fun z => ?_⟩
  · have e2 : fin R () = .ok x m' := bd_ok e
    rw [e2] at ex
    cases ex
    obtain ⟨B', wb⟩ := w
    refine q a H' B' (fun p o e => wb.kp p o (by intro z; cases z) e) wb.lo (fun p b => ?_) ?_ (wb.nb a (.head _)) (wb.rt _ (.head _))
    · rcases wb.hi p b with z | z
      · exact .inl z
      · exact .inr ⟨z, wb.bo p b⟩
    · exact (wb.fr a (.head _)).resolve_left (by intro z; cases z)
  · have e2 : fin R () = .exc e m' := bd_exc z
    rw [e2] at ex
    cases ex
  · have e2 : fin R () = .bad := bd_bad z
    rw [e2] at ex
    cases ex
/-- return [..] of such a def -/
theorem nv_ret {ta : TA} {Es : SM Unit (List D)} (h : AV G ta σ L (fun _ => []) Es) : NV G (tSeq (tRet (tLst ta)) u) σ L (bd (opL lstD Es) fun x => pu (.rt x)) := by
  intro m F L' H d s w q b
  refine h m F L' H _ s w (fun xs m1 vs H1 L2 e1 s2 i2 w1 => ?_) b.fst.fst
  have b1 := b.fst.snd e1
  unfold lstD at b1
  split at b1
  · next c =>
    refine ⟨by rw [i2.len]; exact c, fun p hp => ?_⟩
    have hpf : p ∉ G.O.fp := by
      obtain ⟨B, wb⟩ := w1
      exact wb.nofp hp
    have w2 : Wd G.K G.O L2 (rootL G.K p (.list xs) :: F) (upd H1 p (.lst vs)) := Wd.root w1 hp i2
    refine q (.list xs) m1 p _ ?_ hpf (w2.sub fun f hf => s2 f hf)
    have e2 : opL lstD Es m = .ok (.list xs) m1 := by
      show bd Es _ m = _
      rw [bd_ok e1]
      show of (lstD xs) m1 = _
      unfold lstD
      rw [if_pos c]; rfl
    rw [bd_ok e2]; rfl
  · exact absurd rfl b1.2
theorem nv_if {A B : SM Unit (Fl Unit Empty)} {T : SM Unit Bool} {t1 t2 : TS} (h : TV G tt σ L (fun _ => []) T) (h1 : NV G (tSeq t1 u) σ L A) (h2 : NV G (tSeq t2 u) σ L B) : NV G (tSeq (tIfS tt t1 t2) u) σ L (bd T fun c => if c then A else B) :=
  fun m F L' H d s w q b => h m F L' H _ s w (fun c m1 H1 e1 w1 => by
    have er : bd T (fun c => if c then A else B) m = (if c then A else B) m1 := bd_ok e1
    rw [er] at b
    cases c with
    | true => exact h1 m1 F L' H1 d s w1 (fun x m' a H' e => q x m' a H' (er.trans e)) b
    | false => exact h2 m1 F L' H1 d s w1 (fun x m' a H' e => q x m' a H' (er.trans e)) b) b.fst
theorem nv_assoc {t1 t2 : TS} {R : SM Unit (Fl Unit Empty)} (h : NV G (tSeq t1 (tSeq t2 u)) σ L R) : NV G (tSeq (tSeq t1 t2) u) σ L R := h
theorem nv_skip {R : SM Unit (Fl Unit Empty)} (h : NV G u σ L R) : NV G (tSeq tNext u) σ L R := h
/-! ### the law -/
def sp_law (K : PySem.W.Frag) : Sp := fun vs H Q _ => ∃ (a : Addr) (ns : List Int), vs = [.ref a] ∧ SqL K H a (ns.map V.int) ∧ ns.length ≤ 63 ∧ (∀ z ∈ ns, Builtin.Int.intBits z ≤ 1048576) ∧ ∀ H', Q (.bl true) H'
theorem body_law {K : PySem.W.Frag} {ts : TS} {N : List Str} {H : Hp} {vs : List V} {Q : VK} {E : XK} (ml : D → SM D D) (hsp : sp_law K vs H Q E) (hm : ∀ ns : List Int, ns.length ≤ 63 → (∀ z ∈ ns, Builtin.Int.intBits z ≤ 1048576) → ∃ m', ml (scrD (ns.map .int)) .none = .ok (.bool true) m')
    (h : ∀ (v : V) (x : D) (O : Og), vs = [v] → ∃ (R : SM D (Fl Unit Empty)), ml x = fin R ∧ SV ⟨K, O, E0, fun _ _ _ _ => True⟩ (fun _ => []) ts (start N vs) [(v, x)] (fun _ => []) R (fun _ _ _ _ => True) (fun z _ _ _ => z.elim)) : ts { nx := fun _ H' => Q .non H', rt := Q } (start N vs) H := by
  obtain ⟨a, ns, rfl, hS, h63, hbits, q⟩ := hsp
  obtain ⟨m', em⟩ := hm ns h63 hbits
  obtain ⟨R, hR, hV⟩ := h (.ref a) (scrD (ns.map .int)) ⟨fun p => ∃ o, H p = some o, H, []⟩ rfl
  have hf : FzS K (fun p => ∃ o, H p = some o) H a (ns.map V.int) := by
    rcases hS with (z | ⟨u, z⟩) | z
    · exact .inl ⟨⟨_, z⟩, .inl z⟩
    · exact .inl ⟨⟨_, z⟩, .inr ⟨u, z⟩⟩
    · exact .inr z
  have w0 : Wd K ⟨fun p => ∃ o, H p = some o, H, []⟩ [(.ref a, scrD (ns.map .int))] ([] ++ []) H := by
    refine ⟨fun p => ∃ o, H p = some o, fun p b => b, fun p b => .inl b, List.nodup_nil, fun p hp => (by cases hp), fun p hp => (by cases hp), fun c hc => (by cases hc), fun f hf' => ?_, fun p o _ e => e, fun p hp => (by cases hp), fun p b => b⟩
    rcases List.mem_cons.mp hf' with e | e
    · subst e
      exact .scr hf (DtAll.ints ns)
    · cases e
  rw [hR] at em
  refine hV .none [] _ H _ (fun f hf => hf) w0 ?_ ?_ ?_ ?_ ?_
  · intro s m1 σ' L2 C2 H' e _ w
    have : fin R .none = .ok .none m1 := bd_ok e
    rw [this] at em
    cases em
  · intro s; exact s.elim
  · intro s; exact s.elim
  · intro x m1 v H' e w
    have : fin R .none = .ok x m1 := bd_ok e
    rw [this] at em
    cases em
    obtain ⟨B, hd⟩ := w.dt (.head _)
    rw [hd.bl_inv]
    exact q H'
  · refine ⟨fun e m1 cls d H' ex xr w => ?_, fun z => ?_⟩
    · have : fin R .none = .exc e m1 := bd_exc ex
      rw [this] at em
      cases em
    · have : fin R .none = .bad := bd_bad z
      rw [this] at em
      cases em
end
/-! ### for the printed scripts -/
section
open SM
variable {μ τ ρ : Type} {G : Gx} {σ σ' : St} {L L0 : List (V × D)} {C Cp : μ → List Root} {t : TS} {Jn : Shp μ τ} {Jl : Shp μ ρ} {f : V × D}
theorem sub0 {C : μ → List Root} : Sub (fun _ => []) C := fun _ => List.nil_sublist _
theorem sub1 {r : μ → Root} {Z : μ → List Root} : Sub (fun m => [r m]) (fun m => r m :: Z m) := fun _ => List.Sublist.cons₂ _ (List.nil_sublist _)
theorem lnil : ∀ f ∈ ([] : List (V × D)), f ∈ L := fun _ h => by cases h
theorem lcons (h : f ∈ L) (h2 : ∀ f ∈ L0, f ∈ L) : ∀ g ∈ f :: L0, g ∈ L := fun g hg => by
  rcases List.mem_cons.mp hg with e | e
  · subst e; exact h
  · exact h2 g e
theorem sv_st {R : SM μ (Fl τ ρ)} (e : σ = σ') (h : SV G Cp t σ' L C R Jn Jl) : SV G Cp t σ L C R Jn Jl := by rw [e]; exact h
theorem nv_st {R : SM Unit (Fl Unit Empty)} (e : σ = σ') (h : NV G t σ' L R) : NV G t σ L R := by rw [e]; exact h
end
namespace SM
def addI : D → D → Option D
  | .int a, .int b => some (.int (a + b))
  | _, _ => none
def subI : D → D → Option D
  | .int a, .int b => some (.int (a - b))
  | _, _ => none
end SM
section
open SM
variable {G : Gx}
theorem os_ipa : OpS G (ipI fun i j => i + j) addI := opI0_s (f := fun i j => i + j) fun d e z h => by
  cases d <;> cases e <;> simp [addI] at h
  exact ⟨_, _, rfl, rfl, h.symm⟩
theorem os_ips : OpS G (ipI fun i j => i - j) subI := opI0_s (f := fun i j => i - j) fun d e z h => by
  cases d <;> cases e <;> simp [subI] at h
  exact ⟨_, _, rfl, rfl, h.symm⟩
end
/-! ### a list made on the way, handed to a def that changes it; a list made and kept as data -/
namespace SM
variable {μ α : Type}
/-- a thing whose state is d, which nobody has behind it -/
def wth (d : D) (x : SM D α) : SM μ α := fun m => match x d with
  | .ok a _ => .ok a m
  | _ => .bad
def cDN (mn : List D → SM Unit D) (Ns : SM μ (List D)) (mf : List D → SM D D) (Es : SM μ (List D)) : SM μ D := bd (cP mn Ns) fun d => bd Es fun xs => wth d (mf xs)
theorem wth_ok {d d' : D} {x : SM D α} {a : α} {m : μ} (h : x d = .ok a d') : wth d x m = .ok a m := by unfold wth; rw [h]
theorem wth_nb {d : D} {x : SM D α} {m : μ} (h : (wth d x : SM μ α) m ≠ .bad) : ∃ a d', x d = .ok a d' := by
  unfold wth at h
  cases e : x d with
  | ok a u => exact ⟨a, u, rfl⟩
  | exc e' u => rw [e] at h; exact absurd rfl h
  | bad => rw [e] at h; exact absurd rfl h
end SM
section
open SM
variable {μ : Type} {G : Gx} {σ : St} {L : List (V × D)} {C : μ → List Root}
theorem Bk.frm {α : Type} {C : μ → List Root} {F F' : List Root} {L : List (V × D)} {r : Rs μ α} (h : Bk G C F L r) (s : F.Sublist F') : Bk G C F' L r := ⟨fun e m' cls d H' q x w => h.1 e m' cls d H' q x (w.subC (s.append_left _)), h.2⟩
/-- a new root beside what stands -/
theorem Wb.newr {K : PySem.W.Frag} {O : Og} {B B' : Addr → Prop} {L : List (V × D)} {Z : List Root} {H H' : Hp} {a : Addr} {x : D} (wb : Wb K O B L Z H) (sm : Same H H') (h1 : ∀ p, B p → B' p) (h2 : ∀ p, B' p → B p ∨ (H p = Option.none ∧ ∃ o, H' p = some o)) (hna : H a = Option.none) (hnB : ¬ B' a) (hr : (rootL K a x).P B' H') : Wb K O B' L (rootL K a x :: Z) H' := by
  have wg := wb.grow sm h1 h2
  refine ⟨wg.lo, wg.hi, ?_, ?_, ?_, ?_, wg.ft, wg.kp, wg.oc, wg.bo⟩
  · rw [fps_cons]
    exact List.nodup_cons.mpr ⟨fun z => wb.free hna z, wg.nd⟩
  · intro p hp
    rw [fps_cons] at hp
    rcases List.mem_cons.mp hp with z | z
    · subst z; exact hnB
    · exact wg.nb p z
  · intro p hp
    rw [fps_cons] at hp
    rcases List.mem_cons.mp hp with z | z
    · subst z; exact .inr (wb.none hna)
    · exact wg.fr p z
  · intro c hc
    rcases List.mem_cons.mp hc with z | z
    · subst z; exact hr
    · exact wg.rt c z
theorem ev_cDN {ta tn : TA} {Es Ns : SM μ (List D)} {mf : List D → SM D D} {mn : List D → SM Unit D} {n k : Nat} (hk : ∀ ds, mn ds () ≠ .bad → ds.length = k) (hn : ∀ ds m, mf ds m ≠ .bad → ds.length = n) (h0 : AV G tn σ L C Ns) (h : AV G ta σ L C Es) :
    EV G (tCall (SpD G.K n mf) [] E0 (tCons (tCall (SpN G.K k mn) [] E0 tn) ta)) σ L C (cDN mn Ns mf Es) := by
  intro m F L' H Q s w q b
  refine h0 m F L' H _ s w (fun ys m1 us H1 L2 e1 s2 i2 w1 => ?_) b.fst.fst
  have b0 : Bk G C F L' (px (mn ys) m1) := b.fst.snd e1
  show SpN G.K k mn (us ++ []) H1 _ E0
  rw [List.append_nil]
  obtain ⟨d, ed⟩ := px_nb b0.2
  have ed1 : cP mn Ns m = .ok d m1 := (bd_ok e1).trans (px_ok ed)
  have b1 := b.snd ed1
  obtain ⟨B, wb⟩ := w1
  refine ⟨by rw [i2.len]; exact hk ys (by rw [ed]; intro z; cases z), B, ys, d, wb.bo, i2.dt wb.ft, ed, fun a H2 B2 sm g1 g2 hna hnB hr => ?_⟩
  have w2 : Wd G.K G.O L2 (rootL G.K a d :: (C m1 ++ F)) H2 := ⟨B2, wb.newr sm g1 g2 hna hnB hr⟩
  have w3 : Wd G.K G.O L2 (C m1 ++ (rootL G.K a d :: F)) H2 := w2.perm List.perm_middle.symm
  refine h m1 (rootL G.K a d :: F) L2 H2 _ (fun f hf => s2 f (s f hf)) w3 (fun xs m2 vs H3 L3 e2 s3 i3 w4 => ?_) ((b1.fst.mono s2).frm (List.sublist_cons_self _ _))
  have b2 : Bk G C F L' (wth d (mf xs) m2) := b1.snd e2
  obtain ⟨x, d', ex⟩ := wth_nb b2.2
  show SpD G.K n mf ((.ref a :: vs) ++ []) H3 Q E0
  rw [List.append_nil]
  obtain ⟨B3, wb3⟩ := w4.perm List.perm_middle
  have ha : ¬ B3 a := wb3.nb a (by rw [fps_cons]; exact .head _)
  refine ⟨by rw [List.length_cons, i3.len, hn xs d (by rw [ex]; intro z; cases z)], B3, a, vs, xs, d, x, d', rfl, wb3.bo, ha, i3.dt wb3.ft, wb3.rt _ (.head _), ex, fun v H' B' hk' h1 h2 hd hr' => ?_⟩
  have w5 := Wb.chg (Z := C m2 ++ F) wb3 hk' h1 h2 hr'
  have w6 : Wd G.K G.O ((v, x) :: L') (rootL G.K a d' :: (C m2 ++ F)) H' := ⟨B', (w5.fact hd).fts fun f hf => by
    rcases List.mem_cons.mp hf with e | e
    · subst e; exact hd
    · exact w5.ft f (s3 f (s2 f e))⟩
  refine q x m2 v H' ?_ (w6.subC (List.sublist_cons_self _ _))
  rw [show cDN mn Ns mf Es m = bd Es (fun xs => wth d (mf xs)) m1 from bd_ok ed1, bd_ok e2]
  exact wth_ok ex
end
/-- a test by a value's truth, its text named (for blocks of their own) -/
def tTru (K : PySem.W.Frag) (te : TE) : TT := fun σ H Q => te σ H fun x H' => ∃ k, TruV K x H' k ∧ Q k H'
/-! ### a list of lists of one's own -/
section
variable {K : PySem.W.Frag} {O : Og} {B B' : Addr → Prop} {L L' : List (V × D)} {C C' Z F : List Root} {H H' : Hp} {a p : Addr}
/-- roots are changed within their own places -/
theorem Wb.swap (w : Wb K O B L (C ++ Z) H) (hfp : (fps C).Perm (fps C')) (hk : ∀ q, q ∉ fps C → H' q = H q) (hoc : ∀ q ∈ fps C, ∃ o, H' q = some o) (hr : Kp B H B H' → ∀ c ∈ C', c.P B H') : Wb K O B L (C' ++ Z) H' := by
  have hnd := w.nd
  rw [fps_app] at hnd
  obtain ⟨n1, n2, n3⟩ := List.nodup_append.mp hnd
  have hC : ∀ q ∈ fps C, q ∈ fps (C ++ Z) := fun q hq => by rw [fps_app]; exact List.mem_append.mpr (.inl hq)
  have hZ : ∀ q ∈ fps Z, q ∈ fps (C ++ Z) := fun q hq => by rw [fps_app]; exact List.mem_append.mpr (.inr hq)
  have hm : ∀ q ∈ fps (C' ++ Z), q ∈ fps (C ++ Z) := fun q hq => by
    rw [fps_app] at hq
    rcases List.mem_append.mp hq with e | e
    · exact hC q (hfp.mem_iff.mpr e)
    · exact hZ q e
  have k : Kp B H B H' := fun q o b e => ⟨b, by rw [hk q fun z => w.nb q (hC q z) b]; exact e⟩
  refine ⟨w.lo, w.hi, ?_, fun q hq => w.nb q (hm q hq), fun q hq => w.fr q (hm q hq), fun c hc => ?_, fun f hf => Dt.mono k _ _ (w.ft f hf), fun q o hq e => ?_, fun q hq => ?_, fun q b => ?_⟩
  · rw [fps_app]
    exact List.nodup_append.mpr ⟨hfp.nodup_iff.mp n1, n2, fun x hx y hy => n3 x (hfp.mem_iff.mpr hx) y hy⟩
  · rcases List.mem_append.mp hc with e | e
    · exact hr k c e
    · refine c.mono k (fun q hq => hk q fun z => n3 q z q (mem_fps e hq) rfl) (w.rt c (List.mem_append.mpr (.inr e)))
  · by_cases z : q ∈ fps C
    · rcases w.fr q (hC q z) with y | y
      · exact absurd y hq
      · rw [y] at e; cases e
    · rw [hk q z]; exact w.kp q o hq e
  · by_cases z : q ∈ fps C
    · exact hoc q z
    · rw [hk q z]; exact w.oc q hq
  · rw [hk q fun z => w.nb q (hC q z) b]; exact w.bo q b
/-- lists at ps, their items frozen -/
inductive Rws (K : PySem.W.Frag) (B : Addr → Prop) (H : Hp) : List Addr → List D → Prop
  | nil : Rws K B H [] []
  | cons {p : Addr} {ps : List Addr} {vs : List V} {ds : List D} {rs : List D} : H p = some (.lst vs) → DtAll K B H vs ds → Rws K B H ps rs → Rws K B H (p :: ps) (.list ds :: rs)
theorem Rws.mono (k : Kp B H B' H') : ∀ {ps : List Addr} {rs : List D}, (∀ q ∈ ps, H' q = H q) → Rws K B H ps rs → Rws K B' H' ps rs
  | _, _, _, .nil => .nil
  | p :: _, _, e, .cons h d r => .cons (by rw [e p (.head _)]; exact h) (Dt.monoAll k _ _ d) (Rws.mono k (fun q hq => e q (.tail _ hq)) r)
theorem Rws.occ : ∀ {ps : List Addr} {rs : List D}, Rws K B H ps rs → ∀ q ∈ ps, ∃ o, H q = some o
  | _, _, .nil, q, hq => by cases hq
  | _, _, .cons h d r, q, hq => by
    rcases List.mem_cons.mp hq with e | e
    · subst e; exact ⟨_, h⟩
    · exact r.occ q e
theorem Rws.len : ∀ {ps : List Addr} {rs : List D}, Rws K B H ps rs → ps.length = rs.length
  | _, _, .nil => rfl
  | _, _, .cons h d r => by rw [List.length_cons, List.length_cons, r.len]
theorem Rws.app : ∀ {ps : List Addr} {rs : List D} {p : Addr} {vs : List V} {ds : List D}, Rws K B H ps rs → H p = some (.lst vs) → DtAll K B H vs ds → Rws K B H (ps ++ [p]) (rs ++ [.list ds])
  | _, _, _, _, _, .nil, h, d => .cons h d .nil
  | _, _, _, _, _, .cons h' d' r, h, d => .cons h' d' (r.app h d)
theorem Rws.get : ∀ {ps : List Addr} {rs : List D} {i : Nat} {d : D}, Rws K B H ps rs → rs[i]? = some d → ∃ p vs ds, ps[i]? = some p ∧ d = .list ds ∧ H p = some (.lst vs) ∧ DtAll K B H vs ds
  | _, _, i, d, .nil, e => by cases e
  | _, _, 0, d, .cons h d' r, e => by cases e; exact ⟨_, _, _, rfl, rfl, h, d'⟩
  | _, _, i + 1, d, .cons h d' r, e => by
    obtain ⟨p, vs, ds, a1, a2, a3, a4⟩ := r.get (i := i) e
    exact ⟨p, vs, ds, a1, a2, a3, a4⟩
/-- the row at i is changed -/
theorem Rws.set (k : Kp B H B H') : ∀ {ps : List Addr} {rs : List D} {i : Nat} {p : Addr} {vs : List V} {ds : List D}, ps.Nodup → ps[i]? = some p → (∀ q, q ≠ p → H' q = H q) → H' p = some (.lst vs) → DtAll K B H' vs ds → Rws K B H ps rs → Rws K B H' ps (rs.set i (.list ds))
  | _, _, i, p, _, _, _, hi, _, _, _, .nil => by cases hi
  | _, _, 0, p, vs, ds, hn, hi, hq, hp, hd, .cons h d r => by
    cases hi
    exact .cons hp hd (r.mono k fun q hq' => hq q fun z => (List.nodup_cons.mp hn).1 (by rw [← z]; exact hq'))
  | p0 :: _, _, i + 1, p, vs, ds, hn, hi, hq, hp, hd, .cons h d r => by
    refine .cons ?_ (Dt.monoAll k _ _ d) (Rws.set k (i := i) (List.nodup_cons.mp hn).2 hi hq hp hd r)
    rw [hq p0 fun z => (List.nodup_cons.mp hn).1 (by rw [z]; exact List.mem_of_getElem? hi)]
    exact h
theorem Rws.dt (hb : ∀ p, B p → B' p) : ∀ {ps : List Addr} {rs : List D}, (∀ q ∈ ps, B' q) → Rws K B H ps rs → DtAll K B' H (ps.map .ref) rs
  | _, _, _, .nil => .nil
  | p :: _, _, e, .cons h d r => .cons (.lst ⟨e p (.head _), h⟩ (Dt.monoAll (fun q o b z => ⟨hb q b, z⟩) _ _ d)) (Rws.dt hb (fun q hq => e q (.tail _ hq)) r)
/-- a list at a of the lists at ps -/
def rootLL (K : PySem.W.Frag) (a : Addr) (ps : List Addr) (d : D) : Root where
  fp := a :: ps
  P := fun B H => ∃ rs, d = .list rs ∧ H a = some (.lst (ps.map .ref)) ∧ Rws K B H ps rs
  mono := fun k e h => by
    obtain ⟨rs, h1, h2, h3⟩ := h
    exact ⟨rs, h1, by rw [e a (.head _)]; exact h2, h3.mono k fun q hq => e q (.tail _ hq)⟩
  occ := fun h q hq => by
    obtain ⟨rs, h1, h2, h3⟩ := h
    rcases List.mem_cons.mp hq with z | z
    · subst z; exact ⟨_, h2⟩
    · exact h3.occ q z
/-- the rows are frozen -/
theorem Wd.half {ps : List Addr} {d : D} (w : Wd K O L (rootLL K a ps d :: Z) H) (ho : ∀ q ∈ ps, q ∉ O.fp) : Wd K O L (rootL K a d :: Z) H := by
  obtain ⟨B, w⟩ := w
  have hnd := w.nd
  rw [fps_cons] at hnd
  obtain ⟨n1, n2, n3⟩ := List.nodup_append.mp hnd
  obtain ⟨rs, rfl, h0, h1⟩ := w.rt _ (.head _)
  have k : Kp B H (fun q => B q ∨ q ∈ ps) H := fun q o b e => ⟨.inl b, e⟩
  have hps : ∀ q ∈ ps, q ∈ fps (rootLL K a ps (.list rs) :: Z) := fun q hq => by
    rw [fps_cons]
    exact List.mem_append.mpr (.inl (.tail _ hq))
  have hsub : ∀ q ∈ fps (rootL K a (.list rs) :: Z), q ∈ fps (rootLL K a ps (.list rs) :: Z) := fun q hq => by
    rw [fps_cons] at hq ⊢
    rcases List.mem_append.mp hq with e | e
    · rw [List.mem_singleton.mp e]
      exact List.mem_append.mpr (.inl (.head _))
    · exact List.mem_append.mpr (.inr e)
  refine ⟨fun q => B q ∨ q ∈ ps, fun q b => .inl (w.lo q b), fun q b => ?_, ?_, fun q hq b => ?_, fun q hq => w.fr q (hsub q hq), fun c hc => ?_, fun f hf => Dt.mono k _ _ (w.ft f hf), w.kp, w.oc, fun q b => ?_⟩
  · rcases b with b | e
    · exact w.hi q b
    · exact .inr ((w.fr q (hps q e)).resolve_left (ho q e))
  · rw [fps_cons]
    exact List.nodup_cons.mpr ⟨fun z => n3 a (.head _) a z rfl, n2⟩
  · rcases b with b | e
    · exact w.nb q (hsub q hq) b
    · rw [fps_cons] at hq
      rcases List.mem_append.mp hq with z | z
      · rw [List.mem_singleton.mp z] at e
        exact (List.nodup_cons.mp n1).1 e
      · exact n3 q (.tail _ e) q z rfl
  · rcases List.mem_cons.mp hc with e | e
    · subst e
      exact ⟨rs, _, rfl, h0, h1.dt (fun _ b => .inl b) fun q hq => .inr hq⟩
    · exact c.mono k (fun _ _ => rfl) (w.rt c (.tail _ e))
  · rcases b with b | e
    · exact w.bo q b
    · exact h1.occ q e
/-- a row more -/
theorem Wb.row {ps : List Addr} {rs ds : List D} {ys : List V} (w : Wb K O B L (rootLL K a ps (.list rs) :: Z) H) (hp : H p = Option.none) (hd : DtAll K B H ys ds) : Wb K O B L (rootLL K a (ps ++ [p]) (.list (rs ++ [.list ds])) :: Z) (upd (upd H p (.lst ys)) a (.lst (ps.map .ref ++ [.ref p]))) := by
  have s : Same H (upd H p (.lst ys)) := fun b u q => by rw [upd_ne (ne_of_none q hp)]; exact q
  have nb : ¬ B p := fun b => by
    obtain ⟨o, ho⟩ := w.bo p b
    rw [ho] at hp; cases hp
  have w2 := w.newr (x := .list ds) s (fun _ b => b) (fun _ b => .inl b) hp nb ⟨ds, ys, rfl, upd_same, Dt.monoAll (fun q o b e => ⟨b, s q o e⟩) _ _ hd⟩
  have hpa : p ≠ a := fun z => by
    have := w.free hp
    rw [z, fps_cons] at this
    exact this (List.mem_append.mpr (.inl (.head _)))
  obtain ⟨rs', e1, h1, h2⟩ := w2.rt _ (.tail _ (.head _))
  cases e1
  have hfa : a ∉ ps := by
    have := w.nd
    rw [fps_cons] at this
    exact (List.nodup_cons.mp (List.nodup_append.mp this).1).1
  refine Wb.swap (C := [rootL K p (.list ds), rootLL K a ps (.list rs)]) (C' := [rootLL K a (ps ++ [p]) (.list (rs ++ [.list ds]))]) w2 ?_ ?_ ?_ ?_
  · show (p :: (a :: ps ++ [])).Perm (a :: (ps ++ [p]) ++ [])
    rw [List.append_nil, List.append_nil]
    exact (List.Perm.swap _ _ _).trans ((List.perm_append_singleton p ps).symm.cons _)
  · intro q hq
    exact upd_ne fun z => hq (by rw [z]; exact .tail _ (.head _))
  · intro q hq
    by_cases z : q = a
    · subst z; exact ⟨_, upd_same⟩
    · rw [upd_ne z]
      have hq2 : q = p ∨ q ∈ a :: ps := by simpa [fps, rootL, rootLL] using hq
      rcases hq2 with e | e
      · subst e; exact ⟨_, upd_same⟩
      · exact h2.occ q ((List.mem_cons.mp e).resolve_left z)
  · intro k c hc
    rw [List.mem_singleton.mp hc]
    refine ⟨_, rfl, by rw [upd_same, List.map_append]; rfl, ?_⟩
    refine Rws.app (h2.mono k fun q hq => upd_ne fun z => hfa (by rw [← z]; exact hq)) (by rw [upd_ne hpa]; exact upd_same) (Dt.monoAll k _ _ (Dt.monoAll (fun q o b e => ⟨b, s q o e⟩) _ _ hd))
end
section
open SM
variable {X : Cx} {μ τ τ' ρ : Type} {G : Gx} {σ : St} {L : List (V × D)} {C Cp : μ → List Root} {te ta tb tc : TE} {tt tu : TT} {t u : TS} {E E1 E2 E3 : SM μ D} {T T1 T2 : SM μ Bool} {Jn : Shp μ τ} {Jl : Shp μ ρ} {i j : Nat} {v : V} {x d : D} {l : Addr} {ps : List Addr}
/-- x = [list(r) for r in e] -/
theorem sv_copies {wi : TI} {I : SM μ (List D)} {ws : List Nat} {k : D → SM μ (Fl τ ρ)} {σ' σ2 : V → St} {C' : Addr → List Addr → D → μ → List Root} (hc : Sub Cp C) (hi : IV G wi σ L C I) (h2 : ∀ v, (wipe σ ws).set j (some v) = σ2 v) (h3 : ∀ v, (σ2 v)[j]? = some (some v)) (h4 : ∀ v, wipe (σ2 v) ws = wipe σ ws)
    (hσ : ∀ v, σ.set i (some v) = σ' v) (hC : ∀ p ps d m, (rootLL G.K p ps d :: C m).Perm (C' p ps d m)) (hk : ∀ p ps d, p ∉ G.O.fp → (∀ q ∈ ps, q ∉ G.O.fp) → SV G Cp u (σ' (.ref p)) L (C' p ps d) (k d) Jn Jl) :
    SV G Cp (tSeq (tAsg (tLc wi (gName j) tYes (tCB (fun xs H Q => ∃ p ys, xs = [.ref p] ∧ (SqL G.K H p ys ∨ SqT G.K H p ys) ∧ ∀ l, H l = none → Q (.ref l) (upd H l (.lst ys))) (tCons (tVar j) tNil)) ws) (gName i)) u) σ L C (bd (lc I (fun _ => pu true) (fun x => opL listD (ac (pu x) a0))) k) Jn Jl := by
  refine sv_bd hc fun m F L' H e s w q bk => ?_
  refine hi m F L' H _ s w (fun xs m1 It H1 L1 e1 s1 w1 hit => ?_) bk.fst
  have b1 := bk.snd e1
  intro A hA
  have hAO : A ∉ G.O.fp := by
    obtain ⟨B, wb⟩ := w1
    exact wb.nofp hA
  have w0 : Wd G.K G.O L1 (C m1 ++ (rootLL G.K A [] (.list []) :: F)) (upd H1 A (.lst [])) := by
    obtain ⟨B, wb⟩ := (w1.acc hA).perm List.perm_middle
    refine Wd.perm (C := rootLL G.K A [] (.list []) :: (C m1 ++ F)) ⟨B, Wb.swap (C := [rootL G.K A (.list [])]) (C' := [rootLL G.K A [] (.list [])]) wb (.refl _) (fun _ _ => rfl) (fun q hq => ?_) fun _ c hc => ?_⟩ List.perm_middle.symm
    · have : q = A := by simpa [fps, rootL] using hq
      subst this; exact ⟨_, upd_same⟩
    · rw [List.mem_singleton.mp hc]
      exact ⟨[], rfl, upd_same, .nil⟩
  refine ⟨fun i n H' => n = xs.length - i ∧ i ≤ xs.length ∧ ∃ acc ps, lcS (fun _ => pu true) (fun x => opL listD (ac (pu x) a0)) xs [] m1 = lcS (fun _ => pu true) (fun x => opL listD (ac (pu x) a0)) (xs.drop i) acc m1 ∧ (∀ q ∈ ps, q ∉ G.O.fp) ∧ Wd G.K G.O L1 (C m1 ++ (rootLL G.K A ps (.list acc) :: F)) H', ⟨xs.length, by simp, Nat.zero_le _, [], [], rfl, fun q hq => (by cases hq), w0⟩, ?_⟩
  rintro i n H' ⟨rfl, hin, acc, ps, ez, ho, wz⟩
  have hI := hit _ _ _ (fun f hf => hf) wz i
  by_cases hlt : i < xs.length
  · have hx : xs[i]? = some xs[i] := List.getElem?_eq_getElem hlt
    obtain ⟨go, hy⟩ := hI.1 _ hx
    rw [forS_step hx] at ez
    refine .inr ⟨go, fun H'' => ∃ acc ps, lcS (fun _ => pu true) (fun x => opL listD (ac (pu x) a0)) xs [] m1 = lcS (fun _ => pu true) (fun x => opL listD (ac (pu x) a0)) (xs.drop (i + 1)) acc m1 ∧ (∀ q ∈ ps, q ∉ G.O.fp) ∧ Wd G.K G.O L1 (C m1 ++ (rootLL G.K A ps (.list acc) :: F)) H'', fun H'' hN => ⟨xs.length - (i + 1), by omega, rfl, hlt, hN⟩, fun v H2 y => ?_⟩
    have w2 := hy v H2 y
    have b2 : Bk G C F L' (lcS (fun _ => pu true) (fun x => opL listD (ac (pu x) a0)) (xs[i] :: xs.drop (i + 1)) acc m1) := by
      have := b1.fst
      rw [ez] at this
      exact this
    have e4 : lcS (fun _ => pu true) (fun x => opL listD (ac (pu x) a0)) (xs[i] :: xs.drop (i + 1)) acc m1 = (bd (of (listD [xs[i]])) fun y => if acc.length < sizeLine then lcS (fun _ => pu true) (fun x => opL listD (ac (pu x) a0)) (xs.drop (i + 1)) (acc ++ [y]) else bad) m1 := rfl
    rw [e4] at b2
    show wipe ((wipe σ ws).set j (some v)) ws = wipe σ ws ∧ _
    rw [h2]
    refine ⟨h4 v, ?_⟩
    refine ⟨v, h3 v, ?_⟩
    obtain ⟨B, wb⟩ := w2.perm List.perm_middle
    -- the row's items
    have row : ∃ p ys ds, v = .ref p ∧ (SqL G.K H2 p ys ∨ SqT G.K H2 p ys) ∧ DtAll G.K B H2 ys ds ∧ listD [xs[i]] = some (.list ds) := by
      have hd := wb.ft _ (.head _)
      generalize hxi : xs[i] = xi at hd b2
      cases xi with
      | list ds =>
        obtain ⟨p, ys, rfl, hl, ha⟩ := Dt.lst_inv hd
        exact ⟨p, ys, ds, rfl, .inl hl.sq, ha, rfl⟩
      | tuple ds =>
        obtain ⟨p, ys, rfl, hl, ha⟩ := Dt.tup_inv hd
        exact ⟨p, ys, ds, rfl, .inr hl.sq, ha, rfl⟩
      | _ => exact absurd rfl b2.2
    obtain ⟨p, ys, ds, rfl, hsq, hda, hls⟩ := row
    refine ⟨p, ys, rfl, hsq, fun r hr => ?_⟩
    obtain ⟨rs0, e0, h0, hrw⟩ := wb.rt _ (.head _)
    cases e0
    have hrA : r ≠ A := fun z => by
      rw [z, h0] at hr; cases hr
    rw [hls] at b2
    have b3 : Bk G C F L' ((if acc.length < sizeLine then lcS (fun _ => pu true) (fun x => opL listD (ac (pu x) a0)) (xs.drop (i + 1)) (acc ++ [.list ds]) else bad) m1) := b2
    by_cases hz : acc.length < sizeLine
    · refine ⟨ps.map .ref, by rw [upd_ne (Ne.symm hrA)]; exact h0, by rw [List.length_map, hrw.len]; exact hz, acc ++ [.list ds], ps ++ [r], ez.trans ?_, fun q hq => ?_, ?_⟩
      · rw [e4, hls]
        show (fun y => if acc.length < sizeLine then lcS (fun _ => pu true) (fun x => opL listD (ac (pu x) a0)) (xs.drop (i + 1)) (acc ++ [y]) else bad) (.list ds) m1 = _
        simp only [hz, if_true]
      · rcases List.mem_append.mp hq with z | z
        · exact ho q z
        · rw [List.mem_singleton.mp z]
          exact wb.nofp hr
      · have w4 := wb.row hr hda
        exact (Wd.perm (C := rootLL G.K A (ps ++ [r]) (.list (acc ++ [.list ds])) :: (C m1 ++ F)) ⟨B, w4⟩ List.perm_middle.symm).sub fun f hf => .tail _ hf
    · rw [if_neg hz] at b3
      exact absurd rfl b3.2
  · have ei : i = xs.length := by omega
    subst ei
    rw [List.drop_length] at ez
    refine .inl ⟨hI.2 (Nat.le_refl _), ?_⟩
    show u e (σ.set _ (some (.ref A))) H'
    rw [hσ]
    have w5 : Wd G.K G.O L1 (C' A ps (.list acc) m1 ++ F) H' := (wz.perm List.perm_middle).perm ((hC A ps (.list acc) m1).append_right F)
    refine q (.list acc) m1 (σ' (.ref A)) [] (C' A ps (.list acc)) H' ?_ (w5.sub fun f hf => s1 f hf) (hk A ps (.list acc) hAO ho)
    show bd I _ m = _
    rw [bd_ok e1]
    show bd (lcS _ _ xs []) _ m1 = _
    rw [bd_ok (show lcS (fun _ => pu true) (fun x => opL listD (ac (pu x) a0)) xs [] m1 = .ok acc m1 from ez)]; rfl
theorem sv_half {R : SM μ (Fl τ ρ)} {Z : μ → List Root} {C' : μ → List Root} (hC : ∀ m, (C m).Perm (rootLL G.K l ps d :: Z m)) (hC' : ∀ m, (rootL G.K l d :: Z m).Perm (C' m)) (ho : ∀ q ∈ ps, q ∉ G.O.fp) (h : SV G Cp t σ L C' R Jn Jl) : SV G Cp t σ L C R Jn Jl :=
  fun m F L' H e s w q1 q2 q3 q4 b => h m F L' H e s (((w.perm ((hC m).append_right F)).half ho).perm ((hC' m).append_right F)) q1 q2 q3 q4 b
theorem rootLLAt {K : PySem.W.Frag} {O : Og} {L : List (V × D)} {Z : List Root} {H : Hp} (w : Wd K O L (rootLL K l ps d :: Z) H) : ∃ B rs, Wb K O B L (rootLL K l ps d :: Z) H ∧ d = .list rs ∧ H l = some (.lst (ps.map .ref)) ∧ Rws K B H ps rs := by
  obtain ⟨B, wb⟩ := w
  obtain ⟨rs, h1, h2, h3⟩ := wb.rt _ (.head _)
  exact ⟨B, rs, wb, h1, h2, h3⟩
theorem ev_rlenLL {Z : μ → List Root} (hv : σ[i]? = some (some (.ref l))) (hC : ∀ m, (C m).Perm (rootLL G.K l ps d :: Z m)) : EV G (tCB (fun xs H Q => ∃ x n, xs = [x] ∧ LenV G.K x H n ∧ Q (.int n) H) (tCons (tVar i) tNil)) σ L C (of (lenD [d])) := by
  intro m F L' H Q s w q b
  obtain ⟨B, rs, wb, ed, h1, hd⟩ := rootLLAt (Z := Z m ++ F) (w.perm ((hC m).append_right F))
  subst ed
  refine ⟨.ref l, hv, .ref l, (ps.map V.ref).length, rfl, .inl ⟨_, SqL.of h1, rfl⟩, ?_⟩
  rw [List.length_map, hd.len]
  exact q _ m _ H rfl (w.fact fun _ _ => .int _)
/-- len(x[i]) -/
theorem ev_llen {Z : μ → List Root} (hv : σ[i]? = some (some (.ref l))) (h : EV G te σ L C E) (hC : ∀ m, (C m).Perm (rootLL G.K l ps d :: Z m)) : EV G (tCB (fun xs H Q => ∃ x n, xs = [x] ∧ LenV G.K x H n ∧ Q (.int n) H) (tCons (tOp (rIx G.K) (tVar i) te) tNil)) σ L C (bd E fun x => bd (of (idxD d x)) fun y => of (lenD [y])) := by
  intro m F L' H Q s w q b
  refine ⟨.ref l, hv, h m F L' H _ s w (fun x m1 v H1 e1 w1 => ?_) b.fst⟩
  have b1 := b.snd e1
  obtain ⟨B, rs, wb, ed, h1, hd⟩ := rootLLAt (Z := Z m1 ++ F) (w1.perm ((hC m1).append_right F))
  subst ed
  cases x with
  | int n =>
    simp only [idxD] at b1
    cases ea : atI rs n with
    | none => rw [ea] at b1; exact absurd rfl b1.2
    | some y =>
      unfold atI at ea
      cases ei : ixN rs.length n with
      | none => rw [ei] at ea; cases ea
      | some k =>
        rw [ei] at ea
        obtain ⟨p, vs, ds, hp, rfl, hvp, hda⟩ := hd.get (show rs[k]? = some y from ea)
        refine .inl ⟨l, _, n, .ref p, rfl, (wb.ft _ (.head _)).int_inv, SqL.of h1, ?_, ?_⟩
        · unfold atI
          rw [List.length_map, hd.len, ei]
          show (ps.map V.ref)[k]? = _
          rw [List.getElem?_map, hp]; rfl
        · refine ⟨.ref p, vs.length, rfl, .inl ⟨vs, SqL.of hvp, rfl⟩, ?_⟩
          rw [hda.len]
          refine q _ m1 _ H1 ?_ ((w1.sub fun f hf => .tail _ hf).fact fun _ _ => .int _)
          show bd E _ m = _
          rw [bd_ok e1]
          simp only [idxD]
          unfold atI
          rw [ei]
          show bd (of (rs[k]?)) _ m1 = _
          rw [show rs[k]? = some (.list ds) from ea]; rfl
  | _ => exact absurd rfl b1.2
end
namespace SM
def set2D (d x y z : D) : Option D := match idxD d x with
  | some r => match setD r y z with
    | some r' => setD d x r'
    | none => none
  | none => none
end SM
section
open SM
variable {X : Cx} {μ τ τ' ρ : Type} {G : Gx} {σ : St} {L : List (V × D)} {C Cp : μ → List Root} {te ta tb tc : TE} {tt tu : TT} {t u : TS} {E E1 E2 E3 : SM μ D} {T T1 T2 : SM μ Bool} {Jn : Shp μ τ} {Jl : Shp μ ρ} {i j : Nat} {v : V} {x d : D} {l : Addr} {ps : List Addr}
/-- x[i][j] = e -/
theorem sv_set2 {k : D → SM μ (Fl τ ρ)} {Z : μ → List Root} {C' : D → μ → List Root} (hc : Sub Cp C) (hv : σ[i]? = some (some (.ref l))) (h1 : EV G ta σ L C E1) (h2 : EV G tb σ L C E2) (h3 : EV G tc σ L C E3) (hC : ∀ m, (C m).Perm (rootLL G.K l ps d :: Z m)) (hC' : ∀ d' m, (rootLL G.K l ps d' :: Z m).Perm (C' d' m))
    (hk : ∀ d', SV G Cp u σ L (C' d') (k d') Jn Jl) : SV G Cp (tSeq (tAsg ta (gSub (tOp (rIx G.K) (tVar i) tb) tc rSetL)) u) σ L C (bd (bd E1 fun z => bd E2 fun x => bd (of (idxD d x)) fun _ => bd E3 fun y => of (set2D d x y z)) k) Jn Jl := by
  refine sv_bd hc fun m F L' H e s w q b => ?_
  refine h1 m F L' H _ s w (fun z m1 vz H1 e1 w1 => ?_) b.fst
  have b1 := b.snd e1
  refine ⟨.ref l, hv, h2 m1 F _ H1 _ (fun f hf => .tail _ (s f hf)) w1 (fun x m2 v H2 e2 w2 => ?_) (b1.fst.mono fun f hf => .tail _ hf)⟩
  have b2 := b1.snd e2
  obtain ⟨B, rs, wb, ed, hl, hd⟩ := rootLLAt (Z := Z m2 ++ F) (w2.perm ((hC m2).append_right F))
  subst ed
  cases x with
  | int n =>
    cases ei : ixN rs.length n with
    | none =>
      have : idxD (.list rs) (.int n) = none := by simp only [idxD]; unfold atI; rw [ei]; rfl
      rw [this] at b2
      exact absurd rfl b2.2
    | some a =>
      have ha := (ixN_seq ei).2.1
      obtain ⟨y, hy⟩ : ∃ y, rs[a]? = some y := ⟨_, List.getElem?_eq_getElem ha⟩
      have hidx : idxD (.list rs) (.int n) = some y := by
        simp only [idxD]; unfold atI; rw [ei]; exact hy
      rw [hidx] at b2
      have b3 : Bk G C F L' (bd E3 (fun y => of (set2D (.list rs) (.int n) y z)) m2) := b2
      obtain ⟨p, vs, ds, hp, rfl, hvp, hda⟩ := hd.get hy
      refine .inl ⟨l, _, n, .ref p, rfl, (wb.ft _ (.head _)).int_inv, SqL.of hl, ?_, ?_⟩
      · unfold atI
        rw [List.length_map, hd.len, ei]
        show (ps.map V.ref)[a]? = _
        rw [List.getElem?_map, hp]; rfl
      refine h3 m2 F _ H2 _ (fun f hf => .tail _ (.tail _ (s f hf))) w2 (fun y m3 vy H3 e3 w3 => ?_) (b3.fst.mono fun f hf => .tail _ (.tail _ hf))
      have b4 := b3.snd e3
      obtain ⟨B3, rs3, wb3, ed3, hl3, hd3⟩ := rootLLAt (Z := Z m3 ++ F) (w3.perm ((hC m3).append_right F))
      cases ed3
      obtain ⟨p3, vs3, ds3, hp3, ed4, hvp3, hda3⟩ := hd3.get hy
      cases ed4
      rw [hp] at hp3
      cases hp3
      have hset : set2D (.list rs) (.int n) y z = (match setD (.list ds) y z with | some r' => setD (.list rs) (.int n) r' | none => none) := by
        unfold set2D
        rw [hidx]
      cases y with
      | int n2 =>
        have hs1 : setD (.list ds) (.int n2) z = (match ixN ds.length n2 with | some j => some (.list (ds.set j z)) | none => none) := rfl
        cases ej : ixN ds.length n2 with
        | none =>
          rw [ej] at hs1
          rw [hset, hs1] at b4
          exact absurd rfl b4.2
        | some c =>
          rw [ej] at hs1
          have hs2 : set2D (.list rs) (.int n) (.int n2) z = some (.list (rs.set a (.list (ds.set c z)))) := by
            rw [hset, hs1]
            show setD (.list rs) (.int n) (.list (ds.set c z)) = _
            show (match ixN rs.length n with | some j => some (PyData.list (rs.set j (.list (ds.set c z)))) | none => none) = _
            rw [ei]
          refine ⟨p, vs3, n2, c, rfl, (wb3.ft _ (.head _)).int_inv, hvp3, by rw [hda3.len]; exact ej, ?_⟩
          have hps : p ∈ ps := List.mem_of_getElem? hp
          have hnd : (l :: ps).Nodup := by
            have := wb3.nd
            rw [fps_cons] at this
            exact (List.nodup_append.mp this).1
          have hpl : l ≠ p := fun zz => (List.nodup_cons.mp hnd).1 (by rw [zz]; exact hps)
          have w4 : Wb G.K G.O B3 ((vy, .int n2) :: (v, .int n) :: (vz, z) :: L') ([rootLL G.K l ps (.list (rs.set a (.list (ds.set c z))))] ++ (Z m3 ++ F)) (upd H3 p (.lst (vs3.set c vz))) := by
            refine Wb.swap (C := [rootLL G.K l ps (.list rs)]) wb3 (.refl _) (fun q hq => upd_ne fun zz => hq ?_) (fun q hq => ?_) fun kk c' hc' => ?_
            · rw [zz, fps_cons]
              exact List.mem_append.mpr (.inl (.tail _ hps))
            · by_cases zz : q = p
              · subst zz; exact ⟨_, upd_same⟩
              · rw [upd_ne zz]
                have hq2 : q ∈ l :: ps := by simpa [fps, rootLL] using hq
                rcases List.mem_cons.mp hq2 with e9 | e9
                · subst e9; exact ⟨_, hl3⟩
                · exact hd3.occ q e9
            · rw [List.mem_singleton.mp hc']
              refine ⟨_, rfl, by rw [upd_ne hpl]; exact hl3, hd3.set kk (List.nodup_cons.mp hnd).2 hp (fun q hq => upd_ne hq) upd_same ?_⟩
              exact (Dt.monoAll kk _ _ hda3).set (Dt.mono kk _ _ (wb3.ft _ (.tail _ (.tail _ (.head _)))))
          have w5 : Wd G.K G.O ((vy, .int n2) :: (v, .int n) :: (vz, z) :: L') (C' (.list (rs.set a (.list (ds.set c z)))) m3 ++ F) (upd H3 p (.lst (vs3.set c vz))) := (Wd.perm (C := rootLL G.K l ps (.list (rs.set a (.list (ds.set c z)))) :: (Z m3 ++ F)) ⟨B3, w4⟩ ((hC' _ m3).append_right F))
          refine q (.list (rs.set a (.list (ds.set c z)))) m3 σ [] (C' (.list (rs.set a (.list (ds.set c z))))) _ ?_ (w5.sub fun f hf => .tail _ (.tail _ (.tail _ hf))) (hk _)
          show bd E1 _ m = _
          rw [bd_ok e1, bd_ok e2, hidx]
          show bd E3 _ m2 = _
          rw [bd_ok e3, hs2]; rfl
      | _ =>
        rw [hset] at b4
        exact absurd rfl b4.2
  | _ => exact absurd rfl b2.2
/-- x[i] = e, x a list of one's own -/
theorem sv_rset {k : D → SM μ (Fl τ ρ)} {Z : μ → List Root} {C' : D → μ → List Root} (hc : Sub Cp C) (hv : σ[i]? = some (some (.ref l))) (h1 : EV G ta σ L C E1) (h2 : EV G tb σ L C E2) (hC : ∀ m, (C m).Perm (rootL G.K l d :: Z m)) (hC' : ∀ d' m, (rootL G.K l d' :: Z m).Perm (C' d' m))
    (hk : ∀ d', SV G Cp u σ L (C' d') (k d') Jn Jl) : SV G Cp (tSeq (tAsg ta (gSub (tVar i) tb rSetL)) u) σ L C (bd (bd E1 fun y => bd E2 fun x => of (setD d x y)) k) Jn Jl := by
  refine sv_bd hc fun m F L' H e s w q b => ?_
  refine h1 m F L' H _ s w (fun y m1 vy H1 e1 w1 => ?_) b.fst
  have b1 := b.snd e1
  refine ⟨.ref l, hv, h2 m1 F _ H1 _ (fun f hf => .tail _ (s f hf)) w1 (fun x m2 v H2 e2 w2 => ?_) (b1.fst.mono fun f hf => .tail _ hf)⟩
  have b2 := b1.snd e2
  obtain ⟨B, ds, vs, wb, ed, hl, hd⟩ := rootAt (Z := Z m2 ++ F) (w2.perm ((hC m2).append_right F))
  subst ed
  cases x with
  | int n =>
    have hset : setD (.list ds) (.int n) y = (match ixN ds.length n with | some j => some (.list (ds.set j y)) | none => none) := rfl
    cases ea : ixN ds.length n with
    | none =>
      rw [hset, ea] at b2
      exact absurd rfl b2.2
    | some c =>
      rw [ea] at hset
      refine ⟨l, vs, n, c, rfl, (wb.ft _ (.head _)).int_inv, hl, by rw [hd.len]; exact ea, ?_⟩
      have w3 : Wd G.K G.O ((v, .int n) :: (vy, y) :: L') (rootL G.K l (.list (ds.set c y)) :: (Z m2 ++ F)) (upd H2 l (.lst (vs.set c vy))) := Wd.put ⟨B, wb⟩ fun B' f hr => by
        obtain ⟨ds', us', e6, hA5, hda5⟩ := hr
        cases e6
        rw [hl] at hA5
        cases hA5
        exact hda5.set (f _ (.tail _ (.head _)))
      have w4 : Wd G.K G.O ((v, .int n) :: (vy, y) :: L') (C' (.list (ds.set c y)) m2 ++ F) (upd H2 l (.lst (vs.set c vy))) := w3.perm ((hC' _ m2).append_right F)
      refine q (.list (ds.set c y)) m2 σ [] (C' (.list (ds.set c y))) _ ?_ (w4.sub fun f hf => .tail _ (.tail _ hf)) (hk _)
      show bd E1 _ m = _
      rw [bd_ok e1, bd_ok e2, hset]; rfl
  | _ => exact absurd rfl b2.2
end
/-! ### defs that call themselves: a promise of nothing -/
section
open SM
variable {K : PySem.W.Frag} {n : Nat} {vs : List V} {H : Hp} {Q : VK} {E : XK}
theorem spD_bad {mf : List D → SM D D} (hb : ∀ ds m, mf ds m = .bad) (h : SpD K n mf vs H Q E) : False := by
  obtain ⟨_, B, a, us, ds, m, x, m', _, _, _, _, _, ex, _⟩ := h
  rw [hb] at ex
  cases ex
theorem spP_bad {mf : List D → SM Unit D} (hb : ∀ ds m, mf ds m = .bad) (h : SpP K n mf vs H Q E) : False := by
  obtain ⟨_, B, ds, x, _, _, ex, _⟩ := h
  rw [hb] at ex
  cases ex
end
open SM
def m_half_of (kind : D) (looks : D) : SM Unit D := fin
  ((bd (op2 addD (op2 shlD (op2 idxD (pu kind) (pu (.int 0))) (op2 idxD (pu looks) (pu (.int 1)))) (pu (.int 2))) fun x => pu (.rt x)) : SM Unit (Fl Unit Empty))
def m_first_top (looks : D) : SM Unit D := fin
  ((bd (op2 shlD (pu (.int 1)) (op2 subD (op2 idxD (pu looks) (pu (.int 0))) (pu (.int 1)))) fun x => pu (.rt x)) : SM Unit (Fl Unit Empty))
def m_are_looks (kind : D) (looks : D) : SM Unit D := fin
  ((bd (pu looks) fun t2 => (unp2 t2 fun tops parts =>
  (bd (tor (tnot (SM.tb (SM.chain leD leD (pu (.int 1)) (pu tops) (pu (.int 10))))) (tnot (SM.tb (SM.chain leD leD (pu (.int 0)) (pu parts) (pu (.int 10)))))) fun c => if c then
  (bd (pu (.bool false)) fun x => pu (.rt x))
  else
  (bd (op2 leD (op2 mulD (op2 mulD (cP (u1 m_first_top) (ac (pu looks) a0)) (pu (.int 2))) (cP (u2 m_half_of) (ac (pu kind) (ac (pu looks) a0)))) (pu (.int 20000))) fun x => pu (.rt x))))) : SM Unit (Fl Unit Empty))
def m_is_whole (thing : D) : SM Unit D := fin
  ((bd (eand (op1 (isiD "int") (pu thing)) (enot (op1 (isiD "bool") (pu thing)))) fun x => pu (.rt x)) : SM Unit (Fl Unit Empty))
def m_is_figure (kind : D) (thing : D) : SM Unit D := fin
  ((bd (op2 idxD (pu kind) (pu (.int 1))) fun most =>
  (bd (eand (cP (u1 m_is_whole) (ac (pu thing) a0)) (SM.chain leD leD (op1 negD (pu most)) (pu thing) (pu most))) fun x => pu (.rt x))) : SM Unit (Fl Unit Empty))
def m_is_entry (kind : D) (thing : D) : SM Unit D := fin
  ((bd (eor (op2 isD (pu thing) (pu .none)) (cP (u2 m_is_figure) (ac (pu kind) (ac (pu thing) a0)))) fun x => pu (.rt x)) : SM Unit (Fl Unit Empty))
def m_is_table_row (kind : D) (looks : D) (thing : D) : SM Unit D := fin
  ((bd (tor (tnot (SM.tr (op1 (isiD "list") (pu thing)))) (SM.tb (op2 neD (opL lenD (ac (pu thing) a0)) (op2 mulD (pu (.int 2)) (cP (u2 m_half_of) (ac (pu kind) (ac (pu looks) a0))))))) fun c => if c then
  (bd (pu (.bool false)) fun x => pu (.rt x))
  else
  (bd (opL allD (ac (SM.lc (itS (pu thing)) (fun within => (pu true)) (fun within => (cP (u2 m_is_entry) (ac (pu kind) (ac (pu within) a0))))) a0)) fun x => pu (.rt x))) : SM Unit (Fl Unit Empty))
def m_is_table (kind : D) (looks : D) (thing : D) : SM Unit D := fin
  ((bd (tnot (SM.tr (cP (u2 m_are_looks) (ac (pu kind) (ac (pu looks) a0))))) fun c => if c then
  (bd (pu (.bool false)) fun x => pu (.rt x))
  else
  (bd (tor (tnot (SM.tr (op1 (isiD "list") (pu thing)))) (SM.tb (op2 neD (opL lenD (ac (pu thing) a0)) (cP (u1 m_first_top) (ac (pu looks) a0))))) fun c => if c then
  (bd (pu (.bool false)) fun x => pu (.rt x))
  else
  (bd (opL allD (ac (SM.lc (itS (pu thing)) (fun row => (pu true)) (fun row => (cP (u3 m_is_table_row) (ac (pu kind) (ac (pu looks) (ac (pu row) a0)))))) a0)) fun x => pu (.rt x)))) : SM Unit (Fl Unit Empty))
def m_entry (kind : D) (looks : D) (table : D) (cell : D) : SM Unit D := fin
  ((bd (pu cell) fun t2 => (unp2 t2 fun top look =>
  (bd (op2 idxD (op2 idxD (pu table) (op2 subD (pu top) (cP (u1 m_first_top) (ac (pu looks) a0)))) (op2 addD (pu look) (cP (u2 m_half_of) (ac (pu kind) (ac (pu looks) a0))))) fun x => pu (.rt x)))) : SM Unit (Fl Unit Empty))
def m__law_deck (cell : D) (turn : D) : SM Unit D := fin
  ((bd (SM.tb (op2 geD (pu cell) (op2 powD (pu (.int 10)) (pu (.int 18))))) fun c => if c then
  (bd (opL lstD (ac (op2 subD (pu cell) (op2 powD (pu (.int 10)) (pu (.int 18)))) (ac (op2 modD (pu cell) (pu (.int 2147483579))) (ac (pu turn) a0)))) fun x => pu (.rt x))
  else
  (bd (opL lstD (ac (pu (.int 0)) (ac (op2 modD (pu cell) (pu (.int 2147483579))) (ac (pu turn) a0)))) fun x => pu (.rt x))) : SM Unit (Fl Unit Empty))
def m__law_pick (many : D) : SM D D := fin
  ((bd (SM.tb (op2 gtD (bd (pu (.int 0)) fun x => bd gets fun m => of (idxD m x)) (pu (.int 1)))) fun c => if c then
  (bd (op2 modD (bd (pu (.int 0)) fun x => bd gets fun m => of (idxD m x)) (pu many)) fun found =>
  (bd (bd (op2 fdivD (bd (pu (.int 0)) fun x => bd gets fun m => of (idxD m x)) (pu many)) fun y => bd (pu (.int 0)) fun x => bd gets fun m => bd (of (setD m x y)) fun m' => puts m') fun _ =>
  (bd (pu found) fun x => pu (.rt x))))
  else
  (bd (bd (op2 addD (bd (pu (.int 2)) fun x => bd gets fun m => of (idxD m x)) (pu (.int 1))) fun y => bd (pu (.int 2)) fun x => bd gets fun m => bd (of (setD m x y)) fun m' => puts m') fun _ =>
  (bd (op2 modD (op2 powD (op2 addD (bd (pu (.int 1)) fun x => bd gets fun m => of (idxD m x)) (op2 mulD (pu (.int 15485867)) (bd (pu (.int 2)) fun x => bd gets fun m => of (idxD m x)))) (pu (.int 5))) (pu (.int 2147483647))) fun number =>
  (bd (op2 fdivD (op2 modD (op2 powD (op2 addD (pu number) (op2 mulD (pu (.int 7919)) (bd (pu (.int 2)) fun x => bd gets fun m => of (idxD m x)))) (pu (.int 3))) (pu (.int 2147483629))) (pu (.int 32))) fun found1 =>
  (bd (SM.tb (op2 gtD (pu many) (pu (.int 1000000)))) fun c => if c then
  (bd (op2 modD (op2 addD (op2 mulD (pu found1) (pu (.int 2147483563))) (pu number)) (pu many)) fun x => pu (.rt x))
  else
  (bd (op2 modD (pu found1) (pu many)) fun x => pu (.rt x))))))) : SM D (Fl Unit Empty))
def m__law_kind : SM D D := fin
  ((bd (op2 idxD (opL lstD (ac (pu (.int 2)) (ac (pu (.int 4)) (ac (pu (.int 4)) (ac (pu (.int 8)) (ac (pu (.int 16)) a0)))))) (cD (u1 m__law_pick) (ac (pu (.int 5)) a0))) fun base' =>
  (bd (opL tupD (ac (pu base') (ac (op2 addD (op2 fdivD (pu base') (pu (.int 2))) (cD (u1 m__law_pick) (ac (op2 subD (pu base') (op2 fdivD (pu base') (pu (.int 2)))) a0))) a0))) fun x => pu (.rt x))) : SM D (Fl Unit Empty))
def m__law_whole (thing : D) : SM Unit D := fin
  ((bd (eand (op1 (isiD "int") (pu thing)) (enot (op1 (isiD "bool") (pu thing)))) fun x => pu (.rt x)) : SM Unit (Fl Unit Empty))
def m__law_thing_r : Nat → D → SM D D
  | 0, _ => bad
  | fu + 1, deep => fin ((bd (cD (u1 m__law_pick) (ac (pu (.int 12)) a0)) fun kind =>
  (bd (op2 idxD (opL lstD (ac (op2 subD (cD (u1 m__law_pick) (ac (pu (.int 18)) a0)) (pu (.int 1))) (ac (op2 subD (cD (u1 m__law_pick) (ac (op2 powD (pu (.int 10)) (pu (.int 13))) a0)) (op2 powD (pu (.int 10)) (pu (.int 12)))) (ac (op2 subD (pu (.int 0)) (op2 powD (pu (.int 10)) (pu (.int 59)))) a0)))) (cD (u1 m__law_pick) (ac (pu (.int 3)) a0))) fun far =>
  (bd (SM.tb (op2 ltD (pu kind) (pu (.int 4)))) fun c => if c then
  (bd (pu far) fun x => pu (.rt x))
  else
  (bd (SM.tb (op2 ltD (pu kind) (pu (.int 7)))) fun c => if c then
  (bd (op2 idxD (opL lstD (ac (pu (.bool true)) (ac (pu (.bool false)) (ac (pu .none) a0)))) (op2 subD (pu kind) (pu (.int 4)))) fun x => pu (.rt x))
  else
  (bd (SM.tb (op2 ltD (pu kind) (pu (.int 9)))) fun c => if c then
  (bd (op2 idxD (opL lstD (ac (pu (.str "")) (ac (pu (.str "4")) (ac (pu (.str "none")) (ac (pu (.str "(4, 2)")) (ac (pu (.str "-1")) (ac (pu (.str ".")) a0))))))) (cD (u1 m__law_pick) (ac (pu (.int 6)) a0))) fun x => pu (.rt x))
  else
  (bd (SM.lc (itR (ac (op2 mulD (cD (u1 m__law_pick) (ac (pu (.int 4)) a0)) (opL intD (ac (op2 gtD (pu deep) (pu (.int 0))) a0))) a0)) (fun k => (pu true)) (fun k => (cD (u1 (m__law_thing_r fu)) (ac (op2 subD (pu deep) (pu (.int 1))) a0)))) fun some' =>
  (bd (eif (SM.tb (op2 eqD (pu kind) (pu (.int 9)))) (pu some') (opL tupleD (ac (pu some') a0))) fun x => pu (.rt x)))))))) : SM D (Fl Unit Empty))
def m__law_thing (deep : D) : SM D D := m__law_thing_r 6 deep
def m__law_half (kind : D) (looks : D) : SM Unit D := fin
  ((bd (op2 addD (op2 mulD (op2 idxD (pu kind) (pu (.int 0))) (op2 idxD (opL lstD (ac (pu (.int 1)) (ac (pu (.int 2)) (ac (pu (.int 4)) (ac (pu (.int 8)) (ac (pu (.int 16)) (ac (pu (.int 32)) (ac (pu (.int 64)) (ac (pu (.int 128)) (ac (pu (.int 256)) (ac (pu (.int 512)) (ac (pu (.int 1024)) a0)))))))))))) (op2 idxD (pu looks) (pu (.int 1))))) (pu (.int 2))) fun x => pu (.rt x)) : SM Unit (Fl Unit Empty))
def m__law_is_table (kind : D) (looks : D) (thing : D) : SM Unit D := fin
  ((bd (tor (tnot (SM.tr (op1 (isiD "list") (pu thing)))) (SM.tb (op2 neD (opL lenD (ac (pu thing) a0)) (op2 shlD (pu (.int 1)) (op2 subD (op2 idxD (pu looks) (pu (.int 0))) (pu (.int 1))))))) fun c => if c then
  (bd (pu (.bool false)) fun x => pu (.rt x))
  else
  (sq (bd (itS (pu thing)) fun xs => forS xs () fun row (s1 : Unit) =>
  (bd (tor (tnot (SM.tr (op1 (isiD "list") (pu row)))) (SM.tb (op2 neD (opL lenD (ac (pu row) a0)) (op2 mulD (pu (.int 2)) (cP (u2 m__law_half) (ac (pu kind) (ac (pu looks) a0))))))) fun c => if c then
  (bd (pu (.bool false)) fun x => pu (.rt x))
  else
  (bd (SM.tb (op2 neD (SM.lc (itS (pu row)) (fun one => (tand (SM.tb (op2 isntD (pu one) (pu .none))) (tnot (SM.tr (cP (u1 m__law_whole) (ac (pu one) a0)))))) (fun one => (pu one))) (opL lstD a0))) fun c => if c then
  (bd (pu (.bool false)) fun x => pu (.rt x))
  else
  (bd (SM.tb (op2 neD (SM.lc (itS (pu row)) (fun one1 => (tand (SM.tb (op2 isntD (pu one1) (pu .none))) (tnot (SM.tb (SM.chain leD leD (op2 subD (pu (.int 0)) (op2 idxD (pu kind) (pu (.int 1)))) (pu one1) (op2 idxD (pu kind) (pu (.int 1)))))))) (fun one1 => (pu one1))) (opL lstD a0))) fun c => if c then
  (bd (pu (.bool false)) fun x => pu (.rt x))
  else
  (pu (.nx ())))))) fun s1 =>
  (bd (pu (.bool true)) fun x => pu (.rt x)))) : SM Unit (Fl Unit Empty))
def m__law_bent (kind : D) (table : D) : SM D D := fin
  ((bd (SM.lc (itS (pu table)) (fun row => (pu true)) (fun row => (opL listD (ac (pu row) a0)))) fun told =>
  (bd (cD (u1 m__law_pick) (ac (of (lenD [told])) a0)) fun at' =>
  (bd (cD (u1 m__law_pick) (ac (bd (pu at') fun x => bd (of (idxD told x)) fun y => of (lenD [y])) a0)) fun place =>
  (bd (opL lstD (ac (op2 addD (op2 idxD (pu kind) (pu (.int 1))) (pu (.int 1))) (ac (op2 subD (op2 subD (pu (.int 0)) (op2 idxD (pu kind) (pu (.int 1)))) (pu (.int 1))) (ac (pu (.bool true)) (ac (pu (.bool false)) (ac (pu (.str "0")) (ac (opL lstD (ac (pu (.int 0)) a0)) (ac (cD (u1 m__law_thing) (ac (pu (.int 2)) a0)) (ac (op2 idxD (pu kind) (pu (.int 1))) (ac (pu .none) a0)))))))))) fun kinds =>
  (bd (cD (u1 m__law_pick) (ac (pu (.int 14)) a0)) fun way =>
  (bd (SM.tb (op2 ltD (pu way) (pu (.int 9)))) fun c => if c then
  (bd (bd (op2 idxD (pu kinds) (pu way)) fun z => bd (pu at') fun x => bd (of (idxD told x)) fun _ => bd (pu place) fun y => of (set2D told x y z)) fun told1 =>
  (bd (pu told1) fun x => pu (.rt x)))
  else
  (bd (SM.tb (op2 ltD (pu way) (pu (.int 11)))) fun c => if c then
  (bd (bd (op2 idxD (opL lstD (ac (op2 addD (SM.slice (bd (pu at') fun x => of (idxD told x)) part0 (SM.part (pu place))) (SM.slice (bd (pu at') fun x => of (idxD told x)) (SM.part (op2 addD (pu place) (pu (.int 1)))) part0)) (ac (op2 addD (bd (pu at') fun x => of (idxD told x)) (opL lstD (ac (pu (.int 0)) a0))) a0))) (op2 subD (pu way) (pu (.int 9)))) fun y => bd (pu at') fun x => of (setD told x y)) fun told2 =>
  (bd (pu told2) fun x => pu (.rt x)))
  else
  (bd (SM.tb (op2 eqD (pu way) (pu (.int 11)))) fun c => if c then
  (bd (op2 idxD (opL lstD (ac (op2 addD (SM.slice (pu told) part0 (SM.part (pu at'))) (SM.slice (pu told) (SM.part (op2 addD (pu at') (pu (.int 1)))) part0)) (ac (op2 addD (pu told) (opL lstD (ac (opL listD (ac (op2 idxD (pu told) (pu (.int 0))) a0)) a0))) a0))) (cD (u1 m__law_pick) (ac (pu (.int 2)) a0))) fun told3 =>
  (bd (pu told3) fun x => pu (.rt x)))
  else
  (bd (SM.tb (op2 eqD (pu way) (pu (.int 12)))) fun c => if c then
  (bd (bd (opL tupleD (ac (bd (pu at') fun x => of (idxD told x)) a0)) fun y => bd (pu at') fun x => of (setD told x y)) fun told4 =>
  (bd (pu told4) fun x => pu (.rt x)))
  else
  (bd (op2 idxD (opL lstD (ac (opL tupleD (ac (pu told) a0)) (ac (cD (u1 m__law_thing) (ac (pu (.int 3)) a0)) a0))) (cD (u1 m__law_pick) (ac (pu (.int 2)) a0))) fun x => pu (.rt x))))))))))) : SM D (Fl Unit Empty))
def m_law (script : D) : SM D D := fin
  ((bd (bd (cP (u2 m__law_deck) (ac (op2 idxD (op2 addD (pu script) (opL lstD (ac (pu (.int 0)) a0))) (pu (.int 0))) (ac (pu (.int 0)) a0))) fun d => puts d) fun _ =>
  (bd (cD (u0 m__law_kind) a0) fun kind =>
  (bd (opL tupD (ac (op2 addD (pu (.int 1)) (cD (u1 m__law_pick) (ac (pu (.int 4)) a0))) (ac (cD (u1 m__law_pick) (ac (pu (.int 4)) a0)) a0))) fun looks =>
  (bd (cP (u2 m__law_half) (ac (pu kind) (ac (pu looks) a0))) fun half =>
  (bd (opL lstD a0) fun table =>
  (sq (bd (itR (ac (op2 shlD (pu (.int 1)) (op2 subD (op2 idxD (pu looks) (pu (.int 0))) (pu (.int 1)))) a0)) fun xs => forS xs table fun top (s8 : D) =>
  (bd (SM.lc (itR (ac (op2 mulD (pu (.int 2)) (pu half)) a0)) (fun look => (pu true)) (fun look => (op2 subD (cD (u1 m__law_pick) (ac (op2 addD (op2 mulD (pu (.int 2)) (op2 idxD (pu kind) (pu (.int 1)))) (pu (.int 2))) a0)) (op2 idxD (pu kind) (pu (.int 1)))))) fun row =>
  (bd (bd (SM.lc (itS (pu row)) (fun one => (pu true)) (fun one => (eif (SM.tb (op2 gtD (pu one) (op2 idxD (pu kind) (pu (.int 1))))) (pu .none) (pu one)))) fun x => of (appD s8 x)) fun table1 =>
  (pu (.nx table1))))) fun s8 =>
  (bd (SM.tb (op2 isntD (cP (u3 m_is_table) (ac (pu kind) (ac (pu looks) (ac (pu s8) a0)))) (pu (.bool true)))) fun c => if c then
  (bd (pu (.bool false)) fun x => pu (.rt x))
  else
  (sq (bd (itR (ac (pu (.int 20)) a0)) fun xs => forS xs () fun turn (s19 : Unit) =>
  (bd (cD (u1 m__law_pick) (ac (opL lenD (ac (pu s8) a0)) a0)) fun at' =>
  (bd (op2 subD (cD (u1 m__law_pick) (ac (op2 mulD (pu (.int 2)) (pu half)) a0)) (pu half)) fun look1 =>
  (bd (SM.tb (op2 neD (cP (u4 m_entry) (ac (pu kind) (ac (pu looks) (ac (pu s8) (ac (opL tupD (ac (op2 addD (op2 shlD (pu (.int 1)) (op2 subD (op2 idxD (pu looks) (pu (.int 0))) (pu (.int 1)))) (pu at')) (ac (pu look1) a0))) a0))))) (op2 idxD (op2 idxD (pu s8) (pu at')) (op2 addD (pu look1) (pu half))))) fun c => if c then
  (bd (pu (.bool false)) fun x => pu (.rt x))
  else
  (pu (.nx ())))))) fun s19 =>
  (sq (bd (itS (op2 addD (SM.slice (pu script) (SM.part (pu (.int 1))) (SM.part (pu (.int 9)))) (opL lstD (ac (pu (.int 0)) a0)))) fun xs => forS xs () fun cell (s29 : Unit) =>
  (bd (cDN (u2 m__law_deck) (ac (pu cell) (ac (pu (.int 200)) a0)) (u2 m__law_bent) (ac (pu kind) (ac (pu s8) a0))) fun thing =>
  (bd (cP (u3 m_is_table) (ac (pu kind) (ac (pu looks) (ac (pu thing) a0)))) fun told =>
  (bd (tor (tnot (SM.tr (op1 (isiD "bool") (pu told)))) (SM.tb (op2 neD (pu told) (cP (u3 m__law_is_table) (ac (pu kind) (ac (pu looks) (ac (pu thing) a0))))))) fun c => if c then
  (bd (pu (.bool false)) fun x => pu (.rt x))
  else
  (pu (.nx ())))))) fun s29 =>
  (bd (pu (.bool true)) fun x => pu (.rt x))))))))))) : SM D (Fl Unit Empty))
def top (i : Nat) : Stmt := PySem.Challenge.pw_slackfigures_k09_tables_told.main.body.getD i (.Pass ⟨0, 0, 0, 0⟩)
abbrev s_are_looks : Stmt := top 2
abbrev s_half_of : Stmt := top 3
abbrev s_first_top : Stmt := top 4
abbrev s_is_whole : Stmt := top 6
abbrev s_is_figure : Stmt := top 7
abbrev s_is_entry : Stmt := top 9
abbrev s_is_table_row : Stmt := top 10
abbrev s_is_table : Stmt := top 11
abbrev s_entry : Stmt := top 12
abbrev s__law_deck : Stmt := top 14
abbrev s__law_pick : Stmt := top 15
abbrev s__law_kind : Stmt := top 16
abbrev s__law_whole : Stmt := top 17
abbrev s__law_thing : Stmt := top 18
abbrev s__law_half : Stmt := top 19
abbrev s__law_is_table : Stmt := top 20
abbrev s__law_bent : Stmt := top 21
abbrev s_law : Stmt := top 22
theorem sc_are_looks : FnScope ["kind", "looks", "tops", "parts"] ["kind", "looks"] (defScope s_are_looks) := ⟨rfl, rfl, rfl, by decide +kernel, rfl, by decide +kernel, by decide +kernel⟩
theorem sc_half_of : FnScope ["kind", "looks"] ["kind", "looks"] (defScope s_half_of) := ⟨rfl, rfl, rfl, by decide +kernel, rfl, by decide +kernel, by decide +kernel⟩
theorem sc_first_top : FnScope ["looks"] ["looks"] (defScope s_first_top) := ⟨rfl, rfl, rfl, by decide +kernel, rfl, by decide +kernel, by decide +kernel⟩
theorem sc_is_whole : FnScope ["thing"] ["thing"] (defScope s_is_whole) := ⟨rfl, rfl, rfl, by decide +kernel, rfl, by decide +kernel, by decide +kernel⟩
theorem sc_is_figure : FnScope ["kind", "thing", "most"] ["kind", "thing"] (defScope s_is_figure) := ⟨rfl, rfl, rfl, by decide +kernel, rfl, by decide +kernel, by decide +kernel⟩
theorem sc_is_entry : FnScope ["kind", "thing"] ["kind", "thing"] (defScope s_is_entry) := ⟨rfl, rfl, rfl, by decide +kernel, rfl, by decide +kernel, by decide +kernel⟩
theorem sc_is_table_row : FnScope ["kind", "looks", "thing", "within"] ["kind", "looks", "thing"] (defScope s_is_table_row) := ⟨rfl, rfl, rfl, by decide +kernel, rfl, by decide +kernel, by decide +kernel⟩
theorem sc_is_table : FnScope ["kind", "looks", "thing", "row"] ["kind", "looks", "thing"] (defScope s_is_table) := ⟨rfl, rfl, rfl, by decide +kernel, rfl, by decide +kernel, by decide +kernel⟩
theorem sc_entry : FnScope ["kind", "looks", "table", "cell", "top", "look"] ["kind", "looks", "table", "cell"] (defScope s_entry) := ⟨rfl, rfl, rfl, by decide +kernel, rfl, by decide +kernel, by decide +kernel⟩
theorem sc__law_deck : FnScope ["cell", "turn"] ["cell", "turn"] (defScope s__law_deck) := ⟨rfl, rfl, rfl, by decide +kernel, rfl, by decide +kernel, by decide +kernel⟩
theorem sc__law_pick : FnScope ["deck", "many", "found", "number"] ["deck", "many"] (defScope s__law_pick) := ⟨rfl, rfl, rfl, by decide +kernel, rfl, by decide +kernel, by decide +kernel⟩
theorem sc__law_kind : FnScope ["deck", "base"] ["deck"] (defScope s__law_kind) := ⟨rfl, rfl, rfl, by decide +kernel, rfl, by decide +kernel, by decide +kernel⟩
theorem sc__law_whole : FnScope ["thing"] ["thing"] (defScope s__law_whole) := ⟨rfl, rfl, rfl, by decide +kernel, rfl, by decide +kernel, by decide +kernel⟩
theorem sc__law_thing : FnScope ["deck", "deep", "kind", "far", "some", "k"] ["deck", "deep"] (defScope s__law_thing) := ⟨rfl, rfl, rfl, by decide +kernel, rfl, by decide +kernel, by decide +kernel⟩
theorem sc__law_half : FnScope ["kind", "looks"] ["kind", "looks"] (defScope s__law_half) := ⟨rfl, rfl, rfl, by decide +kernel, rfl, by decide +kernel, by decide +kernel⟩
theorem sc__law_is_table : FnScope ["kind", "looks", "thing", "row", "one"] ["kind", "looks", "thing"] (defScope s__law_is_table) := ⟨rfl, rfl, rfl, by decide +kernel, rfl, by decide +kernel, by decide +kernel⟩
theorem sc__law_bent : FnScope ["deck", "kind", "table", "told", "at", "place", "kinds", "way", "row"] ["deck", "kind", "table"] (defScope s__law_bent) := ⟨rfl, rfl, rfl, by decide +kernel, rfl, by decide +kernel, by decide +kernel⟩
theorem sc_law : FnScope ["script", "deck", "kind", "looks", "half", "table", "top", "look", "row", "turn", "at", "cell", "thing", "told", "one"] ["script"] (defScope s_law) := ⟨rfl, rfl, rfl, by decide +kernel, rfl, by decide +kernel, by decide +kernel⟩
/-- what the top has left -/
structure Txt (K : PySem.W.Frag) (mg : Str → Option Value) where
  a_are_looks : Addr
  fd_are_looks : FuncData
  F_are_looks : Fun K "are_looks" "are_looks" s_are_looks a_are_looks fd_are_looks
  m_are_looks : mg "are_looks" = some (.ref a_are_looks)
  b_are_looks : Binds K fd_are_looks ["kind", "looks"] []
  a_half_of : Addr
  fd_half_of : FuncData
  F_half_of : Fun K "half_of" "half_of" s_half_of a_half_of fd_half_of
  m_half_of : mg "half_of" = some (.ref a_half_of)
  b_half_of : Binds K fd_half_of ["kind", "looks"] []
  a_first_top : Addr
  fd_first_top : FuncData
  F_first_top : Fun K "first_top" "first_top" s_first_top a_first_top fd_first_top
  m_first_top : mg "first_top" = some (.ref a_first_top)
  b_first_top : Binds K fd_first_top ["looks"] []
  a_is_whole : Addr
  fd_is_whole : FuncData
  F_is_whole : Fun K "is_whole" "is_whole" s_is_whole a_is_whole fd_is_whole
  m_is_whole : mg "is_whole" = some (.ref a_is_whole)
  b_is_whole : Binds K fd_is_whole ["thing"] []
  a_is_figure : Addr
  fd_is_figure : FuncData
  F_is_figure : Fun K "is_figure" "is_figure" s_is_figure a_is_figure fd_is_figure
  m_is_figure : mg "is_figure" = some (.ref a_is_figure)
  b_is_figure : Binds K fd_is_figure ["kind", "thing"] []
  a_is_entry : Addr
  fd_is_entry : FuncData
  F_is_entry : Fun K "is_entry" "is_entry" s_is_entry a_is_entry fd_is_entry
  m_is_entry : mg "is_entry" = some (.ref a_is_entry)
  b_is_entry : Binds K fd_is_entry ["kind", "thing"] []
  a_is_table_row : Addr
  fd_is_table_row : FuncData
  F_is_table_row : Fun K "is_table_row" "is_table_row" s_is_table_row a_is_table_row fd_is_table_row
  m_is_table_row : mg "is_table_row" = some (.ref a_is_table_row)
  b_is_table_row : Binds K fd_is_table_row ["kind", "looks", "thing"] []
  a_is_table : Addr
  fd_is_table : FuncData
  F_is_table : Fun K "is_table" "is_table" s_is_table a_is_table fd_is_table
  m_is_table : mg "is_table" = some (.ref a_is_table)
  b_is_table : Binds K fd_is_table ["kind", "looks", "thing"] []
  a_entry : Addr
  fd_entry : FuncData
  F_entry : Fun K "entry" "entry" s_entry a_entry fd_entry
  m_entry : mg "entry" = some (.ref a_entry)
  b_entry : Binds K fd_entry ["kind", "looks", "table", "cell"] []
  a__law_deck : Addr
  fd__law_deck : FuncData
  F__law_deck : Fun K "_law_deck" "_law_deck" s__law_deck a__law_deck fd__law_deck
  m__law_deck : mg "_law_deck" = some (.ref a__law_deck)
  b__law_deck : Binds K fd__law_deck ["cell", "turn"] []
  a__law_pick : Addr
  fd__law_pick : FuncData
  F__law_pick : Fun K "_law_pick" "_law_pick" s__law_pick a__law_pick fd__law_pick
  m__law_pick : mg "_law_pick" = some (.ref a__law_pick)
  b__law_pick : Binds K fd__law_pick ["deck", "many"] []
  a__law_kind : Addr
  fd__law_kind : FuncData
  F__law_kind : Fun K "_law_kind" "_law_kind" s__law_kind a__law_kind fd__law_kind
  m__law_kind : mg "_law_kind" = some (.ref a__law_kind)
  b__law_kind : Binds K fd__law_kind ["deck"] []
  a__law_whole : Addr
  fd__law_whole : FuncData
  F__law_whole : Fun K "_law_whole" "_law_whole" s__law_whole a__law_whole fd__law_whole
  m__law_whole : mg "_law_whole" = some (.ref a__law_whole)
  b__law_whole : Binds K fd__law_whole ["thing"] []
  a__law_thing : Addr
  fd__law_thing : FuncData
  F__law_thing : Fun K "_law_thing" "_law_thing" s__law_thing a__law_thing fd__law_thing
  m__law_thing : mg "_law_thing" = some (.ref a__law_thing)
  b__law_thing : Binds K fd__law_thing ["deck", "deep"] []
  a__law_half : Addr
  fd__law_half : FuncData
  F__law_half : Fun K "_law_half" "_law_half" s__law_half a__law_half fd__law_half
  m__law_half : mg "_law_half" = some (.ref a__law_half)
  b__law_half : Binds K fd__law_half ["kind", "looks"] []
  a__law_is_table : Addr
  fd__law_is_table : FuncData
  F__law_is_table : Fun K "_law_is_table" "_law_is_table" s__law_is_table a__law_is_table fd__law_is_table
  m__law_is_table : mg "_law_is_table" = some (.ref a__law_is_table)
  b__law_is_table : Binds K fd__law_is_table ["kind", "looks", "thing"] []
  a__law_bent : Addr
  fd__law_bent : FuncData
  F__law_bent : Fun K "_law_bent" "_law_bent" s__law_bent a__law_bent fd__law_bent
  m__law_bent : mg "_law_bent" = some (.ref a__law_bent)
  b__law_bent : Binds K fd__law_bent ["deck", "kind", "table"] []
  a_law : Addr
  fd_law : FuncData
  F_law : Fun K "law" "law" s_law a_law fd_law
  m_law : mg "law" = some (.ref a_law)
  b_law : Binds K fd_law ["script"] []
  z_isinstance : mg "isinstance" = none
  z_int : mg "int" = none
  z_bool : mg "bool" = none
  z_list : mg "list" = none
  z_len : mg "len" = none
  z_all : mg "all" = none
  z_range : mg "range" = none
  z_tuple : mg "tuple" = none
  u_MOST_CELLS : Value
  m_MOST_CELLS : mg "MOST_CELLS" = some u_MOST_CELLS
  r_MOST_CELLS : RelV (.int 20000) u_MOST_CELLS
section
variable {P : Program} {w : World} {K : PySem.W.Frag} {mg : Str → Option Value} {base : Heap}
set_option maxHeartbeats 0 in
theorem ok_half_of (T : Txt K mg) : FnOk P w K mg base CX0 1 T.a_half_of T.fd_half_of ["kind", "looks"] (SpP K 2 (u2 m_half_of)) := by
  refine T.F_half_of.ok sc_half_of (fun vs H Q E h => h.1) (fun cdv A outer s H vs Q E hr h => ?_)
  refine ⟨_, (pss_cons (ps_ret (pe_op op_addU (pe_op op_shlW (pe_ix ix_seq (pv 0) pe_int (fun _ _ => rfl)) (pe_ix ix_seq (pv 1) pe_int (fun _ _ => rfl))) pe_int))
      pss_nil), body_P h fun ds O hl => ?_⟩
  have h1 := h.1
  match vs, ds, h1, hl with
  | [v_0, v_1], [x_0, x_1], _, _ =>
  refine ⟨_, rfl, ?_⟩
  refine sv_st (σ' := [some v_0, some v_1]) rfl ?_
  exact sv_ret sub0 (ev_op os_add (ev_op os_shl (ev_op os_idx (ev_var rfl (.head _)) ev_int) (ev_op os_idx (ev_var rfl (.tail _ (.head _))) ev_int)) ev_int)
set_option maxHeartbeats 0 in
theorem ok_first_top (T : Txt K mg) : FnOk P w K mg base CX0 1 T.a_first_top T.fd_first_top ["looks"] (SpP K 1 (u1 m_first_top)) := by
  refine T.F_first_top.ok sc_first_top (fun vs H Q E h => h.1) (fun cdv A outer s H vs Q E hr h => ?_)
  refine ⟨_, (pss_cons (ps_ret (pe_op op_shlW pe_int (pe_op op_sub (pe_ix ix_seq (pv 0) pe_int (fun _ _ => rfl)) pe_int)))
      pss_nil), body_P h fun ds O hl => ?_⟩
  have h1 := h.1
  match vs, ds, h1, hl with
  | [v_0], [x_0], _, _ =>
  refine ⟨_, rfl, ?_⟩
  refine sv_st (σ' := [some v_0]) rfl ?_
  exact sv_ret sub0 (ev_op os_shl ev_int (ev_op os_sub (ev_op os_idx (ev_var rfl (.head _)) ev_int) ev_int))
set_option maxHeartbeats 0 in
theorem ok_are_looks (T : Txt K mg) : FnOk P w K mg base CX0 2 T.a_are_looks T.fd_are_looks ["kind", "looks"] (SpP K 2 (u2 m_are_looks)) := by
  refine T.F_are_looks.ok sc_are_looks (fun vs H Q E h => h.1) (fun cdv A outer s H vs Q E hr h => ?_)
  refine ⟨_, (pss_cons (ps_asg (pv 1) (pg_tup rfl (pgs_cons (pg_name (i := 2) sc_are_looks.nd rfl (Or.inl rfl)) (pgs_cons (pg_name (i := 3) sc_are_looks.nd rfl (Or.inl rfl)) pgs_nil))))
      (pss_cons (ps_if (PW.pt (pw_or (pt_not (pt_chain op_le op_le pe_int (pv 2) pe_int)) (pw_or1 (pt_not (pt_chain op_le op_le pe_int (pv 3) pe_int))))) (pss_cons (ps_ret pe_bl)
      pss_nil) pss_nil)
      (pss_cons (ps_ret (pe_cmpR op_le (pe_op op_mulU (pe_op op_mulU (pe_call (ok_first_top T) (hr.mono (by decide)) rfl T.m_first_top T.F_first_top.kp T.b_first_top .nil pass0 (pa_cons (pv 1) pa_nil)) pe_int) (pe_call (ok_half_of T) (hr.mono (by decide)) rfl T.m_half_of T.F_half_of.kp T.b_half_of .nil pass0 (pa_cons (pv 0) (pa_cons (pv 1) pa_nil)))) (pe_glob rfl T.m_MOST_CELLS T.r_MOST_CELLS) (nomark _)))
      pss_nil))), body_P h fun ds O hl => ?_⟩
  have h1 := h.1
  match vs, ds, h1, hl with
  | [v_0, v_1], [x_0, x_1], _, _ =>
  refine ⟨_, rfl, ?_⟩
  refine sv_st (σ' := [some v_0, some v_1, none, none]) rfl ?_
  refine sv_asgT sub0 (ev_var rfl (.tail _ (.head _))) fun v1 x7 => tg_tup2 (.head _) fun v3 v4 x5 x6 => tgs_cons (tg_name (σ' := [some v_0, some v_1, some v3, none]) rfl (tgs_cons (tg_name (σ' := [some v_0, some v_1, some v3, some v4]) rfl (tgs_nil (?_)))))
  refine sv_if sub0 (tv_or (tv_not (tv_test (ev_chain os_le os_le ev_int (ev_var rfl (.head _)) ev_int))) (tv_not (tv_test (ev_chain os_le os_le ev_int (ev_var rfl (.tail _ (.head _))) ev_int)))) ?_ ?_
  · refine sv_assoc ?_
    exact sv_ret sub0 ev_bl
  · refine sv_skip ?_
    exact sv_ret sub0 (ev_op os_le (ev_op os_mul (ev_op os_mul (ev_cP (fun _ => u1_len) (av_cons (ev_var rfl (.tail _ (.tail _ (.tail _ (.tail _ (.head _)))))) av_nil)) ev_int) (ev_cP (fun _ => u2_len) (av_cons (ev_var rfl (.tail _ (.tail _ (.tail _ (.head _))))) (av_cons (ev_var rfl (.tail _ (.tail _ (.tail _ (.tail _ (.head _)))))) av_nil)))) ev_int)
set_option maxHeartbeats 0 in
theorem ok_is_whole (T : Txt K mg) : FnOk P w K mg base CX0 1 T.a_is_whole T.fd_is_whole ["thing"] (SpP K 1 (u1 m_is_whole)) := by
  refine T.F_is_whole.ok sc_is_whole (fun vs H Q E h => h.1) (fun cdv A outer s H vs Q E hr h => ?_)
  refine ⟨_, (pss_cons (ps_ret (pe_and (pe_callB call_isi (by rfl) T.z_isinstance (by decide +kernel) (pa_cons (pv 0) (pa_cons (pe_bltn (v := .ty "int") (u := .type "int") (by rfl) T.z_int (by decide +kernel) rfl) pa_nil))) (pe_one (pe_not (pe_callB call_isi (by rfl) T.z_isinstance (by decide +kernel) (pa_cons (pv 0) (pa_cons (pe_bltn (v := .ty "bool") (u := .type "bool") (by rfl) T.z_bool (by decide +kernel) rfl) pa_nil)))))))
      pss_nil), body_P h fun ds O hl => ?_⟩
  have h1 := h.1
  match vs, ds, h1, hl with
  | [v_0], [x_0], _, _ =>
  refine ⟨_, rfl, ?_⟩
  refine sv_st (σ' := [some v_0]) rfl ?_
  exact sv_ret sub0 (ev_and (ev_isi (ev_var rfl (.head _))) (ev_not (ev_isi (ev_var rfl (.head _)))))
set_option maxHeartbeats 0 in
theorem ok_is_figure (T : Txt K mg) : FnOk P w K mg base CX0 2 T.a_is_figure T.fd_is_figure ["kind", "thing"] (SpP K 2 (u2 m_is_figure)) := by
  refine T.F_is_figure.ok sc_is_figure (fun vs H Q E h => h.1) (fun cdv A outer s H vs Q E hr h => ?_)
  refine ⟨_, (pss_cons (ps_set (i := 2) sc_is_figure.nd rfl (Or.inl rfl) (pe_ix ix_seq (pv 0) pe_int (fun _ _ => rfl)))
      (pss_cons (ps_ret (pe_and (pe_call (ok_is_whole T) (hr.mono (by decide)) rfl T.m_is_whole T.F_is_whole.kp T.b_is_whole .nil pass0 (pa_cons (pv 1) pa_nil)) (pe_one (pe_chain op_le op_le (pe_un un_neg (pv 2)) (pv 1) (pv 2)))))
      pss_nil)), body_P h fun ds O hl => ?_⟩
  have h1 := h.1
  match vs, ds, h1, hl with
  | [v_0, v_1], [x_0, x_1], _, _ =>
  refine ⟨_, rfl, ?_⟩
  refine sv_st (σ' := [some v_0, some v_1, none]) rfl ?_
  refine sv_asg sub0 (ev_op os_idx (ev_var rfl (.head _)) ev_int) (σ' := (fun v1 => [some v_0, some v_1, some v1])) (fun _ => rfl) fun v1 x2 => ?_
  exact sv_ret sub0 (ev_and (ev_cP (fun _ => u1_len) (av_cons (ev_var rfl (.tail _ (.tail _ (.head _)))) av_nil)) (ev_chain os_le os_le (ev_un us_neg (ev_var rfl (.head _))) (ev_var rfl (.tail _ (.tail _ (.head _)))) (ev_var rfl (.head _))))
set_option maxHeartbeats 0 in
theorem ok_is_entry (T : Txt K mg) : FnOk P w K mg base CX0 3 T.a_is_entry T.fd_is_entry ["kind", "thing"] (SpP K 2 (u2 m_is_entry)) := by
  refine T.F_is_entry.ok sc_is_entry (fun vs H Q E h => h.1) (fun cdv A outer s H vs Q E hr h => ?_)
  refine ⟨_, (pss_cons (ps_ret (pe_or (pe_cmpR op_isU (pv 1) pe_non (nomark _)) (pe_one (pe_call (ok_is_figure T) (hr.mono (by decide)) rfl T.m_is_figure T.F_is_figure.kp T.b_is_figure .nil pass0 (pa_cons (pv 0) (pa_cons (pv 1) pa_nil))))))
      pss_nil), body_P h fun ds O hl => ?_⟩
  have h1 := h.1
  match vs, ds, h1, hl with
  | [v_0, v_1], [x_0, x_1], _, _ =>
  refine ⟨_, rfl, ?_⟩
  refine sv_st (σ' := [some v_0, some v_1]) rfl ?_
  exact sv_ret sub0 (ev_or (ev_op os_is (ev_var rfl (.tail _ (.head _))) ev_non) (ev_cP (fun _ => u2_len) (av_cons (ev_var rfl (.head _)) (av_cons (ev_var rfl (.tail _ (.head _))) av_nil))))
set_option maxHeartbeats 0 in
theorem ok_is_table_row (T : Txt K mg) : FnOk P w K mg base CX0 4 T.a_is_table_row T.fd_is_table_row ["kind", "looks", "thing"] (SpP K 3 (u3 m_is_table_row)) := by
  refine T.F_is_table_row.ok sc_is_table_row (fun vs H Q E h => h.1) (fun cdv A outer s H vs Q E hr h => ?_)
  refine ⟨_, (pss_cons (ps_if (PW.pt (pw_or (pt_not (pt_truth (pe_callB call_isi (by rfl) T.z_isinstance (by decide +kernel) (pa_cons (pv 2) (pa_cons (pe_bltn (v := .ty "list") (u := .type "list") (by rfl) T.z_list (by decide +kernel) rfl) pa_nil))) (by intro _; rfl))) (pw_or1 (pt_cmpR (op_neD hr.units) (pe_callB call_len (by rfl) T.z_len (by decide +kernel) (pa_cons (pv 2) pa_nil)) (pe_op op_mulU pe_int (pe_call (ok_half_of T) (hr.mono (by decide)) rfl T.m_half_of T.F_half_of.kp T.b_half_of .nil pass0 (pa_cons (pv 0) (pa_cons (pv 1) pa_nil)))) (nomark _))))) (pss_cons (ps_ret pe_bl)
      pss_nil) pss_nil)
      (pss_cons (ps_ret (pe_callB (cr_all rfl) (by rfl) T.z_all (by decide +kernel) (pa_cons (pe_lc (own := [("within", 3)]) (g := (gName 3)) (tt := tYes) rfl sc_is_table_row.nd (pi_seq (pv 2)) (blkOk_by (own := [("within", 3)]) (N := ["kind", "looks", "thing", "within"]) (sc := defScope s_is_table_row) (by decide +kernel)) (fun _ _ _ _ _ => (pg_name (i := 3) sc_is_table_row.nd rfl (Or.inl rfl))) (fun _ _ _ _ _ => pts_nil) (fun _ _ _ _ _ => (pe_call (ok_is_entry T) (hr.mono (by decide)) (by exact rfl) T.m_is_entry T.F_is_entry.kp T.b_is_entry .nil pass0 (pa_cons (pv 0) (pa_cons (pv 3) pa_nil))))) pa_nil)))
      pss_nil)), body_P h fun ds O hl => ?_⟩
  have h1 := h.1
  match vs, ds, h1, hl with
  | [v_0, v_1, v_2], [x_0, x_1, x_2], _, _ =>
  refine ⟨_, rfl, ?_⟩
  refine sv_st (σ' := [some v_0, some v_1, some v_2, none]) rfl ?_
  refine sv_if sub0 (tv_or (tv_not (tv_tr (ev_isi (ev_var rfl (.tail _ (.tail _ (.head _))))))) (tv_test (ev_op os_ne (ev_cb cs_len (av_cons (ev_var rfl (.tail _ (.tail _ (.head _)))) av_nil)) (ev_op os_mul ev_int (ev_cP (fun _ => u2_len) (av_cons (ev_var rfl (.head _)) (av_cons (ev_var rfl (.tail _ (.head _))) av_nil))))))) ?_ ?_
  · refine sv_assoc ?_
    exact sv_ret sub0 ev_bl
  · refine sv_skip ?_
    exact sv_ret sub0 (ev_cb cs_all (av_cons (ev_lc1 (σ2 := fun v1 => [some v_0, some v_1, some v_2, some v1]) (iv_seq (ev_var rfl (.tail _ (.tail _ (.head _))))) (fun _ => rfl) (fun _ => rfl) (fun v1 x2 => tv_yes) (fun v1 x2 => (ev_cP (fun _ => u2_len) (av_cons (ev_var rfl (.tail _ (.head _))) (av_cons (ev_var rfl (.head _)) av_nil))))) av_nil))
set_option maxHeartbeats 0 in
theorem ok_is_table (T : Txt K mg) : FnOk P w K mg base CX0 5 T.a_is_table T.fd_is_table ["kind", "looks", "thing"] (SpP K 3 (u3 m_is_table)) := by
  refine T.F_is_table.ok sc_is_table (fun vs H Q E h => h.1) (fun cdv A outer s H vs Q E hr h => ?_)
  refine ⟨_, (pss_cons (ps_if (pt_not (pt_truth (pe_call (ok_are_looks T) (hr.mono (by decide)) rfl T.m_are_looks T.F_are_looks.kp T.b_are_looks .nil pass0 (pa_cons (pv 0) (pa_cons (pv 1) pa_nil))) (by intro _; rfl))) (pss_cons (ps_ret pe_bl)
      pss_nil) pss_nil)
      (pss_cons (ps_if (PW.pt (pw_or (pt_not (pt_truth (pe_callB call_isi (by rfl) T.z_isinstance (by decide +kernel) (pa_cons (pv 2) (pa_cons (pe_bltn (v := .ty "list") (u := .type "list") (by rfl) T.z_list (by decide +kernel) rfl) pa_nil))) (by intro _; rfl))) (pw_or1 (pt_cmpR (op_neD hr.units) (pe_callB call_len (by rfl) T.z_len (by decide +kernel) (pa_cons (pv 2) pa_nil)) (pe_call (ok_first_top T) (hr.mono (by decide)) rfl T.m_first_top T.F_first_top.kp T.b_first_top .nil pass0 (pa_cons (pv 1) pa_nil)) (nomark _))))) (pss_cons (ps_ret pe_bl)
      pss_nil) pss_nil)
      (pss_cons (ps_ret (pe_callB (cr_all rfl) (by rfl) T.z_all (by decide +kernel) (pa_cons (pe_lc (own := [("row", 3)]) (g := (gName 3)) (tt := tYes) rfl sc_is_table.nd (pi_seq (pv 2)) (blkOk_by (own := [("row", 3)]) (N := ["kind", "looks", "thing", "row"]) (sc := defScope s_is_table) (by decide +kernel)) (fun _ _ _ _ _ => (pg_name (i := 3) sc_is_table.nd rfl (Or.inl rfl))) (fun _ _ _ _ _ => pts_nil) (fun _ _ _ _ _ => (pe_call (ok_is_table_row T) (hr.mono (by decide)) (by exact rfl) T.m_is_table_row T.F_is_table_row.kp T.b_is_table_row .nil pass0 (pa_cons (pv 0) (pa_cons (pv 1) (pa_cons (pv 3) pa_nil)))))) pa_nil)))
      pss_nil))), body_P h fun ds O hl => ?_⟩
  have h1 := h.1
  match vs, ds, h1, hl with
  | [v_0, v_1, v_2], [x_0, x_1, x_2], _, _ =>
  refine ⟨_, rfl, ?_⟩
  refine sv_st (σ' := [some v_0, some v_1, some v_2, none]) rfl ?_
  refine sv_if sub0 (tv_not (tv_tr (ev_cP (fun _ => u2_len) (av_cons (ev_var rfl (.head _)) (av_cons (ev_var rfl (.tail _ (.head _))) av_nil))))) ?_ ?_
  · refine sv_assoc ?_
    exact sv_ret sub0 ev_bl
  · refine sv_skip ?_
    refine sv_if sub0 (tv_or (tv_not (tv_tr (ev_isi (ev_var rfl (.tail _ (.tail _ (.head _))))))) (tv_test (ev_op os_ne (ev_cb cs_len (av_cons (ev_var rfl (.tail _ (.tail _ (.head _)))) av_nil)) (ev_cP (fun _ => u1_len) (av_cons (ev_var rfl (.tail _ (.head _))) av_nil))))) ?_ ?_
    · refine sv_assoc ?_
      exact sv_ret sub0 ev_bl
    · refine sv_skip ?_
      exact sv_ret sub0 (ev_cb cs_all (av_cons (ev_lc1 (σ2 := fun v1 => [some v_0, some v_1, some v_2, some v1]) (iv_seq (ev_var rfl (.tail _ (.tail _ (.head _))))) (fun _ => rfl) (fun _ => rfl) (fun v1 x2 => tv_yes) (fun v1 x2 => (ev_cP (fun _ => u3_len) (av_cons (ev_var rfl (.tail _ (.head _))) (av_cons (ev_var rfl (.tail _ (.tail _ (.head _)))) (av_cons (ev_var rfl (.head _)) av_nil)))))) av_nil))
set_option maxHeartbeats 0 in
theorem ok_entry (T : Txt K mg) : FnOk P w K mg base CX0 2 T.a_entry T.fd_entry ["kind", "looks", "table", "cell"] (SpP K 4 (u4 m_entry)) := by
  refine T.F_entry.ok sc_entry (fun vs H Q E h => h.1) (fun cdv A outer s H vs Q E hr h => ?_)
  refine ⟨_, (pss_cons (ps_asg (pv 3) (pg_tup rfl (pgs_cons (pg_name (i := 4) sc_entry.nd rfl (Or.inl rfl)) (pgs_cons (pg_name (i := 5) sc_entry.nd rfl (Or.inl rfl)) pgs_nil))))
      (pss_cons (ps_ret (pe_ix ix_seq (pe_ix ix_seq (pv 2) (pe_op op_sub (pv 4) (pe_call (ok_first_top T) (hr.mono (by decide)) rfl T.m_first_top T.F_first_top.kp T.b_first_top .nil pass0 (pa_cons (pv 1) pa_nil))) (fun _ _ => rfl)) (pe_op op_addU (pv 5) (pe_call (ok_half_of T) (hr.mono (by decide)) rfl T.m_half_of T.F_half_of.kp T.b_half_of .nil pass0 (pa_cons (pv 0) (pa_cons (pv 1) pa_nil)))) (fun _ _ => rfl)))
      pss_nil)), body_P h fun ds O hl => ?_⟩
  have h1 := h.1
  match vs, ds, h1, hl with
  | [v_0, v_1, v_2, v_3], [x_0, x_1, x_2, x_3], _, _ =>
  refine ⟨_, rfl, ?_⟩
  refine sv_st (σ' := [some v_0, some v_1, some v_2, some v_3, none, none]) rfl ?_
  refine sv_asgT sub0 (ev_var rfl (.tail _ (.tail _ (.tail _ (.head _))))) fun v1 x7 => tg_tup2 (.head _) fun v3 v4 x5 x6 => tgs_cons (tg_name (σ' := [some v_0, some v_1, some v_2, some v_3, some v3, none]) rfl (tgs_cons (tg_name (σ' := [some v_0, some v_1, some v_2, some v_3, some v3, some v4]) rfl (tgs_nil (?_)))))
  exact sv_ret sub0 (ev_op os_idx (ev_op os_idx (ev_var rfl (.tail _ (.tail _ (.tail _ (.tail _ (.tail _ (.head _))))))) (ev_op os_sub (ev_var rfl (.head _)) (ev_cP (fun _ => u1_len) (av_cons (ev_var rfl (.tail _ (.tail _ (.tail _ (.tail _ (.head _)))))) av_nil)))) (ev_op os_add (ev_var rfl (.tail _ (.head _))) (ev_cP (fun _ => u2_len) (av_cons (ev_var rfl (.tail _ (.tail _ (.tail _ (.head _))))) (av_cons (ev_var rfl (.tail _ (.tail _ (.tail _ (.tail _ (.head _)))))) av_nil)))))
set_option maxHeartbeats 0 in
theorem ok__law_deck (T : Txt K mg) : FnOk P w K mg base CX0 1 T.a__law_deck T.fd__law_deck ["cell", "turn"] (SpN K 2 (u2 m__law_deck)) := by
  refine T.F__law_deck.ok sc__law_deck (fun vs H Q E h => h.1) (fun cdv A outer s H vs Q E hr h => ?_)
  refine ⟨_, (pss_cons (ps_if (pt_cmpR op_ge (pv 0) (pe_op op_pow pe_int pe_int) (nomark _)) (pss_cons (ps_ret (pe_lst (pa_cons (pe_op op_sub (pv 0) (pe_op op_pow pe_int pe_int)) (pa_cons (pe_op op_mod (pv 0) pe_int) (pa_cons (pv 1) pa_nil)))))
      pss_nil) pss_nil)
      (pss_cons (ps_ret (pe_lst (pa_cons pe_int (pa_cons (pe_op op_mod (pv 0) pe_int) (pa_cons (pv 1) pa_nil)))))
      pss_nil)), body_N h fun ds O hl => ?_⟩
  have h1 := h.1
  match vs, ds, h1, hl with
  | [v_0, v_1], [x_0, x_1], _, _ =>
  refine ⟨_, rfl, ?_⟩
  refine nv_st (σ' := [some v_0, some v_1]) rfl ?_
  refine nv_if (tv_test (ev_op os_ge (ev_var rfl (.head _)) (ev_op os_pow ev_int ev_int))) ?_ ?_
  · refine nv_assoc ?_
    exact nv_ret (av_cons (ev_op os_sub (ev_var rfl (.head _)) (ev_op os_pow ev_int ev_int)) (av_cons (ev_op os_mod (ev_var rfl (.head _)) ev_int) (av_cons (ev_var rfl (.tail _ (.head _))) av_nil)))
  · refine nv_skip ?_
    exact nv_ret (av_cons ev_int (av_cons (ev_op os_mod (ev_var rfl (.head _)) ev_int) (av_cons (ev_var rfl (.tail _ (.head _))) av_nil)))
set_option maxHeartbeats 0 in
theorem ok__law_pick (T : Txt K mg) : FnOk P w K mg base CX0 1 T.a__law_pick T.fd__law_pick ["deck", "many"] (SpD K 1 (u1 m__law_pick)) := by
  refine T.F__law_pick.ok sc__law_pick (fun vs H Q E h => h.1) (fun cdv A outer s H vs Q E hr h => ?_)
  refine ⟨_, (pss_cons (ps_if (pt_cmpR op_gt (pe_ix ix_seq (pv 0) pe_int (fun _ _ => rfl)) pe_int (nomark _)) (pss_cons (ps_set (i := 2) sc__law_pick.nd rfl (Or.inl rfl) (pe_op op_mod (pe_ix ix_seq (pv 0) pe_int (fun _ _ => rfl)) (pv 1)))
      (pss_cons (ps_asg (pe_op op_fdivU (pe_ix ix_seq (pv 0) pe_int (fun _ _ => rfl)) (pv 1)) (pg_sub (pv 0) pe_int set_list))
      (pss_cons (ps_ret (pv 2))
      pss_nil))) pss_nil)
      (pss_cons (ps_asg (pe_op op_addU (pe_ix ix_seq (pv 0) pe_int (fun _ _ => rfl)) pe_int) (pg_sub (pv 0) pe_int set_list))
      (pss_cons (ps_set (i := 3) sc__law_pick.nd rfl (Or.inl rfl) (pe_op op_mod (pe_op op_pow (pe_op op_addU (pe_ix ix_seq (pv 0) pe_int (fun _ _ => rfl)) (pe_op op_mulU pe_int (pe_ix ix_seq (pv 0) pe_int (fun _ _ => rfl)))) pe_int) pe_int))
      (pss_cons (ps_set (i := 2) sc__law_pick.nd rfl (Or.inl rfl) (pe_op op_fdivU (pe_op op_mod (pe_op op_pow (pe_op op_addU (pv 3) (pe_op op_mulU pe_int (pe_ix ix_seq (pv 0) pe_int (fun _ _ => rfl)))) pe_int) pe_int) pe_int))
      (pss_cons (ps_if (pt_cmpR op_gt (pv 1) pe_int (nomark _)) (pss_cons (ps_ret (pe_op op_mod (pe_op op_addU (pe_op op_mulU (pv 2) pe_int) (pv 3)) (pv 1)))
      pss_nil) pss_nil)
      (pss_cons (ps_ret (pe_op op_mod (pv 2) (pv 1)))
      pss_nil)))))), body_D h fun a us ds O hv hl => ?_⟩
  have h1 := h.1
  subst hv
  match us, ds, h1, hl with
  | [v_1], [x_1], _, _ =>
  refine ⟨_, rfl, ?_⟩
  refine sv_st (σ' := [some (.ref a), some v_1, none, none]) rfl ?_
  refine sv_if sub1 (tv_test (ev_op os_gt (ev_sidx rfl ev_int) ev_int)) ?_ ?_
  · refine sv_assoc ?_
    refine sv_asg sub1 (ev_op os_mod (ev_sidx rfl ev_int) (ev_var rfl (.head _))) (σ' := (fun v1 => [some (.ref a), some v_1, some v1, none])) (fun _ => rfl) fun v1 x2 => ?_
    refine sv_assoc ?_
    refine sv_sset sub1 rfl (ev_op os_fdiv (ev_sidx rfl ev_int) (ev_var rfl (.tail _ (.head _)))) ev_int ?_
    refine sv_assoc ?_
    exact sv_ret sub1 (ev_var rfl (.head _))
  · refine sv_skip ?_
    refine sv_sset sub1 rfl (ev_op os_add (ev_sidx rfl ev_int) ev_int) ev_int ?_
    refine sv_asg sub1 (ev_op os_mod (ev_op os_pow (ev_op os_add (ev_sidx rfl ev_int) (ev_op os_mul ev_int (ev_sidx rfl ev_int))) ev_int) ev_int) (σ' := (fun v3 => [some (.ref a), some v_1, none, some v3])) (fun _ => rfl) fun v3 x6 => ?_
    refine sv_asg sub1 (ev_op os_fdiv (ev_op os_mod (ev_op os_pow (ev_op os_add (ev_var rfl (.head _)) (ev_op os_mul ev_int (ev_sidx rfl ev_int))) ev_int) ev_int) ev_int) (σ' := (fun v4 => [some (.ref a), some v_1, some v4, some v3])) (fun _ => rfl) fun v4 x5 => ?_
    refine sv_if sub1 (tv_test (ev_op os_gt (ev_var rfl (.tail _ (.tail _ (.head _)))) ev_int)) ?_ ?_
    · refine sv_assoc ?_
      exact sv_ret sub1 (ev_op os_mod (ev_op os_add (ev_op os_mul (ev_var rfl (.head _)) ev_int) (ev_var rfl (.tail _ (.head _)))) (ev_var rfl (.tail _ (.tail _ (.head _)))))
    · refine sv_skip ?_
      exact sv_ret sub1 (ev_op os_mod (ev_var rfl (.head _)) (ev_var rfl (.tail _ (.tail _ (.head _)))))
set_option maxHeartbeats 0 in
theorem ok__law_kind (T : Txt K mg) : FnOk P w K mg base CX0 2 T.a__law_kind T.fd__law_kind ["deck"] (SpD K 0 (u0 m__law_kind)) := by
  refine T.F__law_kind.ok sc__law_kind (fun vs H Q E h => h.1) (fun cdv A outer s H vs Q E hr h => ?_)
  refine ⟨_, (pss_cons (ps_set (i := 1) sc__law_kind.nd rfl (Or.inl rfl) (pe_ix ix_seq (pe_lst (pa_cons pe_int (pa_cons pe_int (pa_cons pe_int (pa_cons pe_int (pa_cons pe_int pa_nil)))))) (pe_call (ok__law_pick T) (hr.mono (by decide)) rfl T.m__law_pick T.F__law_pick.kp T.b__law_pick .nil pass0 (pa_cons (pv 0) (pa_cons pe_int pa_nil))) (fun _ _ => rfl)))
      (pss_cons (ps_ret (pe_tup (pa_cons (pv 1) (pa_cons (pe_op op_addU (pe_op op_fdivU (pv 1) pe_int) (pe_call (ok__law_pick T) (hr.mono (by decide)) rfl T.m__law_pick T.F__law_pick.kp T.b__law_pick .nil pass0 (pa_cons (pv 0) (pa_cons (pe_op op_sub (pv 1) (pe_op op_fdivU (pv 1) pe_int)) pa_nil)))) pa_nil))))
      pss_nil)), body_D h fun a us ds O hv hl => ?_⟩
  have h1 := h.1
  subst hv
  match us, ds, h1, hl with
  | [], [], _, _ =>
  refine ⟨_, rfl, ?_⟩
  refine sv_st (σ' := [some (.ref a), none]) rfl ?_
  refine sv_asg sub1 (ev_op os_idx (ev_lst (av_cons ev_int (av_cons ev_int (av_cons ev_int (av_cons ev_int (av_cons ev_int av_nil)))))) (ev_cD rfl (fun _ _ => u1_len) (av_cons ev_int av_nil))) (σ' := (fun v1 => [some (.ref a), some v1])) (fun _ => rfl) fun v1 x2 => ?_
  exact sv_ret sub1 (ev_tup (av_cons (ev_var rfl (.head _)) (av_cons (ev_op os_add (ev_op os_fdiv (ev_var rfl (.head _)) ev_int) (ev_cD rfl (fun _ _ => u1_len) (av_cons (ev_op os_sub (ev_var rfl (.head _)) (ev_op os_fdiv (ev_var rfl (.head _)) ev_int)) av_nil))) av_nil)))
set_option maxHeartbeats 0 in
theorem ok__law_whole (T : Txt K mg) : FnOk P w K mg base CX0 1 T.a__law_whole T.fd__law_whole ["thing"] (SpP K 1 (u1 m__law_whole)) := by
  refine T.F__law_whole.ok sc__law_whole (fun vs H Q E h => h.1) (fun cdv A outer s H vs Q E hr h => ?_)
  refine ⟨_, (pss_cons (ps_ret (pe_and (pe_callB call_isi (by rfl) T.z_isinstance (by decide +kernel) (pa_cons (pv 0) (pa_cons (pe_bltn (v := .ty "int") (u := .type "int") (by rfl) T.z_int (by decide +kernel) rfl) pa_nil))) (pe_one (pe_not (pe_callB call_isi (by rfl) T.z_isinstance (by decide +kernel) (pa_cons (pv 0) (pa_cons (pe_bltn (v := .ty "bool") (u := .type "bool") (by rfl) T.z_bool (by decide +kernel) rfl) pa_nil)))))))
      pss_nil), body_P h fun ds O hl => ?_⟩
  have h1 := h.1
  match vs, ds, h1, hl with
  | [v_0], [x_0], _, _ =>
  refine ⟨_, rfl, ?_⟩
  refine sv_st (σ' := [some v_0]) rfl ?_
  exact sv_ret sub0 (ev_and (ev_isi (ev_var rfl (.head _))) (ev_not (ev_isi (ev_var rfl (.head _)))))
set_option maxHeartbeats 0 in
theorem ok__law_thing_s (T : Txt K mg) (fu : Nat) (IH : FnOk P w K mg base CX0 (fu + 2) T.a__law_thing T.fd__law_thing ["deck", "deep"] (SpD K 1 (u1 (m__law_thing_r fu)))) : FnOk P w K mg base CX0 (fu + 1 + 2) T.a__law_thing T.fd__law_thing ["deck", "deep"] (SpD K 1 (u1 (m__law_thing_r (fu + 1)))) := by
  refine T.F__law_thing.ok sc__law_thing (fun vs H Q E h => h.1) (fun cdv A outer s H vs Q E hr h => ?_)
  refine ⟨_, (pss_cons (ps_set (i := 2) sc__law_thing.nd rfl (Or.inl rfl) (pe_call (ok__law_pick T) (hr.mono (by omega)) rfl T.m__law_pick T.F__law_pick.kp T.b__law_pick .nil pass0 (pa_cons (pv 0) (pa_cons pe_int pa_nil))))
      (pss_cons (ps_set (i := 3) sc__law_thing.nd rfl (Or.inl rfl) (pe_ix ix_seq (pe_lst (pa_cons (pe_op op_sub (pe_call (ok__law_pick T) (hr.mono (by omega)) rfl T.m__law_pick T.F__law_pick.kp T.b__law_pick .nil pass0 (pa_cons (pv 0) (pa_cons pe_int pa_nil))) pe_int) (pa_cons (pe_op op_sub (pe_call (ok__law_pick T) (hr.mono (by omega)) rfl T.m__law_pick T.F__law_pick.kp T.b__law_pick .nil pass0 (pa_cons (pv 0) (pa_cons (pe_op op_pow pe_int pe_int) pa_nil))) (pe_op op_pow pe_int pe_int)) (pa_cons (pe_op op_sub pe_int (pe_op op_pow pe_int pe_int)) pa_nil)))) (pe_call (ok__law_pick T) (hr.mono (by omega)) rfl T.m__law_pick T.F__law_pick.kp T.b__law_pick .nil pass0 (pa_cons (pv 0) (pa_cons pe_int pa_nil))) (fun _ _ => rfl)))
      (pss_cons (ps_if (pt_cmpR op_lt (pv 2) pe_int (nomark _)) (pss_cons (ps_ret (pv 3))
      pss_nil) pss_nil)
      (pss_cons (ps_if (pt_cmpR op_lt (pv 2) pe_int (nomark _)) (pss_cons (ps_ret (pe_ix ix_seq (pe_lst (pa_cons pe_bl (pa_cons pe_bl (pa_cons pe_non pa_nil)))) (pe_op op_sub (pv 2) pe_int) (fun _ _ => rfl)))
      pss_nil) pss_nil)
      (pss_cons (ps_if (pt_cmpR op_lt (pv 2) pe_int (nomark _)) (pss_cons (ps_ret (pe_ix ix_seq (pe_lst (pa_cons pe_str (pa_cons pe_str (pa_cons pe_str (pa_cons pe_str (pa_cons pe_str (pa_cons pe_str pa_nil))))))) (pe_call (ok__law_pick T) (hr.mono (by omega)) rfl T.m__law_pick T.F__law_pick.kp T.b__law_pick .nil pass0 (pa_cons (pv 0) (pa_cons pe_int pa_nil))) (fun _ _ => rfl)))
      pss_nil) pss_nil)
      (pss_cons (ps_setLc (i := 4) (own := [("k", 5)]) (g := (gName 5)) (tt := tYes) rfl sc__law_thing.nd rfl rfl (sw_true rfl rfl rfl (by decide +kernel)) (pi_range1 (by rfl) T.z_range (pa_cons (pe_op op_mulU (pe_call (ok__law_pick T) (hr.mono (by omega)) rfl T.m__law_pick T.F__law_pick.kp T.b__law_pick .nil pass0 (pa_cons (pv 0) (pa_cons pe_int pa_nil))) (pe_callTy call_int1 (by rfl) T.z_int (by decide +kernel) (pa_cons (pe_cmpR op_gt (pv 1) pe_int (nomark _)) pa_nil))) pa_nil)) (blkOk_by (own := [("k", 5)]) (N := ["deck", "deep", "kind", "far", "some", "k"]) (sc := defScope s__law_thing) (by decide +kernel)) (fun _ _ _ _ _ => (pg_name (i := 5) sc__law_thing.nd rfl (Or.inl rfl))) (fun _ _ _ _ _ => pts_nil) (fun _ _ _ _ _ => (pe_call IH (hr.mono (by omega)) (by exact rfl) T.m__law_thing T.F__law_thing.kp T.b__law_thing .nil pass0 (pa_cons (pv 0) (pa_cons (pe_op op_sub (pv 1) pe_int) pa_nil)))))
      (pss_cons (ps_ret (pe_ifExp (pt_cmpR (op_eqD hr.units) (pv 2) pe_int (nomark _)) (pv 4) (pe_callTy call_tuple_of (by rfl) T.z_tuple (by decide +kernel) (pa_cons (pv 4) pa_nil))))
      pss_nil))))))), body_D h fun a us ds O hv hl => ?_⟩
  have h1 := h.1
  subst hv
  match us, ds, h1, hl with
  | [v_1], [x_1], _, _ =>
  refine ⟨_, rfl, ?_⟩
  refine sv_st (σ' := [some (.ref a), some v_1, none, none, none, none]) rfl ?_
  refine sv_asg sub1 (ev_cD rfl (fun _ _ => u1_len) (av_cons ev_int av_nil)) (σ' := (fun v1 => [some (.ref a), some v_1, some v1, none, none, none])) (fun _ => rfl) fun v1 x36 => ?_
  refine sv_asg sub1 (ev_op os_idx (ev_lst (av_cons (ev_op os_sub (ev_cD rfl (fun _ _ => u1_len) (av_cons ev_int av_nil)) ev_int) (av_cons (ev_op os_sub (ev_cD rfl (fun _ _ => u1_len) (av_cons (ev_op os_pow ev_int ev_int) av_nil)) (ev_op os_pow ev_int ev_int)) (av_cons (ev_op os_sub ev_int (ev_op os_pow ev_int ev_int)) av_nil)))) (ev_cD rfl (fun _ _ => u1_len) (av_cons ev_int av_nil))) (σ' := (fun v2 => [some (.ref a), some v_1, some v1, some v2, none, none])) (fun _ => rfl) fun v2 x35 => ?_
  refine sv_if sub1 (tv_test (ev_op os_lt (ev_var rfl (.tail _ (.head _))) ev_int)) ?_ ?_
  · refine sv_assoc ?_
    exact sv_ret sub1 (ev_var rfl (.head _))
  · refine sv_skip ?_
    refine sv_if sub1 (tv_test (ev_op os_lt (ev_var rfl (.tail _ (.head _))) ev_int)) ?_ ?_
    · refine sv_assoc ?_
      exact sv_ret sub1 (ev_op os_idx (ev_lst (av_cons ev_bl (av_cons ev_bl (av_cons ev_non av_nil)))) (ev_op os_sub (ev_var rfl (.tail _ (.head _))) ev_int))
    · refine sv_skip ?_
      refine sv_if sub1 (tv_test (ev_op os_lt (ev_var rfl (.tail _ (.head _))) ev_int)) ?_ ?_
      · refine sv_assoc ?_
        exact sv_ret sub1 (ev_op os_idx (ev_lst (av_cons ev_str (av_cons ev_str (av_cons ev_str (av_cons ev_str (av_cons ev_str (av_cons ev_str av_nil))))))) (ev_cD rfl (fun _ _ => u1_len) (av_cons ev_int av_nil)))
      · refine sv_skip ?_
        refine sv_asg sub1 (ev_lc1 (σ2 := fun v3 => [some (.ref a), some v_1, some v1, some v2, none, some v3]) (iv_rng1 (av_cons (ev_op os_mul (ev_cD rfl (fun _ _ => u1_len) (av_cons ev_int av_nil)) (ev_cb cs_int (av_cons (ev_op os_gt (ev_var rfl (.tail _ (.tail _ (.head _)))) ev_int) av_nil))) av_nil)) (fun _ => rfl) (fun _ => rfl) (fun v3 x4 => tv_yes) (fun v3 x4 => (ev_cD rfl (fun _ _ => u1_len) (av_cons (ev_op os_sub (ev_var rfl (.tail _ (.tail _ (.tail _ (.head _))))) ev_int) av_nil)))) (σ' := (fun v5 => [some (.ref a), some v_1, some v1, some v2, some v5, none])) (fun _ => rfl) fun v5 x6 => ?_
        exact sv_ret sub1 (ev_if (tv_test (ev_op os_eq (ev_var rfl (.tail _ (.tail _ (.head _)))) ev_int)) (ev_var rfl (.head _)) (ev_cb cs_tuple (av_cons (ev_var rfl (.head _)) av_nil)))
theorem ok__law_thing_r (T : Txt K mg) : ∀ fu : Nat, FnOk P w K mg base CX0 (fu + 2) T.a__law_thing T.fd__law_thing ["deck", "deep"] (SpD K 1 (u1 (m__law_thing_r fu)))
  | 0 => ⟨fun vs H Q E h => (spD_bad (fun ds m => by unfold u1; split <;> rfl) h).elim, fun A outer s H args us vs Q E _ _ _ _ h => (spD_bad (fun ds m => by unfold u1; split <;> rfl) h).elim⟩
  | fu + 1 => ok__law_thing_s T fu (ok__law_thing_r T fu)
theorem ok__law_thing (T : Txt K mg) : FnOk P w K mg base CX0 8 T.a__law_thing T.fd__law_thing ["deck", "deep"] (SpD K 1 (u1 m__law_thing)) := ok__law_thing_r T 6
set_option maxHeartbeats 0 in
theorem ok__law_half (T : Txt K mg) : FnOk P w K mg base CX0 1 T.a__law_half T.fd__law_half ["kind", "looks"] (SpP K 2 (u2 m__law_half)) := by
  refine T.F__law_half.ok sc__law_half (fun vs H Q E h => h.1) (fun cdv A outer s H vs Q E hr h => ?_)
  refine ⟨_, (pss_cons (ps_ret (pe_op op_addU (pe_op op_mulU (pe_ix ix_seq (pv 0) pe_int (fun _ _ => rfl)) (pe_ix ix_seq (pe_lst (pa_cons pe_int (pa_cons pe_int (pa_cons pe_int (pa_cons pe_int (pa_cons pe_int (pa_cons pe_int (pa_cons pe_int (pa_cons pe_int (pa_cons pe_int (pa_cons pe_int (pa_cons pe_int pa_nil)))))))))))) (pe_ix ix_seq (pv 1) pe_int (fun _ _ => rfl)) (fun _ _ => rfl))) pe_int))
      pss_nil), body_P h fun ds O hl => ?_⟩
  have h1 := h.1
  match vs, ds, h1, hl with
  | [v_0, v_1], [x_0, x_1], _, _ =>
  refine ⟨_, rfl, ?_⟩
  refine sv_st (σ' := [some v_0, some v_1]) rfl ?_
  exact sv_ret sub0 (ev_op os_add (ev_op os_mul (ev_op os_idx (ev_var rfl (.head _)) ev_int) (ev_op os_idx (ev_lst (av_cons ev_int (av_cons ev_int (av_cons ev_int (av_cons ev_int (av_cons ev_int (av_cons ev_int (av_cons ev_int (av_cons ev_int (av_cons ev_int (av_cons ev_int (av_cons ev_int av_nil)))))))))))) (ev_op os_idx (ev_var rfl (.tail _ (.head _))) ev_int))) ev_int)
set_option maxHeartbeats 0 in
theorem ok__law_is_table (T : Txt K mg) : FnOk P w K mg base CX0 2 T.a__law_is_table T.fd__law_is_table ["kind", "looks", "thing"] (SpP K 3 (u3 m__law_is_table)) := by
  refine T.F__law_is_table.ok sc__law_is_table (fun vs H Q E h => h.1) (fun cdv A outer s H vs Q E hr h => ?_)
  refine ⟨_, (pss_cons (ps_if (PW.pt (pw_or (pt_not (pt_truth (pe_callB call_isi (by rfl) T.z_isinstance (by decide +kernel) (pa_cons (pv 2) (pa_cons (pe_bltn (v := .ty "list") (u := .type "list") (by rfl) T.z_list (by decide +kernel) rfl) pa_nil))) (by intro _; rfl))) (pw_or1 (pt_cmpR (op_neD hr.units) (pe_callB call_len (by rfl) T.z_len (by decide +kernel) (pa_cons (pv 2) pa_nil)) (pe_op op_shlW pe_int (pe_op op_sub (pe_ix ix_seq (pv 1) pe_int (fun _ _ => rfl)) pe_int)) (nomark _))))) (pss_cons (ps_ret pe_bl)
      pss_nil) pss_nil)
      (pss_cons (ps_for PassesOwn.never rfl (pi_seq (pv 2)) (pg_name (i := 3) sc__law_is_table.nd rfl (Or.inl rfl)) (pss_cons (ps_if (PW.pt (pw_or (pt_not (pt_truth (pe_callB call_isi (by rfl) T.z_isinstance (by decide +kernel) (pa_cons (pv 3) (pa_cons (pe_bltn (v := .ty "list") (u := .type "list") (by rfl) T.z_list (by decide +kernel) rfl) pa_nil))) (by intro _; rfl))) (pw_or1 (pt_cmpR (op_neD hr.units) (pe_callB call_len (by rfl) T.z_len (by decide +kernel) (pa_cons (pv 3) pa_nil)) (pe_op op_mulU pe_int (pe_call (ok__law_half T) (hr.mono (by decide)) rfl T.m__law_half T.F__law_half.kp T.b__law_half .nil pass0 (pa_cons (pv 0) (pa_cons (pv 1) pa_nil)))) (nomark _))))) (pss_cons (ps_ret pe_bl)
      pss_nil) pss_nil)
      (pss_cons (ps_if (pt_cmpR (op_neD hr.units) (pe_lc (own := [("one", 4)]) (g := (gName 4)) rfl sc__law_is_table.nd (pi_seq (pv 3)) (blkOk_by (own := [("one", 4)]) (N := ["kind", "looks", "thing", "row", "one"]) (sc := defScope s__law_is_table) (by decide +kernel)) (fun _ _ _ _ _ => (pg_name (i := 4) sc__law_is_table.nd rfl (Or.inl rfl))) (fun _ _ _ _ _ => (pts_one (PW.pt (pw_and (pt_cmpR op_isntU (pv 4) pe_non (nomark _)) (pw_and1 (pt_not (show PT _ _ (tTru K _) from pt_truth (pe_call (ok__law_whole T) (hr.mono (by decide)) (by exact rfl) T.m__law_whole T.F__law_whole.kp T.b__law_whole .nil pass0 (pa_cons (pv 4) pa_nil)) (by intro _; rfl)))))))) (fun _ _ _ _ _ => (pv 4))) (pe_lst pa_nil) (nomark _)) (pss_cons (ps_ret pe_bl)
      pss_nil) pss_nil)
      (pss_cons (ps_if (pt_cmpR (op_neD hr.units) (pe_lc (own := [("one", 4)]) (g := (gName 4)) rfl sc__law_is_table.nd (pi_seq (pv 3)) (blkOk_by (own := [("one", 4)]) (N := ["kind", "looks", "thing", "row", "one"]) (sc := defScope s__law_is_table) (by decide +kernel)) (fun _ _ _ _ _ => (pg_name (i := 4) sc__law_is_table.nd rfl (Or.inl rfl))) (fun _ _ _ _ _ => (pts_one (PW.pt (pw_and (pt_cmpR op_isntU (pv 4) pe_non (nomark _)) (pw_and1 (pt_not (pt_chain op_le op_le (pe_op op_sub pe_int (pe_ix (show IxR _ (rIx K) from ix_seq) (pv 0) pe_int (fun _ _ => rfl))) (pv 4) (pe_ix (show IxR _ (rIx K) from ix_seq) (pv 0) pe_int (fun _ _ => rfl))))))))) (fun _ _ _ _ _ => (pv 4))) (pe_lst pa_nil) (nomark _)) (pss_cons (ps_ret pe_bl)
      pss_nil) pss_nil)
      pss_nil))))
      (pss_cons (ps_ret pe_bl)
      pss_nil))), body_P h fun ds O hl => ?_⟩
  have h1 := h.1
  match vs, ds, h1, hl with
  | [v_0, v_1, v_2], [x_0, x_1, x_2], _, _ =>
  refine ⟨_, rfl, ?_⟩
  refine sv_st (σ' := [some v_0, some v_1, some v_2, none, none]) rfl ?_
  refine sv_if sub0 (tv_or (tv_not (tv_tr (ev_isi (ev_var rfl (.tail _ (.tail _ (.head _))))))) (tv_test (ev_op os_ne (ev_cb cs_len (av_cons (ev_var rfl (.tail _ (.tail _ (.head _)))) av_nil)) (ev_op os_shl ev_int (ev_op os_sub (ev_op os_idx (ev_var rfl (.tail _ (.head _))) ev_int) ev_int))))) ?_ ?_
  · refine sv_assoc ?_
    exact sv_ret sub0 ev_bl
  · refine sv_skip ?_
    refine sv_seq (J1 := (fun (s1 : Unit) σ' L2 C2 => ∃ (o2 : Option V), σ' = [some v_0, some v_1, some v_2, o2, none] ∧ L2 = ([] : List (V × D)) ∧ C2 = (fun _ => []))) (sv_for sub0 (iv_seq (ev_var rfl (.tail _ (.tail _ (.head _))))) ⟨none, rfl, rfl, rfl⟩ lnil (by intro s1 _ _ _ hJ; obtain ⟨o2, rfl, rfl, rfl⟩ := hJ; exact sub0) ?_) ?_
    · intro s1 _ _ _ hJ v3 x4
      obtain ⟨o2, rfl, rfl, rfl⟩ := hJ
      refine tg_name (σ' := [some v_0, some v_1, some v_2, some v3, none]) rfl (?_)
      refine sv_if sub0 (tv_or (tv_not (tv_tr (ev_isi (ev_var rfl (.head _))))) (tv_test (ev_op os_ne (ev_cb cs_len (av_cons (ev_var rfl (.head _)) av_nil)) (ev_op os_mul ev_int (ev_cP (fun _ => u2_len) (av_cons (ev_var rfl (.tail _ (.head _))) (av_cons (ev_var rfl (.tail _ (.tail _ (.head _)))) av_nil))))))) ?_ ?_
      · refine sv_assoc ?_
        exact sv_ret sub0 ev_bl
      · refine sv_skip ?_
        refine sv_if sub0 (tv_test (ev_op os_ne (ev_lc1 (σ2 := fun v5 => [some v_0, some v_1, some v_2, some v3, some v5]) (iv_seq (ev_var rfl (.head _))) (fun _ => rfl) (fun _ => rfl) (fun v5 x6 => (tv_and (tv_test (ev_op os_isnt (ev_var rfl (.head _)) ev_non)) (tv_not (tv_tr (ev_cP (fun _ => u1_len) (av_cons (ev_var rfl (.head _)) av_nil)))))) (fun v5 x6 => (ev_var rfl (.head _)))) (ev_lst av_nil))) ?_ ?_
        · refine sv_assoc ?_
          exact sv_ret sub0 ev_bl
        · refine sv_skip ?_
          refine sv_if sub0 (tv_test (ev_op os_ne (ev_lc1 (σ2 := fun v7 => [some v_0, some v_1, some v_2, some v3, some v7]) (iv_seq (ev_var rfl (.head _))) (fun _ => rfl) (fun _ => rfl) (fun v7 x8 => (tv_and (tv_test (ev_op os_isnt (ev_var rfl (.head _)) ev_non)) (tv_not (tv_test (ev_chain os_le os_le (ev_op os_sub ev_int (ev_op os_idx (ev_var rfl (.tail _ (.tail _ (.head _)))) ev_int)) (ev_var rfl (.head _)) (ev_op os_idx (ev_var rfl (.tail _ (.tail _ (.head _)))) ev_int)))))) (fun v7 x8 => (ev_var rfl (.head _)))) (ev_lst av_nil))) ?_ ?_
          · refine sv_assoc ?_
            exact sv_ret sub0 ev_bl
          · refine sv_skip ?_
            exact sv_nil ⟨(some v3), rfl, rfl, rfl⟩ lnil
    · intro s1 _ _ _ hJ
      obtain ⟨o2, rfl, rfl, rfl⟩ := hJ
      exact sv_ret sub0 ev_bl
set_option maxHeartbeats 0 in
theorem ok__law_bent (T : Txt K mg) : FnOk P w K mg base CX0 9 T.a__law_bent T.fd__law_bent ["deck", "kind", "table"] (SpD K 2 (u2 m__law_bent)) := by
  refine T.F__law_bent.ok sc__law_bent (fun vs H Q E h => h.1) (fun cdv A outer s H vs Q E hr h => ?_)
  refine ⟨_, (pss_cons (ps_setLc (i := 3) (own := [("row", 8)]) (g := (gName 8)) (tt := tYes) rfl sc__law_bent.nd rfl rfl (sw_true rfl rfl rfl (by decide +kernel)) (pi_seq (pv 2)) (blkOk_by (own := [("row", 8)]) (N := ["deck", "kind", "table", "told", "at", "place", "kinds", "way", "row"]) (sc := defScope s__law_bent) (by decide +kernel)) (fun _ _ _ _ _ => (pg_name (i := 8) sc__law_bent.nd rfl (Or.inl rfl))) (fun _ _ _ _ _ => pts_nil) (fun _ _ _ _ _ => (pe_callTy (show CallR _ (.type "list") (fun xs H Q => ∃ p ys, xs = [.ref p] ∧ (SqL K H p ys ∨ SqT K H p ys) ∧ ∀ l, H l = none → Q (.ref l) (upd H l (.lst ys))) from call_list_of) (by rfl) T.z_list (by decide +kernel) (pa_cons (pv 8) pa_nil))))
      (pss_cons (ps_set (i := 4) sc__law_bent.nd rfl (Or.inl rfl) (pe_call (ok__law_pick T) (hr.mono (by decide)) rfl T.m__law_pick T.F__law_pick.kp T.b__law_pick .nil pass0 (pa_cons (pv 0) (pa_cons (pe_callB call_len (by rfl) T.z_len (by decide +kernel) (pa_cons (pv 3) pa_nil)) pa_nil))))
      (pss_cons (ps_set (i := 5) sc__law_bent.nd rfl (Or.inl rfl) (pe_call (ok__law_pick T) (hr.mono (by decide)) rfl T.m__law_pick T.F__law_pick.kp T.b__law_pick .nil pass0 (pa_cons (pv 0) (pa_cons (pe_callB call_len (by rfl) T.z_len (by decide +kernel) (pa_cons (pe_ix ix_seq (pv 3) (pv 4) (fun _ _ => rfl)) pa_nil)) pa_nil))))
      (pss_cons (ps_set (i := 6) sc__law_bent.nd rfl (Or.inl rfl) (pe_lst (pa_cons (pe_op op_addU (pe_ix ix_seq (pv 1) pe_int (fun _ _ => rfl)) pe_int) (pa_cons (pe_op op_sub (pe_op op_sub pe_int (pe_ix ix_seq (pv 1) pe_int (fun _ _ => rfl))) pe_int) (pa_cons pe_bl (pa_cons pe_bl (pa_cons pe_str (pa_cons (pe_lst (pa_cons pe_int pa_nil)) (pa_cons (pe_call (ok__law_thing T) (hr.mono (by decide)) rfl T.m__law_thing T.F__law_thing.kp T.b__law_thing .nil pass0 (pa_cons (pv 0) (pa_cons pe_int pa_nil))) (pa_cons (pe_ix ix_seq (pv 1) pe_int (fun _ _ => rfl)) (pa_cons pe_non pa_nil)))))))))))
      (pss_cons (ps_set (i := 7) sc__law_bent.nd rfl (Or.inl rfl) (pe_call (ok__law_pick T) (hr.mono (by decide)) rfl T.m__law_pick T.F__law_pick.kp T.b__law_pick .nil pass0 (pa_cons (pv 0) (pa_cons pe_int pa_nil))))
      (pss_cons (ps_if (pt_cmpR op_lt (pv 7) pe_int (nomark _)) (pss_cons (ps_asg (pe_ix ix_seq (pv 6) (pv 7) (fun _ _ => rfl)) (pg_sub (pe_ix ix_seq (pv 3) (pv 4) (fun _ _ => rfl)) (pv 5) set_list))
      pss_nil) (pss_cons (ps_if (pt_cmpR op_lt (pv 7) pe_int (nomark _)) (pss_cons (ps_asg (pe_ix ix_seq (pe_lst (pa_cons (pe_op op_addU (pe_slice sl_u (pe_ix ix_seq (pv 3) (pv 4) (fun _ _ => rfl)) po_none (po_some (pv 5))) (pe_slice sl_u (pe_ix ix_seq (pv 3) (pv 4) (fun _ _ => rfl)) (po_some (pe_op op_addU (pv 5) pe_int)) po_none)) (pa_cons (pe_op op_addU (pe_ix ix_seq (pv 3) (pv 4) (fun _ _ => rfl)) (pe_lst (pa_cons pe_int pa_nil))) pa_nil))) (pe_op op_sub (pv 7) pe_int) (fun _ _ => rfl)) (pg_sub (pv 3) (pv 4) set_list))
      pss_nil) (pss_cons (ps_if (pt_cmpR (op_eqD hr.units) (pv 7) pe_int (nomark _)) (pss_cons (ps_set (i := 3) sc__law_bent.nd rfl (Or.inl rfl) (pe_ix ix_seq (pe_lst (pa_cons (pe_op op_addU (pe_slice sl_u (pv 3) po_none (po_some (pv 4))) (pe_slice sl_u (pv 3) (po_some (pe_op op_addU (pv 4) pe_int)) po_none)) (pa_cons (pe_op op_addU (pv 3) (pe_lst (pa_cons (pe_callTy call_list_of (by rfl) T.z_list (by decide +kernel) (pa_cons (pe_ix ix_seq (pv 3) pe_int (fun _ _ => rfl)) pa_nil)) pa_nil))) pa_nil))) (pe_call (ok__law_pick T) (hr.mono (by decide)) rfl T.m__law_pick T.F__law_pick.kp T.b__law_pick .nil pass0 (pa_cons (pv 0) (pa_cons pe_int pa_nil))) (fun _ _ => rfl)))
      pss_nil) (pss_cons (ps_if (pt_cmpR (op_eqD hr.units) (pv 7) pe_int (nomark _)) (pss_cons (ps_asg (pe_callTy call_tuple_of (by rfl) T.z_tuple (by decide +kernel) (pa_cons (pe_ix ix_seq (pv 3) (pv 4) (fun _ _ => rfl)) pa_nil)) (pg_sub (pv 3) (pv 4) set_list))
      pss_nil) (pss_cons (ps_ret (pe_ix ix_seq (pe_lst (pa_cons (pe_callTy call_tuple_of (by rfl) T.z_tuple (by decide +kernel) (pa_cons (pv 3) pa_nil)) (pa_cons (pe_call (ok__law_thing T) (hr.mono (by decide)) rfl T.m__law_thing T.F__law_thing.kp T.b__law_thing .nil pass0 (pa_cons (pv 0) (pa_cons pe_int pa_nil))) pa_nil))) (pe_call (ok__law_pick T) (hr.mono (by decide)) rfl T.m__law_pick T.F__law_pick.kp T.b__law_pick .nil pass0 (pa_cons (pv 0) (pa_cons pe_int pa_nil))) (fun _ _ => rfl)))
      pss_nil))
      pss_nil))
      pss_nil))
      pss_nil))
      (pss_cons (ps_ret (pv 3))
      pss_nil))))))), body_D h fun a us ds O hv hl => ?_⟩
  have h1 := h.1
  subst hv
  match us, ds, h1, hl with
  | [v_1, v_2], [x_1, x_2], _, _ =>
  refine ⟨_, rfl, ?_⟩
  refine sv_st (σ' := [some (.ref a), some v_1, some v_2, none, none, none, none, none, none]) rfl ?_
  refine sv_copies sub1 (iv_seq (ev_var rfl (.tail _ (.head _)))) (σ2 := fun v5 => [some (.ref a), some v_1, some v_2, none, none, none, none, none, some v5]) (fun _ => rfl) (fun _ => rfl) (fun _ => rfl) (σ' := fun v5 => [some (.ref a), some v_1, some v_2, some v5, none, none, none, none, none]) (fun _ => rfl) (C' := fun p3 ps4 told m => [rootL K a m, rootLL K p3 ps4 told]) (fun p3 ps4 told m => (List.perm_append_singleton _ [rootL K a m]).symm) fun p3 ps4 told hp3 hps4 => ?_
  refine sv_asg sub1 (ev_cD rfl (fun _ _ => u1_len) (av_cons (ev_rlenLL rfl (fun m => List.perm_middle (l₁ := [rootL K a m]) (l₂ := []))) av_nil)) (σ' := (fun v6 => [some (.ref a), some v_1, some v_2, some (.ref p3), some v6, none, none, none, none])) (fun _ => rfl) fun v6 x17 => ?_
  refine sv_asg sub1 (ev_cD rfl (fun _ _ => u1_len) (av_cons (ev_llen rfl (ev_var rfl (.head _)) (fun m => List.perm_middle (l₁ := [rootL K a m]) (l₂ := []))) av_nil)) (σ' := (fun v7 => [some (.ref a), some v_1, some v_2, some (.ref p3), some v6, some v7, none, none, none])) (fun _ => rfl) fun v7 x16 => ?_
  refine sv_asg sub1 (ev_lst (av_cons (ev_op os_add (ev_op os_idx (ev_var rfl (.tail _ (.tail _ (.head _)))) ev_int) ev_int) (av_cons (ev_op os_sub (ev_op os_sub ev_int (ev_op os_idx (ev_var rfl (.tail _ (.tail _ (.head _)))) ev_int)) ev_int) (av_cons ev_bl (av_cons ev_bl (av_cons ev_str (av_cons (ev_lst (av_cons ev_int av_nil)) (av_cons (ev_cD rfl (fun _ _ => u1_len) (av_cons ev_int av_nil)) (av_cons (ev_op os_idx (ev_var rfl (.tail _ (.tail _ (.head _)))) ev_int) (av_cons ev_non av_nil)))))))))) (σ' := (fun v8 => [some (.ref a), some v_1, some v_2, some (.ref p3), some v6, some v7, some v8, none, none])) (fun _ => rfl) fun v8 x15 => ?_
  refine sv_asg sub1 (ev_cD rfl (fun _ _ => u1_len) (av_cons ev_int av_nil)) (σ' := (fun v9 => [some (.ref a), some v_1, some v_2, some (.ref p3), some v6, some v7, some v8, some v9, none])) (fun _ => rfl) fun v9 x14 => ?_
  refine sv_if sub1 (tv_test (ev_op os_lt (ev_var rfl (.head _)) ev_int)) ?_ ?_
  · refine sv_assoc ?_
    refine sv_set2 sub1 rfl (ev_op os_idx (ev_var rfl (.tail _ (.head _))) (ev_var rfl (.head _))) (ev_var rfl (.tail _ (.tail _ (.tail _ (.head _))))) (ev_var rfl (.tail _ (.tail _ (.head _)))) (Z := fun m => [rootL K a m]) (fun m => List.perm_middle (l₁ := [rootL K a m]) (l₂ := [])) (C' := fun d m => [rootL K a m, rootLL K p3 ps4 d]) (fun d m => (List.perm_middle (l₁ := [rootL K a m]) (l₂ := [])).symm) fun told1 => ?_
    refine sv_skip ?_
    refine sv_half (Z := fun m => [rootL K a m]) (fun m => List.perm_middle (l₁ := [rootL K a m]) (l₂ := [])) (C' := fun m => [rootL K a m, rootL K p3 told1]) (fun m => (List.perm_middle (l₁ := [rootL K a m]) (l₂ := [])).symm) hps4 ?_
    refine sv_freeze (C' := fun m => [rootL K a m]) (fun m => List.perm_middle (l₁ := [rootL K a m]) (l₂ := [])) hp3 ?_
    exact sv_ret sub1 (ev_var rfl (.head _))
  · refine sv_assoc ?_
    refine sv_if sub1 (tv_test (ev_op os_lt (ev_var rfl (.head _)) ev_int)) ?_ ?_
    · refine sv_assoc ?_
      refine sv_half (Z := fun m => [rootL K a m]) (fun m => List.perm_middle (l₁ := [rootL K a m]) (l₂ := [])) (C' := fun m => [rootL K a m, rootL K p3 told]) (fun m => (List.perm_middle (l₁ := [rootL K a m]) (l₂ := [])).symm) hps4 ?_
      refine sv_rset sub1 rfl (ev_op os_idx (ev_lst (av_cons (ev_op os_add (ev_slice (ev_ridx rfl (ev_var rfl (.tail _ (.tail _ (.tail _ (.head _))))) (fun m => List.perm_middle (l₁ := [rootL K a m]) (l₂ := []))) pv_none (pv_some (ev_var rfl (.tail _ (.tail _ (.head _)))))) (ev_slice (ev_ridx rfl (ev_var rfl (.tail _ (.tail _ (.tail _ (.head _))))) (fun m => List.perm_middle (l₁ := [rootL K a m]) (l₂ := []))) (pv_some (ev_op os_add (ev_var rfl (.tail _ (.tail _ (.head _)))) ev_int)) pv_none)) (av_cons (ev_op os_add (ev_ridx rfl (ev_var rfl (.tail _ (.tail _ (.tail _ (.head _))))) (fun m => List.perm_middle (l₁ := [rootL K a m]) (l₂ := []))) (ev_lst (av_cons ev_int av_nil))) av_nil))) (ev_op os_sub (ev_var rfl (.head _)) ev_int)) (ev_var rfl (.tail _ (.tail _ (.tail _ (.head _))))) (Z := fun m => [rootL K a m]) (fun m => List.perm_middle (l₁ := [rootL K a m]) (l₂ := [])) (C' := fun d m => [rootL K a m, rootL K p3 d]) (fun d m => (List.perm_middle (l₁ := [rootL K a m]) (l₂ := [])).symm) fun told2 => ?_
      refine sv_skip ?_
      refine sv_skip ?_
      refine sv_freeze (C' := fun m => [rootL K a m]) (fun m => List.perm_middle (l₁ := [rootL K a m]) (l₂ := [])) hp3 ?_
      exact sv_ret sub1 (ev_var rfl (.head _))
    · refine sv_assoc ?_
      refine sv_if sub1 (tv_test (ev_op os_eq (ev_var rfl (.head _)) ev_int)) ?_ ?_
      · refine sv_assoc ?_
        refine sv_half (Z := fun m => [rootL K a m]) (fun m => List.perm_middle (l₁ := [rootL K a m]) (l₂ := [])) (C' := fun m => [rootL K a m, rootL K p3 told]) (fun m => (List.perm_middle (l₁ := [rootL K a m]) (l₂ := [])).symm) hps4 ?_
        refine sv_freeze (C' := fun m => [rootL K a m]) (fun m => List.perm_middle (l₁ := [rootL K a m]) (l₂ := [])) hp3 ?_
        refine sv_asg sub1 (ev_op os_idx (ev_lst (av_cons (ev_op os_add (ev_slice (ev_var rfl (.head _)) pv_none (pv_some (ev_var rfl (.tail _ (.tail _ (.tail _ (.tail _ (.head _)))))))) (ev_slice (ev_var rfl (.head _)) (pv_some (ev_op os_add (ev_var rfl (.tail _ (.tail _ (.tail _ (.tail _ (.head _)))))) ev_int)) pv_none)) (av_cons (ev_op os_add (ev_var rfl (.head _)) (ev_lst (av_cons (ev_cb cs_list (av_cons (ev_op os_idx (ev_var rfl (.head _)) ev_int) av_nil)) av_nil))) av_nil))) (ev_cD rfl (fun _ _ => u1_len) (av_cons ev_int av_nil))) (σ' := (fun v10 => [some (.ref a), some v_1, some v_2, some v10, some v6, some v7, some v8, some v9, none])) (fun _ => rfl) fun v10 x11 => ?_
        refine sv_skip ?_
        refine sv_skip ?_
        refine sv_skip ?_
        exact sv_ret sub1 (ev_var rfl (.head _))
      · refine sv_assoc ?_
        refine sv_if sub1 (tv_test (ev_op os_eq (ev_var rfl (.head _)) ev_int)) ?_ ?_
        · refine sv_assoc ?_
          refine sv_half (Z := fun m => [rootL K a m]) (fun m => List.perm_middle (l₁ := [rootL K a m]) (l₂ := [])) (C' := fun m => [rootL K a m, rootL K p3 told]) (fun m => (List.perm_middle (l₁ := [rootL K a m]) (l₂ := [])).symm) hps4 ?_
          refine sv_rset sub1 rfl (ev_cb cs_tuple (av_cons (ev_ridx rfl (ev_var rfl (.tail _ (.tail _ (.tail _ (.head _))))) (fun m => List.perm_middle (l₁ := [rootL K a m]) (l₂ := []))) av_nil)) (ev_var rfl (.tail _ (.tail _ (.tail _ (.head _))))) (Z := fun m => [rootL K a m]) (fun m => List.perm_middle (l₁ := [rootL K a m]) (l₂ := [])) (C' := fun d m => [rootL K a m, rootL K p3 d]) (fun d m => (List.perm_middle (l₁ := [rootL K a m]) (l₂ := [])).symm) fun told4 => ?_
          refine sv_skip ?_
          refine sv_skip ?_
          refine sv_skip ?_
          refine sv_skip ?_
          refine sv_freeze (C' := fun m => [rootL K a m]) (fun m => List.perm_middle (l₁ := [rootL K a m]) (l₂ := [])) hp3 ?_
          exact sv_ret sub1 (ev_var rfl (.head _))
        · refine sv_assoc ?_
          refine sv_half (Z := fun m => [rootL K a m]) (fun m => List.perm_middle (l₁ := [rootL K a m]) (l₂ := [])) (C' := fun m => [rootL K a m, rootL K p3 told]) (fun m => (List.perm_middle (l₁ := [rootL K a m]) (l₂ := [])).symm) hps4 ?_
          refine sv_freeze (C' := fun m => [rootL K a m]) (fun m => List.perm_middle (l₁ := [rootL K a m]) (l₂ := [])) hp3 ?_
          exact sv_ret sub1 (ev_op os_idx (ev_lst (av_cons (ev_cb cs_tuple (av_cons (ev_var rfl (.head _)) av_nil)) (av_cons (ev_cD rfl (fun _ _ => u1_len) (av_cons ev_int av_nil)) av_nil))) (ev_cD rfl (fun _ _ => u1_len) (av_cons ev_int av_nil)))
set_option maxHeartbeats 0 in
theorem ok_law_of (T : Txt K mg) (hm : ∀ ns : List Int, ns.length ≤ 63 → (∀ z ∈ ns, Builtin.Int.intBits z ≤ 1048576) → ∃ m', m_law (scrD (ns.map .int)) .none = .ok (.bool true) m') : FnOk P w K mg base CX0 10 T.a_law T.fd_law ["script"] (sp_law K) := by
  refine T.F_law.ok sc_law (fun vs H Q E h => by obtain ⟨a, ns, rfl, _⟩ := h; rfl) (fun cdv A outer s H vs Q E hr h => ?_)
  refine ⟨_, (pss_cons (ps_set (i := 1) sc_law.nd rfl (Or.inr rfl) (pe_call (ok__law_deck T) (hr.mono (by decide)) rfl T.m__law_deck T.F__law_deck.kp T.b__law_deck .nil pass0 (pa_cons (pe_ix ix_seq (pe_op op_addU (pv 0) (pe_lst (pa_cons pe_int pa_nil))) pe_int (fun _ _ => rfl)) (pa_cons pe_int pa_nil))))
      (pss_cons (ps_set (i := 2) sc_law.nd rfl (Or.inr rfl) (pe_call (ok__law_kind T) (hr.mono (by decide)) rfl T.m__law_kind T.F__law_kind.kp T.b__law_kind .nil pass0 (pa_cons (pv 1) pa_nil)))
      (pss_cons (ps_set (i := 3) sc_law.nd rfl (Or.inl rfl) (pe_tup (pa_cons (pe_op op_addU pe_int (pe_call (ok__law_pick T) (hr.mono (by decide)) rfl T.m__law_pick T.F__law_pick.kp T.b__law_pick .nil pass0 (pa_cons (pv 1) (pa_cons pe_int pa_nil)))) (pa_cons (pe_call (ok__law_pick T) (hr.mono (by decide)) rfl T.m__law_pick T.F__law_pick.kp T.b__law_pick .nil pass0 (pa_cons (pv 1) (pa_cons pe_int pa_nil))) pa_nil))))
      (pss_cons (ps_set (i := 4) sc_law.nd rfl (Or.inl rfl) (pe_call (ok__law_half T) (hr.mono (by decide)) rfl T.m__law_half T.F__law_half.kp T.b__law_half .nil pass0 (pa_cons (pv 2) (pa_cons (pv 3) pa_nil))))
      (pss_cons (ps_set (i := 5) sc_law.nd rfl (Or.inl rfl) (pe_lst pa_nil))
      (pss_cons (ps_for PassesOwn.never rfl (pi_range1 (by rfl) T.z_range (pa_cons (pe_op op_shlW pe_int (pe_op op_sub (pe_ix ix_seq (pv 3) pe_int (fun _ _ => rfl)) pe_int)) pa_nil)) (pg_name (i := 6) sc_law.nd rfl (Or.inl rfl)) (pss_cons (ps_setLc (i := 8) (own := [("look", 7)]) (g := (gName 7)) (tt := tYes) rfl sc_law.nd rfl rfl (sw_true rfl rfl rfl (by decide +kernel)) (pi_range1 (by rfl) T.z_range (pa_cons (pe_op op_mulU pe_int (pv 4)) pa_nil)) (blkOk_by (own := [("look", 7)]) (N := ["script", "deck", "kind", "looks", "half", "table", "top", "look", "row", "turn", "at", "cell", "thing", "told", "one"]) (sc := defScope s_law) (by decide +kernel)) (fun _ _ _ _ _ => (pg_name (i := 7) sc_law.nd rfl (Or.inl rfl))) (fun _ _ _ _ _ => pts_nil) (fun _ _ _ _ _ => (pe_op op_sub (pe_call (ok__law_pick T) (hr.mono (by decide)) (by exact rfl) T.m__law_pick T.F__law_pick.kp T.b__law_pick .nil pass0 (pa_cons (pv 1) (pa_cons (pe_op (show OpR _ _ (rAddU K) from op_addU) (pe_op op_mulU pe_int (pe_ix (show IxR _ (rIx K) from ix_seq) (pv 2) pe_int (fun _ _ => rfl))) pe_int) pa_nil))) (pe_ix (show IxR _ (rIx K) from ix_seq) (pv 2) pe_int (fun _ _ => rfl)))))
      (pss_cons (ps_expr (pe_bm PySem.F.plainAttrs_list PySem.F.slot_list_append PySem.F.type_list_append mt_append (pv 5) (pa_cons (pe_lc (own := [("one", 14)]) (g := (gName 14)) (tt := tYes) rfl sc_law.nd (pi_seq (pv 8)) (blkOk_by (own := [("one", 14)]) (N := ["script", "deck", "kind", "looks", "half", "table", "top", "look", "row", "turn", "at", "cell", "thing", "told", "one"]) (sc := defScope s_law) (by decide +kernel)) (fun _ _ _ _ _ => (pg_name (i := 14) sc_law.nd rfl (Or.inl rfl))) (fun _ _ _ _ _ => pts_nil) (fun _ _ _ _ _ => (pe_ifExp (pt_cmpR op_gt (pv 14) (pe_ix (show IxR _ (rIx K) from ix_seq) (pv 2) pe_int (fun _ _ => rfl)) (nomark _)) pe_non (pv 14)))) pa_nil)))
      pss_nil)))
      (pss_cons (ps_if (pt_cmpR op_isntU (pe_call (ok_is_table T) (hr.mono (by decide)) rfl T.m_is_table T.F_is_table.kp T.b_is_table .nil pass0 (pa_cons (pv 2) (pa_cons (pv 3) (pa_cons (pv 5) pa_nil)))) pe_bl (nomark _)) (pss_cons (ps_ret pe_bl)
      pss_nil) pss_nil)
      (pss_cons (ps_for PassesOwn.never rfl (pi_range1 (by rfl) T.z_range (pa_cons pe_int pa_nil)) (pg_name (i := 9) sc_law.nd rfl (Or.inl rfl)) (pss_cons (ps_set (i := 10) sc_law.nd rfl (Or.inl rfl) (pe_call (ok__law_pick T) (hr.mono (by decide)) rfl T.m__law_pick T.F__law_pick.kp T.b__law_pick .nil pass0 (pa_cons (pv 1) (pa_cons (pe_callB call_len (by rfl) T.z_len (by decide +kernel) (pa_cons (pv 5) pa_nil)) pa_nil))))
      (pss_cons (ps_set (i := 7) sc_law.nd rfl (Or.inl rfl) (pe_op op_sub (pe_call (ok__law_pick T) (hr.mono (by decide)) rfl T.m__law_pick T.F__law_pick.kp T.b__law_pick .nil pass0 (pa_cons (pv 1) (pa_cons (pe_op op_mulU pe_int (pv 4)) pa_nil))) (pv 4)))
      (pss_cons (ps_if (pt_cmpR (op_neD hr.units) (pe_call (ok_entry T) (hr.mono (by decide)) rfl T.m_entry T.F_entry.kp T.b_entry .nil pass0 (pa_cons (pv 2) (pa_cons (pv 3) (pa_cons (pv 5) (pa_cons (pe_tup (pa_cons (pe_op op_addU (pe_op op_shlW pe_int (pe_op op_sub (pe_ix ix_seq (pv 3) pe_int (fun _ _ => rfl)) pe_int)) (pv 10)) (pa_cons (pv 7) pa_nil))) pa_nil))))) (pe_ix ix_seq (pe_ix ix_seq (pv 5) (pv 10) (fun _ _ => rfl)) (pe_op op_addU (pv 7) (pv 4)) (fun _ _ => rfl)) (nomark _)) (pss_cons (ps_ret pe_bl)
      pss_nil) pss_nil)
      pss_nil))))
      (pss_cons (ps_for PassesOwn.never rfl (pi_seq (pe_op op_addU (pe_slice sl_u (pv 0) (po_some pe_int) (po_some pe_int)) (pe_lst (pa_cons pe_int pa_nil)))) (pg_name (i := 11) sc_law.nd rfl (Or.inl rfl)) (pss_cons (ps_set (i := 12) sc_law.nd rfl (Or.inl rfl) (pe_call (ok__law_bent T) (hr.mono (by decide)) rfl T.m__law_bent T.F__law_bent.kp T.b__law_bent .nil pass0 (pa_cons (pe_call (ok__law_deck T) (hr.mono (by decide)) rfl T.m__law_deck T.F__law_deck.kp T.b__law_deck .nil pass0 (pa_cons (pv 11) (pa_cons pe_int pa_nil))) (pa_cons (pv 2) (pa_cons (pv 5) pa_nil)))))
      (pss_cons (ps_set (i := 13) sc_law.nd rfl (Or.inl rfl) (pe_call (ok_is_table T) (hr.mono (by decide)) rfl T.m_is_table T.F_is_table.kp T.b_is_table .nil pass0 (pa_cons (pv 2) (pa_cons (pv 3) (pa_cons (pv 12) pa_nil)))))
      (pss_cons (ps_if (PW.pt (pw_or (pt_not (pt_truth (pe_callB call_isi (by rfl) T.z_isinstance (by decide +kernel) (pa_cons (pv 13) (pa_cons (pe_bltn (v := .ty "bool") (u := .type "bool") (by rfl) T.z_bool (by decide +kernel) rfl) pa_nil))) (by intro _; rfl))) (pw_or1 (pt_cmpR (op_neD hr.units) (pv 13) (pe_call (ok__law_is_table T) (hr.mono (by decide)) rfl T.m__law_is_table T.F__law_is_table.kp T.b__law_is_table .nil pass0 (pa_cons (pv 2) (pa_cons (pv 3) (pa_cons (pv 12) pa_nil)))) (nomark _))))) (pss_cons (ps_ret pe_bl)
      pss_nil) pss_nil)
      pss_nil))))
      (pss_cons (ps_ret pe_bl)
      pss_nil)))))))))), body_law m_law h hm fun v_0 x_0 O hv => ?_⟩
  subst hv
  refine ⟨_, rfl, ?_⟩
  refine sv_st (σ' := [some v_0, none, none, none, none, none, none, none, none, none, none, none, none, none, none]) rfl ?_
  refine sv_newD (Z := []) sub0 (fun _ => List.nil_sublist _) (fun _ => u2_len) (av_cons (ev_op os_idx (ev_op os_add (ev_var rfl (.head _)) (ev_lst (av_cons ev_int av_nil))) ev_int) (av_cons ev_int av_nil)) (σ' := fun v2 => [some v_0, some v2, none, none, none, none, none, none, none, none, none, none, none, none, none]) (fun _ => rfl) fun a1 ha1 => ?_
  refine sv_asg sub0 (ev_cD rfl (fun _ _ => u0_len) av_nil) (σ' := (fun v3 => [some v_0, some (.ref a1), some v3, none, none, none, none, none, none, none, none, none, none, none, none])) (fun _ => rfl) fun v3 x61 => ?_
  refine sv_asg sub0 (ev_tup (av_cons (ev_op os_add ev_int (ev_cD rfl (fun _ _ => u1_len) (av_cons ev_int av_nil))) (av_cons (ev_cD rfl (fun _ _ => u1_len) (av_cons ev_int av_nil)) av_nil))) (σ' := (fun v4 => [some v_0, some (.ref a1), some v3, some v4, none, none, none, none, none, none, none, none, none, none, none])) (fun _ => rfl) fun v4 x60 => ?_
  refine sv_asg sub0 (ev_cP (fun _ => u2_len) (av_cons (ev_var rfl (.tail _ (.head _))) (av_cons (ev_var rfl (.head _)) av_nil))) (σ' := (fun v5 => [some v_0, some (.ref a1), some v3, some v4, some v5, none, none, none, none, none, none, none, none, none, none])) (fun _ => rfl) fun v5 x59 => ?_
  refine sv_new sub0 av_nil (σ' := fun v7 => [some v_0, some (.ref a1), some v3, some v4, some v5, some v7, none, none, none, none, none, none, none, none, none]) (fun _ => rfl) (C' := fun p6 table m => [rootL K a1 m, rootL K p6 table]) (fun p6 table m => (List.perm_append_singleton _ [rootL K a1 m]).symm) fun p6 table hp6 => ?_
  refine sv_seq (J1 := (fun (s8 : D) σ' L2 C2 => ∃ (o9 : Option V) (o10 : Option V), σ' = [some v_0, some (.ref a1), some v3, some v4, some v5, some (.ref p6), o10, none, o9, none, none, none, none, none, none] ∧ L2 = ([] : List (V × D)) ∧ C2 = (fun m => rootL K a1 m :: [rootL K p6 s8]))) (sv_for sub0 (iv_rng1 (av_cons (ev_op os_shl ev_int (ev_op os_sub (ev_op os_idx (ev_var rfl (.tail _ (.head _))) ev_int) ev_int)) av_nil)) ⟨none, none, rfl, rfl, rfl⟩ lnil (by intro s8 _ _ _ hJ; obtain ⟨o9, o10, rfl, rfl, rfl⟩ := hJ; exact sub0) ?_) ?_
  · intro s8 _ _ _ hJ v11 x12
    obtain ⟨o9, o10, rfl, rfl, rfl⟩ := hJ
    refine tg_name (σ' := [some v_0, some (.ref a1), some v3, some v4, some v5, some (.ref p6), some v11, none, o9, none, none, none, none, none, none]) rfl (?_)
    refine sv_asg sub0 (ev_lc1 (σ2 := fun v13 => [some v_0, some (.ref a1), some v3, some v4, some v5, some (.ref p6), some v11, some v13, o9, none, none, none, none, none, none]) (iv_rng1 (av_cons (ev_op os_mul ev_int (ev_var rfl (.tail _ (.head _)))) av_nil)) (fun _ => rfl) (fun _ => rfl) (fun v13 x14 => tv_yes) (fun v13 x14 => (ev_op os_sub (ev_cD rfl (fun _ _ => u1_len) (av_cons (ev_op os_add (ev_op os_mul ev_int (ev_op os_idx (ev_var rfl (.tail _ (.tail _ (.tail _ (.tail _ (.head _)))))) ev_int)) ev_int) av_nil)) (ev_op os_idx (ev_var rfl (.tail _ (.tail _ (.tail _ (.tail _ (.head _)))))) ev_int)))) (σ' := (fun v15 => [some v_0, some (.ref a1), some v3, some v4, some v5, some (.ref p6), some v11, none, some v15, none, none, none, none, none, none])) (fun _ => rfl) fun v15 x18 => ?_
    refine sv_app sub0 rfl (ev_lc1 (σ2 := fun v16 => [some v_0, some (.ref a1), some v3, some v4, some v5, some (.ref p6), some v11, none, some v15, none, none, none, none, none, some v16]) (iv_seq (ev_var rfl (.head _))) (fun _ => rfl) (fun _ => rfl) (fun v16 x17 => tv_yes) (fun v16 x17 => (ev_if (tv_test (ev_op os_gt (ev_var rfl (.head _)) (ev_op os_idx (ev_var rfl (.tail _ (.tail _ (.tail _ (.tail _ (.tail _ (.head _))))))) ev_int))) ev_non (ev_var rfl (.head _))))) (Z := fun m => [rootL K a1 m]) (fun m => List.perm_middle (l₁ := [rootL K a1 m]) (l₂ := [])) (C' := fun d m => [rootL K a1 m, rootL K p6 d]) (fun d m => (List.perm_middle (l₁ := [rootL K a1 m]) (l₂ := [])).symm) fun table1 => ?_
    exact sv_nil ⟨(some v15), (some v11), rfl, rfl, rfl⟩ lnil
  · intro s8 _ _ _ hJ
    obtain ⟨o9, o10, rfl, rfl, rfl⟩ := hJ
    refine sv_freeze (C' := fun m => [rootL K a1 m]) (fun m => List.perm_middle (l₁ := [rootL K a1 m]) (l₂ := [])) hp6 ?_
    refine sv_if sub0 (tv_test (ev_op os_isnt (ev_cP (fun _ => u3_len) (av_cons (ev_var rfl (.tail _ (.tail _ (.tail _ (.head _))))) (av_cons (ev_var rfl (.tail _ (.tail _ (.head _)))) (av_cons (ev_var rfl (.head _)) av_nil)))) ev_bl)) ?_ ?_
    · refine sv_assoc ?_
      exact sv_ret sub0 ev_bl
    · refine sv_skip ?_
      refine sv_seq (J1 := (fun (s19 : Unit) σ' L2 C2 => ∃ (o20 : Option V) (o21 : Option V) (o22 : Option V), σ' = [some v_0, some (.ref a1), some v3, some v4, some v5, some (.ref p6), o10, o21, o9, o22, o20, none, none, none, none] ∧ L2 = ([] : List (V × D)) ∧ C2 = (fun m => rootL K a1 m :: []))) (sv_for sub0 (iv_rng1 (av_cons ev_int av_nil)) ⟨none, none, none, rfl, rfl, rfl⟩ lnil (by intro s19 _ _ _ hJ; obtain ⟨o20, o21, o22, rfl, rfl, rfl⟩ := hJ; exact sub0) ?_) ?_
      · intro s19 _ _ _ hJ v23 x24
        obtain ⟨o20, o21, o22, rfl, rfl, rfl⟩ := hJ
        refine tg_name (σ' := [some v_0, some (.ref a1), some v3, some v4, some v5, some (.ref p6), o10, o21, o9, some v23, o20, none, none, none, none]) rfl (?_)
        refine sv_asg sub0 (ev_cD rfl (fun _ _ => u1_len) (av_cons (ev_cb cs_len (av_cons (ev_var rfl (.tail _ (.head _))) av_nil)) av_nil)) (σ' := (fun v25 => [some v_0, some (.ref a1), some v3, some v4, some v5, some (.ref p6), o10, o21, o9, some v23, some v25, none, none, none, none])) (fun _ => rfl) fun v25 x28 => ?_
        refine sv_asg sub0 (ev_op os_sub (ev_cD rfl (fun _ _ => u1_len) (av_cons (ev_op os_mul ev_int (ev_var rfl (.tail _ (.tail _ (.tail _ (.head _)))))) av_nil)) (ev_var rfl (.tail _ (.tail _ (.tail _ (.head _)))))) (σ' := (fun v26 => [some v_0, some (.ref a1), some v3, some v4, some v5, some (.ref p6), o10, some v26, o9, some v23, some v25, none, none, none, none])) (fun _ => rfl) fun v26 x27 => ?_
        refine sv_if sub0 (tv_test (ev_op os_ne (ev_cP (fun _ => u4_len) (av_cons (ev_var rfl (.tail _ (.tail _ (.tail _ (.tail _ (.tail _ (.tail _ (.head _)))))))) (av_cons (ev_var rfl (.tail _ (.tail _ (.tail _ (.tail _ (.tail _ (.head _))))))) (av_cons (ev_var rfl (.tail _ (.tail _ (.tail _ (.head _))))) (av_cons (ev_tup (av_cons (ev_op os_add (ev_op os_shl ev_int (ev_op os_sub (ev_op os_idx (ev_var rfl (.tail _ (.tail _ (.tail _ (.tail _ (.tail _ (.head _))))))) ev_int) ev_int)) (ev_var rfl (.tail _ (.head _)))) (av_cons (ev_var rfl (.head _)) av_nil))) av_nil))))) (ev_op os_idx (ev_op os_idx (ev_var rfl (.tail _ (.tail _ (.tail _ (.head _))))) (ev_var rfl (.tail _ (.head _)))) (ev_op os_add (ev_var rfl (.head _)) (ev_var rfl (.tail _ (.tail _ (.tail _ (.tail _ (.head _)))))))))) ?_ ?_
        · refine sv_assoc ?_
          exact sv_ret sub0 ev_bl
        · refine sv_skip ?_
          exact sv_nil ⟨(some v25), (some v26), (some v23), rfl, rfl, rfl⟩ lnil
      · intro s19 _ _ _ hJ
        obtain ⟨o20, o21, o22, rfl, rfl, rfl⟩ := hJ
        refine sv_seq (J1 := (fun (s29 : Unit) σ' L2 C2 => ∃ (o30 : Option V) (o31 : Option V) (o32 : Option V), σ' = [some v_0, some (.ref a1), some v3, some v4, some v5, some (.ref p6), o10, o21, o9, o22, o20, o32, o30, o31, none] ∧ L2 = ([] : List (V × D)) ∧ C2 = (fun m => rootL K a1 m :: []))) (sv_for sub0 (iv_seq (ev_op os_add (ev_slice (ev_var rfl (.tail _ (.tail _ (.tail _ (.tail _ (.head _)))))) (pv_some ev_int) (pv_some ev_int)) (ev_lst (av_cons ev_int av_nil)))) ⟨none, none, none, rfl, rfl, rfl⟩ lnil (by intro s29 _ _ _ hJ; obtain ⟨o30, o31, o32, rfl, rfl, rfl⟩ := hJ; exact sub0) ?_) ?_
        · intro s29 _ _ _ hJ v33 x34
          obtain ⟨o30, o31, o32, rfl, rfl, rfl⟩ := hJ
          refine tg_name (σ' := [some v_0, some (.ref a1), some v3, some v4, some v5, some (.ref p6), o10, o21, o9, o22, o20, some v33, o30, o31, none]) rfl (?_)
          refine sv_asg sub0 (ev_cDN (fun _ => u2_len) (fun _ _ => u2_len) (av_cons (ev_var rfl (.head _)) (av_cons ev_int av_nil)) (av_cons (ev_var rfl (.tail _ (.tail _ (.tail _ (.tail _ (.head _)))))) (av_cons (ev_var rfl (.tail _ (.head _))) av_nil))) (σ' := (fun v35 => [some v_0, some (.ref a1), some v3, some v4, some v5, some (.ref p6), o10, o21, o9, o22, o20, some v33, some v35, o31, none])) (fun _ => rfl) fun v35 x38 => ?_
          refine sv_asg sub0 (ev_cP (fun _ => u3_len) (av_cons (ev_var rfl (.tail _ (.tail _ (.tail _ (.tail _ (.tail _ (.head _))))))) (av_cons (ev_var rfl (.tail _ (.tail _ (.tail _ (.tail _ (.head _)))))) (av_cons (ev_var rfl (.head _)) av_nil)))) (σ' := (fun v36 => [some v_0, some (.ref a1), some v3, some v4, some v5, some (.ref p6), o10, o21, o9, o22, o20, some v33, some v35, some v36, none])) (fun _ => rfl) fun v36 x37 => ?_
          refine sv_if sub0 (tv_or (tv_not (tv_tr (ev_isi (ev_var rfl (.head _))))) (tv_test (ev_op os_ne (ev_var rfl (.head _)) (ev_cP (fun _ => u3_len) (av_cons (ev_var rfl (.tail _ (.tail _ (.tail _ (.tail _ (.tail _ (.tail _ (.head _)))))))) (av_cons (ev_var rfl (.tail _ (.tail _ (.tail _ (.tail _ (.tail _ (.head _))))))) (av_cons (ev_var rfl (.tail _ (.head _))) av_nil))))))) ?_ ?_
          · refine sv_assoc ?_
            exact sv_ret sub0 ev_bl
          · refine sv_skip ?_
            exact sv_nil ⟨(some v35), (some v36), (some v33), rfl, rfl, rfl⟩ lnil
        · intro s29 _ _ _ hJ
          obtain ⟨o30, o31, o32, rfl, rfl, rfl⟩ := hJ
          exact sv_ret sub0 ev_bl
end
/-! ### reckoning with mirrors -/
theorem r_bd {μ α β : Type} (a : α) (f : α → SM μ β) : bd (pu a) f = f a := rfl
theorem r_as {μ α β γ : Type} (x : SM μ α) (f : α → SM μ β) (g : β → SM μ γ) : bd (bd x f) g = bd x fun a => bd (f a) g := bd_assoc x f g
theorem r_op2 {μ : Type} {f : D → D → Option D} (a b : D) : (op2 f (pu a) (pu b) : SM μ D) = of (f a b) := rfl
theorem r_op1 {μ : Type} {f : D → Option D} (a : D) : (op1 f (pu a) : SM μ D) = of (f a) := rfl
theorem r_opL {μ : Type} {f : List D → Option D} (l : List D) : (opL f (pu l) : SM μ D) = of (f l) := rfl
theorem r_ac {μ : Type} (a : D) (l : List D) : (ac (pu a) (pu l) : SM μ (List D)) = pu (a :: l) := rfl
theorem r_a0 {μ : Type} : (a0 : SM μ (List D)) = pu [] := rfl
theorem r_of {μ α : Type} (a : α) : (of (some a) : SM μ α) = pu a := rfl
theorem r_cP {μ : Type} {mf : List D → SM Unit D} (l : List D) : (cP mf (pu l) : SM μ D) = px (mf l) := rfl
theorem r_cD {μ : Type} {mf : List D → SM μ D} (l : List D) : cD mf (pu l) = qx (mf l) := rfl
theorem r_px {μ α : Type} (a : α) : (px (pu a) : SM μ α) = pu a := rfl
theorem r_qx {μ α : Type} (a : α) : (qx (pu a) : SM μ α) = pu a := rfl
theorem r_tb {μ : Type} (b : Bool) : (SM.tb (pu (.bool b)) : SM μ Bool) = pu b := rfl
theorem r_tr {μ : Type} (a : D) : (SM.tr (pu a) : SM μ Bool) = of (truD a) := rfl
theorem r_tand {μ : Type} (b : Bool) (x : SM μ Bool) : tand (pu b) x = if b then x else pu false := rfl
theorem r_tor {μ : Type} (b : Bool) (x : SM μ Bool) : tor (pu b) x = if b then pu true else x := rfl
theorem r_tnot {μ : Type} (b : Bool) : (tnot (pu b) : SM μ Bool) = pu (!b) := rfl
theorem r_eand {μ : Type} (b : Bool) (x : SM μ D) : eand (pu (.bool b)) x = if b then x else pu (.bool false) := rfl
theorem r_eor {μ : Type} (b : Bool) (x : SM μ D) : eor (pu (.bool b)) x = if b then pu (.bool true) else x := rfl
theorem r_enot {μ : Type} (b : Bool) : (enot (pu (.bool b)) : SM μ D) = pu (.bool (!b)) := rfl
theorem r_eif {μ : Type} (b : Bool) (x y : SM μ D) : eif (pu b) x y = if b then x else y := rfl
theorem r_chain {μ : Type} {f g : D → D → Option D} (a b : D) (z : SM μ D) : SM.chain f g (pu a) (pu b) z = bd (SM.tb (of (f a b))) fun c => if c then bd z fun z => of (g b z) else pu (.bool false) := rfl
theorem r_fin {μ α ρ : Type} (x : SM μ α) (k : α → SM μ (Fl Unit ρ)) : fin (bd x k) = bd x fun a => fin (k a) := bd_assoc _ _ _
theorem r_rt {μ ρ : Type} (d : D) : fin (pu (.rt d) : SM μ (Fl Unit ρ)) = pu d := rfl
theorem r_nx {μ ρ : Type} : fin (pu (.nx ()) : SM μ (Fl Unit ρ)) = pu .none := rfl
theorem r_sq {μ τ ρ ρ' : Type} (s : τ) (k : τ → SM μ (Fl ρ' ρ)) : sq (pu (.nx s)) k = k s := rfl
theorem r_sqr {μ τ ρ ρ' : Type} (d : D) (k : τ → SM μ (Fl ρ' ρ)) : sq (pu (.rt d)) k = pu (.rt d) := rfl
theorem r_sqb {μ τ ρ ρ' α : Type} (x : SM μ α) (f : α → SM μ (Fl τ ρ)) (k : τ → SM μ (Fl ρ' ρ)) : sq (bd x f) k = bd x fun a => sq (f a) k := bd_assoc _ _ _
theorem r_unp2 {μ β : Type} (a b : D) (k : D → D → SM μ β) : unp2 (.tuple [a, b]) k = k a b := rfl
theorem r_unp3 {μ β : Type} (a b c : D) (k : D → D → D → SM μ β) : unp3 (.tuple [a, b, c]) k = k a b c := rfl
theorem r_unp4 {μ β : Type} (a b c d : D) (k : D → D → D → D → SM μ β) : unp4 (.tuple [a, b, c, d]) k = k a b c d := rfl
theorem r_par2 {μ β : Type} (a b : D) (k : D → D → SM μ β) : par2 [a, b] k = k a b := rfl
theorem r_part0 {μ : Type} : (part0 : SM μ (Option Int)) = pu none := rfl
theorem r_part {μ : Type} (i : Int) : (SM.part (pu (.int i)) : SM μ (Option Int)) = pu (some i) := rfl
theorem r_slice {μ : Type} (a : D) (l h : Option Int) : (SM.slice (pu a) (pu l) (pu h) : SM μ D) = of (sliD a l h) := rfl
theorem r_itS {μ : Type} (a : D) : (itS (pu a) : SM μ (List D)) = of (seqD a) := rfl
theorem r_itR {μ : Type} (l : List D) : (itR (pu l) : SM μ (List D)) = of (rngD l) := rfl
theorem r_u0 {μ : Type} {f : SM μ D} : u0 f [] = f := rfl
theorem r_u1 {μ : Type} {f : D → SM μ D} {a : D} : u1 f [a] = f a := rfl
theorem r_u2 {μ : Type} {f : D → D → SM μ D} {a b : D} : u2 f [a, b] = f a b := rfl
theorem r_u3 {μ : Type} {f : D → D → D → SM μ D} {a b c : D} : u3 f [a, b, c] = f a b c := rfl
theorem r_u4 {μ : Type} {f : D → D → D → D → SM μ D} {a b c d : D} : u4 f [a, b, c, d] = f a b c d := rfl
theorem r_u5 {μ : Type} {f : D → D → D → D → D → SM μ D} {a b c d e : D} : u5 f [a, b, c, d, e] = f a b c d e := rfl
theorem r_u6 {μ : Type} {f : D → D → D → D → D → D → SM μ D} {a b c d e g : D} : u6 f [a, b, c, d, e, g] = f a b c d e g := rfl
theorem r_u7 {μ : Type} {f : D → D → D → D → D → D → D → SM μ D} {a b c d e g h : D} : u7 f [a, b, c, d, e, g, h] = f a b c d e g h := rfl
theorem r_ift {α : Type} (x y : α) : (if true = true then x else y) = x := rfl
theorem r_iff {α : Type} (x y : α) : (if false = true then x else y) = y := rfl
theorem d_add (a b : Int) : addD (.int a) (.int b) = some (.int (a + b)) := rfl
theorem d_addI (a b : Int) : addI (.int a) (.int b) = some (.int (a + b)) := rfl
theorem d_subI (a b : Int) : subI (.int a) (.int b) = some (.int (a - b)) := rfl
theorem d_sub (a b : Int) : subD (.int a) (.int b) = some (.int (a - b)) := rfl
theorem d_neg (a : Int) : negD (.int a) = some (.int (-a)) := rfl
theorem d_lt (a b : Int) : ltD (.int a) (.int b) = some (.bool (decide (a < b))) := rfl
theorem d_le (a b : Int) : leD (.int a) (.int b) = some (.bool (decide (a ≤ b))) := rfl
theorem d_gt (a b : Int) : gtD (.int a) (.int b) = some (.bool (decide (b < a))) := rfl
theorem d_ge (a b : Int) : geD (.int a) (.int b) = some (.bool (decide (b ≤ a))) := rfl
theorem d_isN (d : D) : isD d .none = some (.bool (isNone d)) := by cases d <;> rfl
theorem d_isntN (d : D) : isntD d .none = some (.bool (!isNone d)) := by cases d <;> rfl
theorem d_isB (a b : Bool) : isD (.bool a) (.bool b) = some (.bool (decide (a = b))) := rfl
theorem d_isntB (a b : Bool) : isntD (.bool a) (.bool b) = some (.bool (!decide (a = b))) := rfl
theorem d_nn : isNone .none = true := rfl
theorem d_ni (i : Int) : isNone (.int i) = false := rfl
theorem d_nt (l : List D) : isNone (.tuple l) = false := rfl
theorem d_nl (l : List D) : isNone (.list l) = false := rfl
theorem d_nb (b : Bool) : isNone (.bool b) = false := rfl
theorem d_abs (a : Int) : absD [.int a] = some (.int (if a < 0 then -a else a)) := rfl
theorem d_max (a b : Int) : maxD [.int a, .int b] = some (.int (if b > a then b else a)) := rfl
theorem d_maxT (a b : Int) : maxD [.tuple [.int a, .int b]] = some (.int (if b > a then b else a)) := rfl
theorem d_min (a b : Int) : minD [.int a, .int b] = some (.int (if b < a then b else a)) := rfl
theorem d_int (a : Int) : intD [.int a] = some (.int a) := rfl
theorem d_intB (b : Bool) : intD [.bool b] = some (.int (if b then 1 else 0)) := rfl
theorem d_len (l : List D) : lenD [.list l] = some (.int l.length) := rfl
theorem d_lenT (l : List D) : lenD [.tuple l] = some (.int l.length) := rfl
theorem d_list (l : List D) : listD [.list l] = some (.list l) := rfl
theorem d_listT (l : List D) : listD [.tuple l] = some (.list l) := rfl
theorem d_tuple (l : List D) : tupleD [.list l] = some (.tuple l) := rfl
theorem d_tupleT (l : List D) : tupleD [.tuple l] = some (.tuple l) := rfl
theorem d_seq (l : List D) : seqD (.list l) = some l := rfl
theorem d_seqT (l : List D) : seqD (.tuple l) = some l := rfl
theorem d_bits (a : Int) : bitsD (.int a) = some (.int (Builtin.Int.intBits a)) := rfl
theorem d_and (a b : Int) : andD (.int a) (.int b) = some (.int (Builtin.bitAnd a b)) := rfl
theorem d_or (a b : Int) : orD (.int a) (.int b) = some (.int (Builtin.bitOr a b)) := rfl
theorem d_xor (a b : Int) : xorD (.int a) (.int b) = some (.int (Builtin.bitXor a b)) := rfl
theorem d_truB (b : Bool) : truD (.bool b) = some b := rfl
theorem d_truL (l : List D) : truD (.list l) = some (!l.isEmpty) := rfl
theorem d_isi (n : String) (d : D) : isiD n d = (kitB (tyN d) n).map .bool := rfl
theorem k_ii : kitB "int" "int" = some true := by decide +kernel
theorem k_ib : kitB "int" "bool" = some false := by decide +kernel
theorem k_bi : kitB "bool" "int" = some true := by decide +kernel
theorem k_bb : kitB "bool" "bool" = some true := by decide +kernel
theorem d_cat {a b : List D} (h : a.length + b.length ≤ sizeLine) : addD (.list a) (.list b) = some (.list (a ++ b)) := if_pos h
theorem d_catS {a b : List D} (h : a.length + b.length ≤ sizeLine) : addD (scrD a) (.list b) = some (.list (a ++ b)) := if_pos h
theorem d_lst {l : List D} (h : l.length ≤ sizeLine) : lstD l = some (.list l) := if_pos h
theorem d_tup {l : List D} (h : l.length ≤ sizeLine) : tupD l = some (.tuple l) := if_pos h
theorem line_le {n : Nat} (h : n ≤ 1000000) : n ≤ sizeLine := Nat.le_trans h (by decide)
theorem d_lst0 : lstD [] = some (.list []) := rfl
theorem d_lst1 (a : D) : lstD [a] = some (.list [a]) := d_lst (by show 1 ≤ sizeLine; decide)
theorem d_lst2 (a b : D) : lstD [a, b] = some (.list [a, b]) := d_lst (by show 2 ≤ sizeLine; decide)
theorem d_lst3 (a b c : D) : lstD [a, b, c] = some (.list [a, b, c]) := d_lst (by show 3 ≤ sizeLine; decide)
theorem d_lst4 (a b c d : D) : lstD [a, b, c, d] = some (.list [a, b, c, d]) := d_lst (by show 4 ≤ sizeLine; decide)
theorem d_lst5 (a b c d e : D) : lstD [a, b, c, d, e] = some (.list [a, b, c, d, e]) := d_lst (by show 5 ≤ sizeLine; decide)
theorem d_lst6 (a b c d e f : D) : lstD [a, b, c, d, e, f] = some (.list [a, b, c, d, e, f]) := d_lst (by show 6 ≤ sizeLine; decide)
theorem d_tup1 (a : D) : tupD [a] = some (.tuple [a]) := d_tup (by show 1 ≤ sizeLine; decide)
theorem d_tup2 (a b : D) : tupD [a, b] = some (.tuple [a, b]) := d_tup (by show 2 ≤ sizeLine; decide)
theorem d_tup3 (a b c : D) : tupD [a, b, c] = some (.tuple [a, b, c]) := d_tup (by show 3 ≤ sizeLine; decide)
theorem d_tup4 (a b c d : D) : tupD [a, b, c, d] = some (.tuple [a, b, c, d]) := d_tup (by show 4 ≤ sizeLine; decide)
theorem d_ix0 (a : D) (l : List D) : idxD (.tuple (a :: l)) (.int 0) = some a := by
  show atI (a :: l) 0 = some a
  exact atI_nat (j := 0) rfl
theorem d_ix1 (a b : D) (l : List D) : idxD (.tuple (a :: b :: l)) (.int 1) = some b := by
  show atI (a :: b :: l) 1 = some b
  exact atI_nat (j := 1) rfl
theorem d_ix2 (a b c : D) (l : List D) : idxD (.tuple (a :: b :: c :: l)) (.int 2) = some c := by
  show atI (a :: b :: c :: l) 2 = some c
  exact atI_nat (j := 2) rfl
theorem d_ixl0 (a : D) (l : List D) : idxD (.list (a :: l)) (.int 0) = some a := by
  show atI (a :: l) 0 = some a
  exact atI_nat (j := 0) rfl
theorem d_ixl1 (a b : D) (l : List D) : idxD (.list (a :: b :: l)) (.int 1) = some b := by
  show atI (a :: b :: l) 1 = some b
  exact atI_nat (j := 1) rfl
theorem d_ixl2 (a b c : D) (l : List D) : idxD (.list (a :: b :: c :: l)) (.int 2) = some c := by
  show atI (a :: b :: c :: l) 2 = some c
  exact atI_nat (j := 2) rfl
/-! == of ints -/
theorem sh_int (a : Int) : SeqAt.shaped (.int a) = true := by
  unfold SeqAt.shaped
  simp [PyData.canLay0, PyData.depth]
theorem sh_bool (a : Bool) : SeqAt.shaped (.bool a) = true := by
  unfold SeqAt.shaped
  simp [PyData.canLay0, PyData.depth]
theorem sh_none : SeqAt.shaped .none = true := by
  unfold SeqAt.shaped
  simp [PyData.canLay0, PyData.depth]
theorem d_eqI (a b : Int) : eqD (.int a) (.int b) = some (.bool (decide (a = b))) := by
  unfold eqD
  rw [sh_int, sh_int]
  simp [PyData.eqv, Bool.beq_eq_decide_eq]
theorem d_neI (a b : Int) : neD (.int a) (.int b) = some (.bool (!decide (a = b))) := by
  unfold neD
  rw [sh_int, sh_int]
  simp [PyData.eqv, Bool.beq_eq_decide_eq]
theorem d_eqB (a b : Bool) : eqD (.bool a) (.bool b) = some (.bool (decide (a = b))) := by
  unfold eqD
  rw [sh_bool, sh_bool]
  simp [PyData.eqv, Bool.beq_eq_decide_eq]
theorem d_neB (a b : Bool) : neD (.bool a) (.bool b) = some (.bool (!decide (a = b))) := by
  unfold neD
  rw [sh_bool, sh_bool]
  simp [PyData.eqv, Bool.beq_eq_decide_eq]
theorem d_eqS {d : D} (h : SeqAt.shaped d = true) : eqD d d = some (.bool true) := by
  unfold eqD
  rw [h, SeqAt.eqv_refl d (SeqAt.canLay_of_shaped h)]; rfl
theorem d_neS {d : D} (h : SeqAt.shaped d = true) : neD d d = some (.bool false) := by
  unfold neD
  rw [h, SeqAt.eqv_refl d (SeqAt.canLay_of_shaped h)]; rfl
/-! sizes -/
class Sz (a : Int) (n : outParam Nat) : Prop where
  lt : a.natAbs < 2 ^ n
theorem sz_mul {a b : Int} {n k : Nat} (ha : a.natAbs < 2 ^ n) (hb : b.natAbs < 2 ^ k) : (a * b).natAbs < 2 ^ (n + k) := wide_lt ha hb
theorem sz_add {a b : Int} {n k : Nat} (ha : a.natAbs < 2 ^ n) (hb : b.natAbs < 2 ^ k) : (a + b).natAbs < 2 ^ (n + k + 1) := by
  have h1 : 2 ^ n ≤ 2 ^ (n + k) := Nat.pow_le_pow_right (by decide) (by omega)
  have h2 : 2 ^ k ≤ 2 ^ (n + k) := Nat.pow_le_pow_right (by decide) (by omega)
  rw [Nat.pow_succ]
  omega
theorem sz_sub {a b : Int} {n k : Nat} (ha : a.natAbs < 2 ^ n) (hb : b.natAbs < 2 ^ k) : (a - b).natAbs < 2 ^ (n + k + 1) := by
  have := sz_add ha (b := -b) (k := k) (by omega)
  omega
theorem sz_neg {a : Int} {n : Nat} (ha : a.natAbs < 2 ^ n) : (-a).natAbs < 2 ^ n := by omega
theorem sz_shl {a : Int} {n k : Nat} (ha : a.natAbs < 2 ^ n) : (a * 2 ^ k).natAbs < 2 ^ (n + k) := by
  rw [Int.natAbs_mul, Int.natAbs_pow, Nat.pow_add]
  exact Nat.mul_lt_mul_of_pos_right ha (Nat.two_pow_pos k)
theorem sz_div {a b : Int} {n : Nat} (ha : a.natAbs < 2 ^ n) : (a / b).natAbs < 2 ^ n := by
  by_cases hb : b = 0
  · subst hb; rw [Int.ediv_zero]; exact Nat.lt_of_le_of_lt (Nat.zero_le _) ha
  · have := Int.natAbs_ediv_le_natAbs a b
    omega
theorem sz_mod {a b : Int} {n : Nat} (hb : b.natAbs < 2 ^ n) (h0 : 0 < b) : (a % b).natAbs < 2 ^ n := by
  have h1 := Int.emod_nonneg a (b := b) (by omega)
  have h2 := Int.emod_lt_of_pos a h0
  omega
theorem sz_two {k : Nat} : ((2 : Int) ^ k).natAbs < 2 ^ (k + 1) := by
  rw [Int.natAbs_pow]
  exact Nat.pow_lt_pow_right (by decide) (by omega)
theorem sz_le {a : Int} {n k : Nat} (ha : a.natAbs < 2 ^ n) (h : n ≤ k) : a.natAbs < 2 ^ k := Nat.lt_of_lt_of_le ha (Nat.pow_le_pow_right (by decide) h)
section
variable {a b : Int} {n k : Nat}
instance [x : Sz a n] [y : Sz b k] : Sz (a * b) (n + k) := ⟨sz_mul x.lt y.lt⟩
instance [x : Sz a n] [y : Sz b k] : Sz (a + b) (n + k + 1) := ⟨sz_add x.lt y.lt⟩
instance [x : Sz a n] [y : Sz b k] : Sz (a - b) (n + k + 1) := ⟨sz_sub x.lt y.lt⟩
instance [x : Sz a n] : Sz (-a) n := ⟨sz_neg x.lt⟩
instance [x : Sz a n] : Sz (a / b) n := ⟨sz_div x.lt⟩
instance : Sz ((2 : Int) ^ k) (k + 1) := ⟨sz_two⟩
instance : Sz (0 : Int) 1 := ⟨by decide⟩
instance : Sz (1 : Int) 1 := ⟨by decide⟩
instance : Sz (2 : Int) 2 := ⟨by decide⟩
instance : Sz (3 : Int) 2 := ⟨by decide⟩
instance : Sz (4 : Int) 3 := ⟨by decide⟩
instance : Sz (5 : Int) 3 := ⟨by decide⟩
instance : Sz (6 : Int) 3 := ⟨by decide⟩
instance : Sz (7 : Int) 3 := ⟨by decide⟩
instance : Sz (8 : Int) 4 := ⟨by decide⟩
instance : Sz (9 : Int) 4 := ⟨by decide⟩
instance : Sz (10 : Int) 4 := ⟨by decide⟩
instance : Sz (11 : Int) 4 := ⟨by decide⟩
instance : Sz (12 : Int) 4 := ⟨by decide⟩
instance : Sz (13 : Int) 4 := ⟨by decide⟩
instance : Sz (14 : Int) 4 := ⟨by decide⟩
instance : Sz (15 : Int) 4 := ⟨by decide⟩
instance : Sz (16 : Int) 5 := ⟨by decide⟩
instance : Sz (20 : Int) 5 := ⟨by decide⟩
instance : Sz (32 : Int) 6 := ⟨by decide⟩
instance : Sz (60 : Int) 6 := ⟨by decide⟩
instance : Sz (64 : Int) 7 := ⟨by decide⟩
instance : Sz (100 : Int) 7 := ⟨by decide⟩
instance : Sz (128 : Int) 8 := ⟨by decide⟩
instance : Sz (250 : Int) 8 := ⟨by decide⟩
instance : Sz (256 : Int) 9 := ⟨by decide⟩
instance : Sz (512 : Int) 10 := ⟨by decide⟩
instance : Sz (1000 : Int) 10 := ⟨by decide⟩
instance : Sz (1024 : Int) 11 := ⟨by decide⟩
instance : Sz (20000 : Int) 15 := ⟨by decide⟩
instance : Sz (1000000 : Int) 20 := ⟨by decide⟩
instance : Sz (2147483579 : Int) 31 := ⟨by decide⟩
instance : Sz (2147483563 : Int) 31 := ⟨by decide⟩
instance : Sz (2147483629 : Int) 31 := ⟨by decide⟩
instance : Sz (2147483647 : Int) 31 := ⟨by decide⟩
instance : Sz (15485867 : Int) 24 := ⟨by decide⟩
instance : Sz (7919 : Int) 13 := ⟨by decide⟩
instance {c : Prop} [Decidable c] [x : Sz a n] [y : Sz b k] : Sz (if c then a else b) (n + k) := ⟨by
  split
  · exact sz_le x.lt (by omega)
  · exact sz_le y.lt (by omega)⟩
theorem fit_sz [x : Sz a n] (h : n ≤ 50000000) : fit a = true := fit_of x.lt h
theorem sz_of (h1 : -(2 ^ 64) < a) (h2 : a < 2 ^ 64) : Sz a 64 := ⟨by omega⟩
theorem sz_nat {z : Nat} (h : z < 2 ^ n) : Sz (z : Int) n := ⟨by omega⟩
end
theorem d_mul {a b : Int} (ha : fit a = true) (hb : fit b = true) : mulD (.int a) (.int b) = some (.int (a * b)) := by
  show (if fit a && fit b then _ else _) = _
  rw [ha, hb]; rfl
theorem d_shl {a : Int} {k : Nat} (ha : fit a = true) (hk : k ≤ 50000000) : shlD (.int a) (.int (k : Int)) = some (.int (a * 2 ^ k)) := by
  show (if _ then some (PyData.int (a * 2 ^ (k : Int).toNat)) else none) = _
  rw [if_pos ⟨by omega, by omega, ha⟩, Int.toNat_natCast]
theorem d_shr {a : Int} {k : Nat} : shrD (.int a) (.int (k : Int)) = some (.int (a / 2 ^ k)) := by
  show (if 0 ≤ (k : Int) then some (PyData.int (a / 2 ^ (k : Int).toNat)) else none) = _
  rw [if_pos (by omega), Int.toNat_natCast]
theorem d_fdiv {a b : Int} (h : 0 < b) (hb : b.natAbs.log2 < 9000) : fdivD (.int a) (.int b) = some (.int (a / b)) := if_pos ⟨h, hb⟩
theorem d_fdivN {a b : Int} (h : b < 0) (hb : b.natAbs < 1073741824) : fdivD (.int a) (.int b) = some (.int (a.fdiv b)) := by
  show (if _ then _ else if _ then _ else _) = _
  rw [if_neg (fun z => by omega), if_pos ⟨h, hb⟩]
theorem log_of {b : Int} {k : Nat} (hb : b.natAbs < 2 ^ k) (h : 0 < b) (hk : k ≤ 9000) : b.natAbs.log2 < 9000 := by
  have := (Nat.log2_lt (by omega)).mpr hb
  omega
theorem log_sz {b : Int} {k : Nat} [x : Sz b k] (h : 0 < b) (hk : k ≤ 9000) : b.natAbs.log2 < 9000 := log_of x.lt h hk
theorem d_mod {a b : Int} (h : 0 < b) : modD (.int a) (.int b) = some (.int (a % b)) := if_pos h
theorem d_pow {a : Int} {k : Nat} (h : a.natAbs < 2 ^ 64) (hk : k ≤ 1000000) : powD (.int a) (.int (k : Int)) = some (.int (a ^ k)) := by
  show (if _ then some (PyData.int (a ^ (k : Int).toNat)) else none) = _
  rw [if_pos ⟨by omega, by omega, h⟩, Int.toNat_natCast]
theorem d_rng1 {b : Int} (h1 : -(2 ^ 62) ≤ b) (h2 : b < 2 ^ 62) : rngD [.int b] = some (rgL 0 b) := by
  simp only [rngD]
  rw [if_pos ⟨h1, h2⟩]
theorem d_rng2 {a b : Int} (h1 : -(2 ^ 62) ≤ a) (h2 : a < 2 ^ 62) (h3 : -(2 ^ 62) ≤ b) (h4 : b < 2 ^ 62) : rngD [.int a, .int b] = some (rgL a b) := by
  simp only [rngD]
  rw [if_pos ⟨h1, h2, h3, h4⟩]
theorem rgL_len (a b : Int) : (rgL a b).length = (b - a).toNat := by
  unfold rgL
  rw [List.length_map, List.length_range]
/-! what comes of a thing, by wishes -/
def Ok {μ α : Type} (x : SM μ α) (m : μ) (P : α → μ → Prop) : Prop := ∃ a m', x m = .ok a m' ∧ P a m'
section
variable {μ α β τ ρ : Type} {x : SM μ α} {m : μ} {P Q : α → μ → Prop}
theorem Ok.mono (h : Ok x m P) (i : ∀ a m', P a m' → Q a m') : Ok x m Q := by
  obtain ⟨a, m', e, p⟩ := h
  exact ⟨a, m', e, i a m' p⟩
theorem ok_pu {a : α} (h : P a m) : Ok (pu a) m P := ⟨a, m, rfl, h⟩
theorem ok_bd {f : α → SM μ β} {P : β → μ → Prop} (h : Ok x m fun a m' => Ok (f a) m' P) : Ok (bd x f) m P := by
  obtain ⟨a, m', e, b, m2, e2, p⟩ := h
  exact ⟨b, m2, (bd_ok e).trans e2, p⟩
theorem ok_qx (h : Ok x m P) : Ok (qx x) m P := by
  obtain ⟨a, m', e, p⟩ := h
  exact ⟨a, m', qx_ok e, p⟩
theorem ok_px {x : SM Unit α} {P : α → μ → Prop} (h : Ok x () fun a _ => P a m) : Ok (px x : SM μ α) m P := by
  obtain ⟨a, m', e, p⟩ := h
  exact ⟨a, m, px_ok e, p⟩
theorem ok_fin {R : SM μ (Fl Unit ρ)} {P : D → μ → Prop} (h : Ok R m fun o m' => ∃ d, (o = .rt d ∨ (o = .nx () ∧ d = .none)) ∧ P d m') : Ok (fin R) m P := by
  obtain ⟨o, m', e, d, c, p⟩ := h
  rcases c with rfl | ⟨rfl, rfl⟩
  · exact ⟨d, m', bd_ok e, p⟩
  · exact ⟨.none, m', bd_ok e, p⟩
theorem ok_sq {ρ' : Type} {R : SM μ (Fl τ ρ)} {k : τ → SM μ (Fl ρ' ρ)} {P : Fl ρ' ρ → μ → Prop} (h : Ok R m fun o m' => ∃ s, o = .nx s ∧ Ok (k s) m' P) : Ok (sq R k) m P := by
  obtain ⟨o, m', e, s, rfl, b, m2, e2, p⟩ := h
  exact ⟨b, m2, (bd_ok e).trans e2, p⟩
/-- a loop that goes through -/
theorem ok_for {xs : List D} {b : D → τ → SM μ (Fl τ τ)} {s0 : τ} (I : Nat → τ → μ → Prop) (h0 : I 0 s0 m)
    (hs : ∀ i x s m, xs[i]? = some x → I i s m → Ok (b x s) m fun o m' => ∃ s', (o = .nx s' ∨ o = .ct s') ∧ I (i + 1) s' m') : Ok (forS xs s0 b : SM μ (Fl τ ρ)) m fun o m' => ∃ s, o = .nx s ∧ I xs.length s m' := by
  induction xs generalizing m s0 I with
  | nil => exact ⟨_, _, rfl, s0, rfl, h0⟩
  | cons x xs ih =>
    obtain ⟨o, m1, e1, s1, c, h1⟩ := hs 0 x s0 m rfl h0
    have h2 := ih (m := m1) (s0 := s1) (fun i => I (i + 1)) h1 fun i y s m hy h => hs (i + 1) y s m hy h
    obtain ⟨o2, m2, e2, s2, rfl, h3⟩ := h2
    refine ⟨_, m2, ?_, s2, rfl, h3⟩
    show bd (b x s0) _ m = _
    rw [bd_ok e1]
    rcases c with rfl | rfl
    · exact e2
    · exact e2
/-- a loop without a state that is reckoned -/
theorem for_pu {xs : List D} {b : D → τ → SM μ (Fl τ τ)} {g : D → τ → τ} {s0 : τ} (h : ∀ x ∈ xs, ∀ s, b x s = pu (.nx (g x s))) : (forS xs s0 b : SM μ (Fl τ ρ)) = pu (.nx (xs.foldl (fun s x => g x s) s0)) := by
  induction xs generalizing s0 with
  | nil => rfl
  | cons x xs ih =>
    show bd (b x s0) _ = _
    rw [h x (.head _) s0, pu_bd]
    exact ih fun y hy => h y (.tail _ hy)
/-- a while that looks for a number -/
theorem while_find {T : D → SM μ Bool} {b : D → SM μ (Fl D D)} {tst : Nat → Bool} {pt : Nat → D} (hT : ∀ s, T s = pu true) : ∀ (J n w0 : Nat), J < n → (∀ j, j ≤ J → b (.int ((w0 + j : Nat) : Int)) = if tst (w0 + j) then pu (.rt (pt (w0 + j))) else pu (.nx (.int ((w0 + j + 1 : Nat) : Int)))) → tst (w0 + J) = true →
    ∃ j, j ≤ J ∧ tst (w0 + j) = true ∧ (whileS n T b (.int (w0 : Int)) : SM μ (Fl D ρ)) = pu (.rt (pt (w0 + j)))
  | J, 0, w0, h, _, _ => by omega
  | J, n + 1, w0, hn, hb, ht => by
    have e0 : (whileS (n + 1) T b (.int (w0 : Int)) : SM μ (Fl D ρ)) = bd (b (.int (w0 : Int))) fun o => match o with
      | .nx s' => whileS n T b s'
      | .ct s' => whileS n T b s'
      | .bk s' => pu (.nx s')
      | .rt d => pu (.rt d) := by
      show bd (T _) _ = _
      rw [hT, pu_bd, if_pos rfl]
      refine congrArg (bd _) (funext fun o => ?_)
      cases o <;> rfl
    have h0 := hb 0 (by omega)
    rw [Nat.add_zero] at h0
    by_cases c : tst w0 = true
    · refine ⟨0, by omega, c, ?_⟩
      rw [e0, h0, if_pos c, pu_bd, Nat.add_zero]
    · rw [if_neg c] at h0
      cases J with
      | zero => exact absurd ht c
      | succ J =>
        obtain ⟨j, hj, tj, ej⟩ := while_find hT J n (w0 + 1) (by omega) (fun j hj => by
          have := hb (j + 1) (by omega)
          rw [show w0 + (j + 1) = w0 + 1 + j by omega] at this
          exact this) (by rw [show w0 + 1 + J = w0 + (J + 1) by omega]; exact ht)
        refine ⟨j + 1, by omega, by rw [show w0 + (j + 1) = w0 + 1 + j by omega]; exact tj, ?_⟩
        rw [e0, h0, pu_bd, show w0 + (j + 1) = w0 + 1 + j by omega]
        exact ej
theorem ok_ev {a : α} (h : x = pu a) (p : P a m) : Ok x m P := by
  subst h
  exact ok_pu p
end
local macro_rules | `(tactic| walk_at "ev1") => `(tactic| simp only [r_bd, r_as, r_op2, r_op1, r_opL, r_ac, r_a0, r_of, r_cP, r_cD, r_px, r_qx, r_tb, r_tr, r_tand, r_tor, r_tnot, r_eand, r_eor, r_enot, r_eif, r_chain, r_fin, r_rt, r_nx, r_sq, r_sqr, r_sqb, r_unp2, r_unp3, r_unp4, r_par2, r_part0, r_part, r_slice, r_itS, r_itR, r_u0, r_u1, r_u2, r_u3, r_u4, r_u5, r_u6, r_u7, r_ift, r_iff, d_add, d_addI, d_subI, d_sub, d_neg, d_lt, d_le, d_gt, d_ge, d_eqI, d_neI, d_eqB, d_neB, d_isN, d_isntN, d_isB, d_isntB, d_nn, d_ni, d_nt, d_nl, d_nb, d_abs, d_max, d_maxT, d_min, d_int, d_intB, d_len, d_lenT, d_list, d_listT, d_tuple, d_tupleT, d_seq, d_seqT, d_bits, d_and, d_or, d_xor, d_truB, d_truL, d_lst0, d_lst1, d_lst2, d_lst3, d_lst4, d_lst5, d_lst6, d_tup1, d_tup2, d_tup3, d_tup4, d_ix0, d_ix1, d_ix2, d_ixl0, d_ixl1, d_ixl2, if_true, if_false, Bool.false_eq_true, Bool.not_true, Bool.not_false])
local macro_rules | `(tactic| walk_at "fl1") => `(tactic| simp only [op2, op1, opL, ac, a0, cP, cD, SM.tb, SM.tr, tand, tor, tnot, eand, eor, enot, eif, SM.chain, part0, SM.part, SM.slice, itS, itR, boolD, intO, r_bd, r_as, r_of, r_px, r_qx, r_fin, r_rt, r_nx, r_sq, r_sqr, r_sqb, r_unp2, r_unp3, r_unp4, r_par2, r_u0, r_u1, r_u2, r_u3, r_u4, r_u5, r_u6, r_u7, r_ift, r_iff, d_add, d_addI, d_subI, d_sub, d_neg, d_lt, d_le, d_gt, d_ge, d_eqI, d_neI, d_eqB, d_neB, d_isN, d_isntN, d_isB, d_isntB, d_nn, d_ni, d_nt, d_nl, d_nb, d_abs, d_max, d_maxT, d_min, d_int, d_intB, d_len, d_lenT, d_list, d_listT, d_tuple, d_tupleT, d_seq, d_seqT, d_bits, d_and, d_or, d_xor, d_truB, d_truL, d_lst0, d_lst1, d_lst2, d_lst3, d_lst4, d_lst5, d_lst6, d_tup1, d_tup2, d_tup3, d_tup4, d_ix0, d_ix1, d_ix2, d_ixl0, d_ixl1, d_ixl2, if_true, if_false, Bool.false_eq_true, Bool.not_true, Bool.not_false])
local macro_rules | `(tactic| walk_at "fj1") => `(tactic| simp only [op2, op1, opL, ac, a0, cP, cD, SM.tb, SM.tr, tand, tor, tnot, eand, eor, enot, eif, SM.chain, part0, SM.part, SM.slice, itS, itR, boolD, intO, r_bd, r_as, r_of, r_px, r_qx, r_rt, r_nx, r_sq, r_sqr, r_unp2, r_unp3, r_unp4, r_par2, r_u0, r_u1, r_u2, r_u3, r_u4, r_u5, r_u6, r_u7, r_ift, r_iff, d_add, d_addI, d_subI, d_sub, d_neg, d_lt, d_le, d_gt, d_ge, d_eqI, d_neI, d_eqB, d_neB, d_isN, d_isntN, d_isB, d_isntB, d_nn, d_ni, d_nt, d_nl, d_nb, d_abs, d_max, d_maxT, d_min, d_int, d_intB, d_len, d_lenT, d_list, d_listT, d_tuple, d_tupleT, d_seq, d_seqT, d_bits, d_and, d_or, d_xor, d_truB, d_truL, d_lst0, d_lst1, d_lst2, d_lst3, d_lst4, d_lst5, d_lst6, d_tup1, d_tup2, d_tup3, d_tup4, d_ix0, d_ix1, d_ix2, d_ixl0, d_ixl1, d_ixl2, if_true, if_false, Bool.false_eq_true, Bool.not_true, Bool.not_false])
local macro_rules | `(tactic| walk_at "fj") => `(tactic| try walk_at "fj1")
local macro_rules | `(tactic| walk_at "ps") => `(tactic| first | assumption | omega | exact tw_pos _ | (refine Int.mul_pos ?_ ?_ <;> walk_at "ps"))
local macro_rules | `(tactic| walk_at "r1") => `(tactic| first
  | (rw [d_mul]; rotate_left; exact fit_sz (by omega); exact fit_sz (by omega))
  | (rw [d_shl]; rotate_left; exact fit_sz (by omega); omega)
  | rw [d_shr]
  | (rw [d_mod]; rotate_left; walk_at "ps")
  | (rw [d_fdiv]; rotate_left; walk_at "ps"; exact log_sz (by walk_at "ps") (by omega)))
local macro_rules | `(tactic| walk_at "ev") => `(tactic| try walk_at "ev1")
local macro_rules | `(tactic| walk_at "fl") => `(tactic| try walk_at "fl1")
local macro_rules | `(tactic| walk_at "run") => `(tactic| (repeat (first | walk_at "ev1" | walk_at "r1")))
/-! ### what is drawn -/
def dkD (d0 d1 d2 : Int) : D := .list [.int d0, .int d1, .int d2]
def Dk (d : D) (n : Nat) : Prop := ∃ d0 d1 d2 : Int, d = dkD d0 d1 d2 ∧ 0 ≤ d0 ∧ 0 ≤ d1 ∧ d1 < 2147483648 ∧ 0 ≤ d2 ∧ d2 ≤ n
theorem Dk.le {d : D} {n k : Nat} (h : Dk d n) (e : n ≤ k) : Dk d k := by
  obtain ⟨d0, d1, d2, h1, h2, h3, h4, h5, h6⟩ := h
  exact ⟨d0, d1, d2, h1, h2, h3, h4, h5, by omega⟩
theorem c18 : powD (.int 10) (.int 18) = some (.int 1000000000000000000) := by
  have := d_pow (a := 10) (k := 18) (by decide) (by decide)
  exact this
theorem c12 : powD (.int 10) (.int 12) = some (.int 1000000000000) := by
  have := d_pow (a := 10) (k := 12) (by decide) (by decide)
  exact this
theorem ok_deck {c t : Int} {n : Nat} (h0 : 0 ≤ t) (h1 : t ≤ n) : ∃ d, m__law_deck (.int c) (.int t) = pu d ∧ Dk d n := by
  unfold m__law_deck
  walk_at "ev"
  rw [c18]
  walk_at "ev"
  by_cases h : 1000000000000000000 ≤ c
  · rw [decide_eq_true h]
    walk_at "ev"
    rw [d_mod (by decide)]
    walk_at "ev"
    refine ⟨_, rfl, _, _, _, rfl, by omega, by omega, by omega, h0, h1⟩
  · rw [decide_eq_false h]
    walk_at "ev"
    rw [d_mod (by decide)]
    walk_at "ev"
    refine ⟨_, rfl, _, _, _, rfl, by omega, by omega, by omega, h0, h1⟩
theorem gets_bd {μ β : Type} (f : μ → SM μ β) (m : μ) : bd gets f m = f m m := rfl
theorem puts_bd {μ β : Type} (x : μ) (f : Unit → SM μ β) (m : μ) : bd (puts x) f m = f () x := rfl
theorem set0 (a b c x : D) : setD (.list [a, b, c]) (.int 0) x = some (.list [x, b, c]) := rfl
theorem set2 (a b c x : D) : setD (.list [a, b, c]) (.int 2) x = some (.list [a, b, x]) := rfl
theorem dk_ix0 (a b c : Int) : idxD (dkD a b c) (.int 0) = some (.int a) := d_ixl0 _ _
theorem dk_ix1 (a b c : Int) : idxD (dkD a b c) (.int 1) = some (.int b) := d_ixl1 _ _ _
theorem dk_ix2 (a b c : Int) : idxD (dkD a b c) (.int 2) = some (.int c) := d_ixl2 _ _ _ _
theorem ok_pick {k : Int} {d : D} {n : Nat} (hd : Dk d n) (hn : n ≤ 1000000000) (hk : 0 < k) (hk2 : k.natAbs.log2 < 9000) : Ok (m__law_pick (.int k)) d fun x d' => ∃ v, x = .int v ∧ 0 ≤ v ∧ v < k ∧ Dk d' (n + 1) := by
  obtain ⟨d0, d1, d2, rfl, h0, h1, h2, h3, h4⟩ := hd
  have e1 : (m__law_pick (.int k)) (dkD d0 d1 d2) = (if 1 < d0 then Rs.ok (.int (d0 % k)) (dkD (d0 / k) d1 d2) else
      if 1000000 < k then Rs.ok (.int ((((d1 + 15485867 * (d2 + 1)) ^ 5 % 2147483647 + 7919 * (d2 + 1)) ^ 3 % 2147483629 / 32 * 2147483563 + (d1 + 15485867 * (d2 + 1)) ^ 5 % 2147483647) % k)) (dkD d0 d1 (d2 + 1))
      else Rs.ok (.int (((d1 + 15485867 * (d2 + 1)) ^ 5 % 2147483647 + 7919 * (d2 + 1)) ^ 3 % 2147483629 / 32 % k)) (dkD d0 d1 (d2 + 1))) := by
    have p5 : ∀ x : Int, x.natAbs < 2 ^ 64 → powD (.int x) (.int 5) = some (.int (x ^ 5)) := fun x h => d_pow (k := 5) h (by decide)
    have p3 : ∀ x : Int, x.natAbs < 2 ^ 64 → powD (.int x) (.int 3) = some (.int (x ^ 3)) := fun x h => d_pow (k := 3) h (by decide)
    have m1 : ∀ x : Int, -(2 ^ 60) < x → x < 2 ^ 60 → mulD (.int 15485867) (.int x) = some (.int (15485867 * x)) := fun x g1 g2 => d_mul (fit_of (n := 64) (by decide) (by decide)) (fit_of (n := 64) (by omega) (by decide))
    have m2 : ∀ x : Int, -(2 ^ 60) < x → x < 2 ^ 60 → mulD (.int 7919) (.int x) = some (.int (7919 * x)) := fun x g1 g2 => d_mul (fit_of (n := 64) (by decide) (by decide)) (fit_of (n := 64) (by omega) (by decide))
    have m3 : ∀ x : Int, -(2 ^ 60) < x → x < 2 ^ 60 → mulD (.int x) (.int 2147483563) = some (.int (x * 2147483563)) := fun x g1 g2 => d_mul (fit_of (n := 64) (by omega) (by decide)) (fit_of (n := 64) (by decide) (by decide))
    unfold m__law_pick
    walk_at "fl"
    rw [gets_bd, dk_ix0]
    walk_at "fl"
    by_cases c : 1 < d0
    · rw [decide_eq_true c, if_pos c]
      walk_at "fl"
      rw [gets_bd, dk_ix0]
      walk_at "fl"
      rw [d_mod hk]
      walk_at "fl"
      rw [gets_bd, dk_ix0]
      walk_at "fl"
      rw [d_fdiv hk hk2]
      walk_at "fl"
      rw [gets_bd, dkD, set0]
      rfl
    · rw [decide_eq_false c, if_neg c]
      walk_at "fl"
      rw [gets_bd, dk_ix2]
      walk_at "fl"
      rw [gets_bd, dkD, set2]
      walk_at "fl"
      rw [puts_bd, gets_bd, d_ixl1]
      walk_at "fl"
      rw [gets_bd, d_ixl2]
      walk_at "fl"
      rw [m1 _ (by omega) (by omega)]
      walk_at "fl"
      rw [p5 _ (by omega)]
      walk_at "fl"
      rw [d_mod (by decide)]
      walk_at "fl"
      rw [gets_bd, d_ixl2]
      walk_at "fl"
      rw [m2 _ (by omega) (by omega)]
      walk_at "fl"
      rw [p3 _ (by omega)]
      walk_at "fl"
      rw [d_mod (by decide)]
      walk_at "fl"
      rw [d_fdiv (by decide) (by decide)]
      walk_at "fl"
      by_cases c2 : 1000000 < k
      · rw [decide_eq_true c2, if_pos c2]
        walk_at "fl"
        rw [m3 _ (by omega) (by omega)]
        walk_at "fl"
        rw [d_mod hk]
        rfl
      · rw [decide_eq_false c2, if_neg c2]
        walk_at "fl"
        rw [d_mod hk]
        rfl
  by_cases c : 1 < d0
  · rw [if_pos c] at e1
    exact ⟨_, _, e1, _, rfl, Int.emod_nonneg _ (by omega), Int.emod_lt_of_pos _ hk, _, _, _, rfl, Int.ediv_nonneg h0 (by omega), h1, h2, h3, by omega⟩
  · rw [if_neg c] at e1
    by_cases c2 : 1000000 < k
    · rw [if_pos c2] at e1
      exact ⟨_, _, e1, _, rfl, Int.emod_nonneg _ (by omega), Int.emod_lt_of_pos _ hk, _, _, _, rfl, h0, h1, h2, by omega, by omega⟩
    · rw [if_neg c2] at e1
      exact ⟨_, _, e1, _, rfl, Int.emod_nonneg _ (by omega), Int.emod_lt_of_pos _ hk, _, _, _, rfl, h0, h1, h2, by omega, by omega⟩
local macro_rules | `(tactic| walk_at "pk") => `(tactic| refine ok_bd (ok_qx ((ok_pick (by assumption) (by omega) (by first | decide | omega) (by first | decide | exact log_sz (by omega) (by omega))).mono ?_)))
theorem ix_some {xs : List D} {v : Int} (h0 : 0 ≤ v) (h1 : v < xs.length) : ∃ y, y ∈ xs ∧ idxD (.list xs) (.int v) = some y := by
  obtain ⟨k, rfl⟩ := Int.eq_ofNat_of_zero_le h0
  have hk : k < xs.length := by omega
  exact ⟨xs[k], List.getElem_mem hk, atI_nat (List.getElem?_eq_getElem hk)⟩
theorem ok_kind {d : D} {n : Nat} (hd : Dk d n) (hn : n ≤ 900000000) : Ok m__law_kind d fun x d' => ∃ b m, x = .tuple [.int b, .int m] ∧ ((b = 2 ∨ b = 4 ∨ b = 8 ∨ b = 16) ∧ b / 2 ≤ m ∧ m ≤ b - 1) ∧ Dk d' (n + 2) := by
  unfold m__law_kind
  walk_at "fl"
  walk_at "pk"
  rintro _ d1 ⟨v, rfl, v0, v1, hd1⟩
  obtain ⟨y, my, ey⟩ := ix_some (xs := [PyData.int 2, .int 4, .int 4, .int 8, .int 16]) v0 (by show v < 5; omega)
  rw [ey]
  have hb : ∃ b : Int, y = .int b ∧ (b = 2 ∨ b = 4 ∨ b = 8 ∨ b = 16) := by
    simp only [List.mem_cons, List.not_mem_nil, or_false] at my
    rcases my with e | e | e | e | e <;> exact ⟨_, e, by decide⟩
  obtain ⟨b, rfl, hb⟩ := hb
  walk_at "fl"
  rw [d_fdiv (by decide) (by decide)]
  walk_at "fl"
  have i : Sz (b - b / 2) 64 := ⟨by omega⟩
  walk_at "pk"
  rintro _ d2 ⟨v2, rfl, w0, w1, hd2⟩
  walk_at "fl"
  exact ok_pu ⟨b, _, rfl, ⟨hb, by omega, by omega⟩, hd2⟩
/-! ### which figures serve: the mathematics -/
def absI (r : Int) : Int := if r < 0 then -r else r
def svs (b m f d r : Int) : Bool := decide ((b - 1) * absI (r - f * d) ≤ m * d)
theorem abs_mul {c x : Int} (h : 0 ≤ c) : c * absI x = absI (c * x) := by
  unfold absI
  by_cases h1 : x < 0
  · rw [if_pos h1]
    by_cases h2 : c * x < 0
    · rw [if_pos h2, Int.mul_neg]
    · have := Int.mul_nonpos_of_nonneg_of_nonpos h (show x ≤ 0 by omega)
      rw [if_neg h2, Int.mul_neg]; omega
  · rw [if_neg h1, if_neg]
    have := Int.mul_nonneg h (show 0 ≤ x by omega)
    omega
theorem abs_le {x y : Int} : absI x ≤ y ↔ -y ≤ x ∧ x ≤ y := by
  unfold absI
  split <;> omega
theorem svs_iff {b m f d r : Int} (hb : 2 ≤ b) : svs b m f d r = true ↔ (b - 1) * r - m * d ≤ f * ((b - 1) * d) ∧ f * ((b - 1) * d) ≤ (b - 1) * r + m * d := by
  unfold svs
  rw [decide_eq_true_iff, abs_mul (by omega), abs_le, Int.mul_sub, show (b - 1) * (f * d) = f * ((b - 1) * d) by rw [← Int.mul_assoc, Int.mul_comm (b - 1) f, Int.mul_assoc]]
  omega
/-- the least and the greatest figure that serves -/
def svL (b m d r : Int) : Int := -((m * d - (b - 1) * r) / ((b - 1) * d))
def svU (b m d r : Int) : Int := ((b - 1) * r + m * d) / ((b - 1) * d)
theorem svs_LU {b m f d r : Int} (hb : 2 ≤ b) (hd : 1 ≤ d) : svs b m f d r = true ↔ svL b m d r ≤ f ∧ f ≤ svU b m d r := by
  have hN : 0 < (b - 1) * d := Int.mul_pos (by omega) (by omega)
  rw [svs_iff hb]
  unfold svL svU
  rw [Int.le_ediv_iff_mul_le hN]
  have e : -((m * d - (b - 1) * r) / ((b - 1) * d)) ≤ f ↔ -f ≤ (m * d - (b - 1) * r) / ((b - 1) * d) := by omega
  rw [e, Int.le_ediv_iff_mul_le hN, Int.neg_mul]
  omega
theorem LU {b m d r : Int} (hb : 2 ≤ b) (hm : b ≤ 2 * m) (hd : 1 ≤ d) (h : (b - 1) * absI r ≤ b * m * d) : svL b m d r ≤ svU b m d r ∧ svL b m d r ≤ m ∧ -m ≤ svU b m d r := by
  have hN : 0 < (b - 1) * d := Int.mul_pos (by omega) (by omega)
  rw [abs_mul (by omega), abs_le] at h
  have e1 : b * m * d = m * ((b - 1) * d) + m * d := by
    rw [← Int.mul_assoc, ← Int.add_mul]
    congr 1
    rw [Int.mul_sub, Int.mul_one, Int.mul_comm m b]; omega
  have e2 : (b - 1) * d = b * d - d := by rw [Int.sub_mul, Int.one_mul]
  have e3 : b * d ≤ 2 * (m * d) := by
    have := Int.mul_le_mul_of_nonneg_right hm (show 0 ≤ d by omega)
    rw [Int.mul_assoc] at this; exact this
  rw [e1] at h
  unfold svL svU
  generalize (b - 1) * r = A at *
  generalize hX : m * d = X at *
  generalize hNe : (b - 1) * d = N at *
  have a1 := Int.emod_nonneg (A + X) (b := N) (by omega)
  have a2 := Int.emod_lt_of_pos (A + X) hN
  have a3 := Int.emod_add_mul_ediv (A + X) N
  have b1 := Int.emod_nonneg (X - A) (b := N) (by omega)
  have b2 := Int.emod_lt_of_pos (X - A) hN
  have b3 := Int.emod_add_mul_ediv (X - A) N
  refine ⟨?_, ?_, ?_⟩
  · have c1 : N * ((A + X) / N + (X - A) / N) > -N - 1 + 1 := by
      rw [Int.mul_add]; omega
    have c2 : N * (-1) < N * ((A + X) / N + (X - A) / N) := by rw [Int.mul_neg, Int.mul_one]; omega
    have := Int.lt_of_mul_lt_mul_left c2 (by omega)
    omega
  · have : -m ≤ (X - A) / N := by
      rw [Int.le_ediv_iff_mul_le hN, Int.neg_mul]; omega
    omega
  · rw [Int.le_ediv_iff_mul_le hN, Int.neg_mul]; omega
/-- what is within an interval, of all numbers below n -/
theorem filter_iv {n lo hi : Nat} {p : Nat → Bool} (h1 : lo ≤ hi) (h2 : hi ≤ n) (h : ∀ i, i < n → (p i = true ↔ lo ≤ i ∧ i < hi)) : (List.range n).filter p = List.range' lo (hi - lo) := by
  have e : List.range n = List.range' 0 lo ++ List.range' lo (hi - lo) ++ List.range' hi (n - hi) := by
    have e1 := List.range'_append_1 (s := 0) (m := lo) (n := hi - lo)
    have e2 := List.range'_append_1 (s := 0) (m := hi) (n := n - hi)
    rw [Nat.zero_add] at e1 e2
    rw [e1, show lo + (hi - lo) = hi by omega, e2, List.range_eq_range', show hi + (n - hi) = n by omega]
  rw [e, List.filter_append, List.filter_append]
  have f1 : (List.range' 0 lo).filter p = [] := by
    rw [List.filter_eq_nil_iff]
    intro i hi' hp
    rw [List.mem_range'_1] at hi'
    have := (h i (by omega)).mp hp
    omega
  have f2 : (List.range' hi (n - hi)).filter p = [] := by
    rw [List.filter_eq_nil_iff]
    intro i hi' hp
    rw [List.mem_range'_1] at hi'
    have := (h i (by omega)).mp hp
    omega
  have f3 : (List.range' lo (hi - lo)).filter p = List.range' lo (hi - lo) := by
    rw [List.filter_eq_self]
    intro i hi'
    rw [List.mem_range'_1] at hi'
    exact (h i (by omega)).mpr (by omega)
  rw [f1, f2, f3, List.nil_append, List.append_nil]
/-! ### met cells and good figures: the mathematics -/
def figs (m : Int) : List Int := (List.range (2 * m + 1).toNat).map fun (i : Nat) => -m + (i : Int)
def metB (b m : Int) (t p : Nat) (s T l : Int) : Bool := decide (l * (b - 1) * 2 ^ t < b * m * (T + 1) * 2 ^ p) && decide (-(l + s) * (b - 1) * 2 ^ t < b * m * (T + 1) * 2 ^ p)
/-- E ≤ U times the side of a divisor that is the worse one -/
def sideOk (E U A C : Int) : Prop := E ≤ U * (if 0 ≤ U then A else C)
instance (E U A C : Int) : Decidable (sideOk E U A C) := inferInstanceAs (Decidable (_ ≤ _))
def upB (b m : Int) (t p : Nat) (T e f : Int) : Bool := decide (f = m) || decide (sideOk (e * (b - 1) * 2 ^ t) (f * (b - 1) + m) (T * 2 ^ p) ((T + 1) * 2 ^ p))
def goodB (b m : Int) (t p : Nat) (s T l f : Int) : Bool := upB b m t p T (l + s) f && upB b m t p T (-l) (-f)
def goodL (b m : Int) (t p : Nat) (s T l : Int) : List Int := if metB b m t p s T l then (figs m).filter (goodB b m t p s T l) else figs m
def clampI (m x : Int) : Int := if (if x < m then x else m) > -m then (if x < m then x else m) else -m
def lgeF (b m : Int) (t p : Nat) (T e : Int) : Int := -(-(e * (b - 1) * 2 ^ t - m * (if e > 0 then T else T + 1) * 2 ^ p) / ((if e > 0 then T else T + 1) * (b - 1) * 2 ^ p))
def lge (b m : Int) (t p : Nat) (T e : Int) : Int := clampI m (lgeF b m t p T e)
theorem tw_pos (k : Nat) : (0 : Int) < 2 ^ k := by
  have h := Nat.two_pow_pos k
  have e : (2 : Int) ^ k = ((2 ^ k : Nat) : Int) := by rw [Int.natCast_pow]; rfl
  rw [e]; omega
theorem clamp_le {m x f : Int} (h1 : -m ≤ f) (h2 : f ≤ m) (hm : 0 < m) : clampI m x ≤ f ↔ f = m ∨ x ≤ f := by
  unfold clampI
  constructor
  · intro h
    split at h <;> split at h <;> omega
  · intro h
    split <;> split <;> omega
theorem ceil_le {X N f : Int} (hN : 0 < N) : -(-X / N) ≤ f ↔ X ≤ f * N := by
  have e : -(-X / N) ≤ f ↔ -f ≤ -X / N := by omega
  rw [e, Int.le_ediv_iff_mul_le hN, Int.neg_mul]
  omega
theorem side_pos {E U A C : Int} (hE : 0 < E) (hA : 0 < A) (hC : 0 < C) : sideOk E U A C ↔ E ≤ U * A := by
  unfold sideOk
  by_cases h : 0 ≤ U
  · rw [if_pos h]
  · rw [if_neg h]
    have h1 := Int.mul_neg_of_neg_of_pos (show U < 0 by omega) hA
    have h2 := Int.mul_neg_of_neg_of_pos (show U < 0 by omega) hC
    omega
theorem side_npos {E U A C : Int} (hE : E ≤ 0) (hA : 0 < A) (hC : 0 < C) : sideOk E U A C ↔ E ≤ U * C := by
  unfold sideOk
  by_cases h : 0 ≤ U
  · rw [if_pos h]
    have h1 := Int.mul_nonneg h (Int.le_of_lt hA)
    have h2 := Int.mul_nonneg h (Int.le_of_lt hC)
    omega
  · rw [if_neg h]
theorem lge_iff {b m : Int} {t p : Nat} {T e f : Int} (hb : 2 ≤ b) (hm : 0 < m) (hT : 1 ≤ T) (h1 : -m ≤ f) (h2 : f ≤ m) : lge b m t p T e ≤ f ↔ upB b m t p T e f = true := by
  unfold lge upB lgeF
  rw [clamp_le h1 h2 hm, Bool.or_eq_true, decide_eq_true_iff, decide_eq_true_iff]
  have ht := tw_pos t
  have hp := tw_pos p
  have hA : 0 < T * 2 ^ p := Int.mul_pos (by omega) hp
  have hC : 0 < (T + 1) * 2 ^ p := Int.mul_pos (by omega) hp
  have hk : ∀ D : Int, 1 ≤ D → (-(-(e * (b - 1) * 2 ^ t - m * D * 2 ^ p) / (D * (b - 1) * 2 ^ p)) ≤ f ↔ e * (b - 1) * 2 ^ t ≤ (f * (b - 1) + m) * (D * 2 ^ p)) := fun D hD => by
    rw [ceil_le (Int.mul_pos (Int.mul_pos (by omega) (by omega)) hp)]
    have e1 : f * (D * (b - 1) * 2 ^ p) = f * (b - 1) * (D * 2 ^ p) := by
      rw [Int.mul_comm D (b - 1), Int.mul_assoc, Int.mul_assoc]
    rw [e1, Int.add_mul, ← Int.mul_assoc m]
    omega
  by_cases he : e > 0
  · rw [if_pos he, hk T hT, side_pos (Int.mul_pos (Int.mul_pos he (by omega)) ht) hA hC]
  · rw [if_neg he, hk (T + 1) (by omega), side_npos (Int.mul_nonpos_of_nonpos_of_nonneg (Int.mul_nonpos_of_nonpos_of_nonneg (by omega) (by omega)) (Int.le_of_lt ht)) hA hC]
theorem good_iff {b m : Int} {t p : Nat} {s T l f : Int} (hb : 2 ≤ b) (hm : 0 < m) (hT : 1 ≤ T) (h1 : -m ≤ f) (h2 : f ≤ m) : goodB b m t p s T l f = true ↔ lge b m t p T (l + s) ≤ f ∧ f ≤ -lge b m t p T (-l) := by
  unfold goodB
  rw [Bool.and_eq_true, ← lge_iff hb hm hT h1 h2, ← lge_iff hb hm hT (by omega) (by omega)]
  omega
theorem clamp_bd {m x : Int} (hm : 0 < m) : -m ≤ clampI m x ∧ clampI m x ≤ m := by
  unfold clampI
  split <;> split <;> omega
/-- the law's own look at whether a cell is met -/
def lawMet (b m : Int) (t p : Nat) (s T l : Int) : Bool := if l * 2 ^ t > 0 then decide (l * 2 ^ t * (b - 1) < (T + 1) * 2 ^ p * b * m) else decide ((l + s) * 2 ^ t ≥ 0) || decide (0 - (l + s) * 2 ^ t * (b - 1) < (T + 1) * 2 ^ p * b * m)
theorem met_law {b m : Int} {t p : Nat} {s T l : Int} (hb : 2 ≤ b) (hm : 0 < m) (hT : 1 ≤ T) (hs : 0 ≤ s) : lawMet b m t p s T l = metB b m t p s T l := by
  have ht := tw_pos t
  have hp := tw_pos p
  have hR : 0 < b * m * (T + 1) * 2 ^ p := Int.mul_pos (Int.mul_pos (Int.mul_pos (by omega) hm) (by omega)) hp
  have e1 : (T + 1) * 2 ^ p * b * m = b * m * (T + 1) * 2 ^ p := by
    rw [Int.mul_assoc, Int.mul_comm _ (b * m), Int.mul_assoc (b * m)]
  have e2 : l * 2 ^ t * (b - 1) = l * (b - 1) * 2 ^ t := by rw [Int.mul_assoc, Int.mul_comm (2 ^ t), ← Int.mul_assoc]
  have e3 : 0 - (l + s) * 2 ^ t * (b - 1) = -(l + s) * (b - 1) * 2 ^ t := by
    rw [Int.mul_assoc, Int.mul_comm (2 ^ t), ← Int.mul_assoc, Int.neg_mul, Int.neg_mul]; omega
  unfold lawMet metB
  rw [e1, e2, e3]
  generalize b * m * (T + 1) * 2 ^ p = R at *
  have sg : ∀ x : Int, (0 < x → 0 < x * (b - 1) * 2 ^ t) ∧ (x ≤ 0 → x * (b - 1) * 2 ^ t ≤ 0) := fun x =>
    ⟨fun h => Int.mul_pos (Int.mul_pos h (by omega)) ht, fun h => Int.mul_nonpos_of_nonpos_of_nonneg (Int.mul_nonpos_of_nonpos_of_nonneg h (by omega)) (Int.le_of_lt ht)⟩
  have g1 := sg l
  have g2 := sg (-(l + s))
  have f1 : l * 2 ^ t > 0 ↔ 0 < l := ⟨fun h => Int.pos_of_mul_pos_left h ht, fun h => Int.mul_pos h ht⟩
  have f2 : (l + s) * 2 ^ t ≥ 0 ↔ 0 ≤ l + s := ⟨fun h => by
    by_cases c : 0 ≤ l + s
    · exact c
    · have := Int.mul_neg_of_neg_of_pos (show l + s < 0 by omega) ht
      omega, fun h => Int.mul_nonneg h (Int.le_of_lt ht)⟩
  generalize l * (b - 1) * 2 ^ t = X at *
  generalize -(l + s) * (b - 1) * 2 ^ t = Y at *
  by_cases h : 0 < l
  · rw [if_pos (f1.mpr h), decide_eq_true (p := Y < R) (by have := g2.2 (by omega); omega), Bool.and_true]
  · rw [if_neg (fun z => h (f1.mp z)), decide_eq_true (p := X < R) (by have := g1.2 (by omega); omega), Bool.true_and]
    by_cases h3 : 0 ≤ l + s
    · rw [decide_eq_true (f2.mpr h3), decide_eq_true (p := Y < R) (by have := g2.2 (by omega); omega), Bool.true_or]
    · rw [decide_eq_false (fun z => h3 (f2.mp z)), Bool.false_or]
/-- the program's own -/
theorem met_prog {b m : Int} {t p : Nat} {s T l : Int} (hb : 2 ≤ b) : (decide (-((b * m * (T + 1) * 2 ^ p - 1) / ((b - 1) * 2 ^ t)) - s ≤ l) && decide (l ≤ (b * m * (T + 1) * 2 ^ p - 1) / ((b - 1) * 2 ^ t))) = metB b m t p s T l := by
  have hN : 0 < (b - 1) * 2 ^ t := Int.mul_pos (by omega) (tw_pos t)
  unfold metB
  rw [Int.mul_assoc l, Int.mul_assoc (-(l + s)), Bool.and_comm]
  have c1 : l ≤ (b * m * (T + 1) * 2 ^ p - 1) / ((b - 1) * 2 ^ t) ↔ l * ((b - 1) * 2 ^ t) < b * m * (T + 1) * 2 ^ p := by
    rw [Int.le_ediv_iff_mul_le hN]; omega
  have c2 : -((b * m * (T + 1) * 2 ^ p - 1) / ((b - 1) * 2 ^ t)) - s ≤ l ↔ -(l + s) * ((b - 1) * 2 ^ t) < b * m * (T + 1) * 2 ^ p := by
    have e : -((b * m * (T + 1) * 2 ^ p - 1) / ((b - 1) * 2 ^ t)) - s ≤ l ↔ -(l + s) ≤ (b * m * (T + 1) * 2 ^ p - 1) / ((b - 1) * 2 ^ t) := by omega
    rw [e, Int.le_ediv_iff_mul_le hN]; omega
  rw [decide_eq_decide.mpr c1, decide_eq_decide.mpr c2]
def intsR (a b : Int) : List Int := (List.range (b - a).toNat).map fun (i : Nat) => a + (i : Int)
theorem good_list {b m : Int} {t p : Nat} {s T l : Int} (hb : 2 ≤ b) (hm : 0 < m) (hT : 1 ≤ T) : (figs m).filter (goodB b m t p s T l) = intsR (lge b m t p T (l + s)) (-lge b m t p T (-l) + 1) := by
  have b1 := clamp_bd (x := lgeF b m t p T (l + s)) hm
  have b2 := clamp_bd (x := lgeF b m t p T (-l)) hm
  have hg := fun f h1 h2 => @good_iff b m t p s T l f hb hm hT h1 h2
  unfold lge at *
  generalize clampI m (lgeF b m t p T (l + s)) = L at *
  generalize clampI m (lgeF b m t p T (-l)) = G at *
  unfold figs intsR
  rw [List.filter_map, filter_iv (lo := (L + m).toNat) (hi := max (L + m).toNat (-G + m + 1).toNat) (by omega) (by omega) (fun i hi => ?_)]
  · rw [List.range'_eq_map_range, List.map_map, show max (L + m).toNat (-G + m + 1).toNat - (L + m).toNat = (-G + 1 - L).toNat by omega]
    refine List.map_congr_left fun i _ => ?_
    show -m + (((L + m).toNat + i : Nat) : Int) = L + (i : Int)
    omega
  · show goodB b m t p s T l (-m + (i : Int)) = true ↔ _
    rw [hg _ (by omega) (by omega)]
    omega
theorem figs_rng (m : Int) : figs m = intsR (-m) (m + 1) := by
  unfold figs intsR
  rw [show (m + 1 - -m).toNat = (2 * m + 1).toNat by omega]
/-! ### kinds, looks, cells: what the program's own mirrors come to -/
abbrev t2 (a b : Int) : D := .tuple [.int a, .int b]
abbrev t3 (a b c : Int) : D := .tuple [.int a, .int b, .int c]
def Kd (b m : Int) : Prop := (b = 2 ∨ b = 4 ∨ b = 8 ∨ b = 16) ∧ b / 2 ≤ m ∧ m ≤ b - 1
theorem Kd.bd {b m : Int} (h : Kd b m) : 2 ≤ b ∧ b ≤ 16 ∧ 1 ≤ m ∧ m ≤ 15 ∧ m < b ∧ b ≤ 2 * m ∧ 2 ≤ b * m ∧ b * m ≤ 240 := by
  obtain ⟨h1, h2, h3⟩ := h
  rcases h1 with e | e | e | e <;> subst e <;> refine ⟨?_, ?_, ?_, ?_, ?_, ?_, ?_, ?_⟩ <;> omega
theorem Kd.sb {b m : Int} (h : Kd b m) : Sz b 5 := ⟨by have := h.bd; omega⟩
theorem Kd.sm {b m : Int} (h : Kd b m) : Sz m 5 := ⟨by have := h.bd; omega⟩
def lastF (b m : Int) (t p : Nat) (u : Int) : Int := (b * m * (u + 1) * 2 ^ p - 1) / ((b - 1) * 2 ^ t)
def rgI (a b : Int) : D := .list ((intsR a b).map .int)
theorem d_lrg {a b : Int} (h1 : -(2 ^ 62) ≤ a ∧ a < 2 ^ 62 ∧ -(2 ^ 62) ≤ b ∧ b < 2 ^ 62 ∧ (b - a).toNat ≤ 2 ^ 24) : lrg [.int a, .int b] = some (rgI a b) := by
  show (if _ then some (rgD a b) else none) = _
  rw [if_pos h1]
  unfold rgD rgI intsR
  rw [List.map_map]; rfl
/-! ### data that can be held against data -/
def flat : PyData → Bool
  | .int _ => true
  | .bool _ => true
  | .none => true
  | _ => false
theorem flat_ok {d : PyData} (h : flat d = true) : d.canLay0 = true ∧ d.depth = 0 := by
  cases d with
  | int i => exact ⟨by simp only [PyData.canLay0], by simp only [PyData.depth]⟩
  | bool i => exact ⟨by simp only [PyData.canLay0], by simp only [PyData.depth]⟩
  | none => exact ⟨by simp only [PyData.canLay0], by simp only [PyData.depth]⟩
  | str x => cases h
  | list x => cases h
  | tuple x => cases h
  | dict x => cases h
theorem flats_ok : ∀ {ds : List PyData}, (∀ d ∈ ds, flat d = true) → PyData.canLayAll0 ds = true ∧ PyData.depthAll ds = 0
  | [], _ => ⟨by simp only [PyData.canLayAll0], by simp only [PyData.depthAll]⟩
  | d :: ds, h => by
    obtain ⟨h1, h2⟩ := flat_ok (h d (.head _))
    obtain ⟨h3, h4⟩ := flats_ok (ds := ds) fun x m => h x (.tail _ m)
    exact ⟨by simp only [PyData.canLayAll0]; rw [h1, h3]; rfl, by simp only [PyData.depthAll]; rw [h2, h4]; rfl⟩
theorem flats_ints {ns : List Int} : ∀ d ∈ ns.map PyData.int, flat d = true := fun d m => by
  obtain ⟨n, _, rfl⟩ := List.mem_map.mp m
  rfl
theorem shaped_of {d : PyData} (h1 : d.canLay0 = true) (h2 : d.depth ≤ 64) : SeqAt.shaped d = true := by
  unfold SeqAt.shaped
  rw [h1, decide_eq_true h2]; rfl
theorem shaped_flats {ds : List PyData} (h : ∀ d ∈ ds, flat d = true) : SeqAt.shaped (.list ds) = true := by
  obtain ⟨h1, h2⟩ := flats_ok h
  refine shaped_of ?_ ?_
  · simp only [PyData.canLay0]; exact h1
  · simp only [PyData.depth]; omega
theorem shaped_flatsT {ds : List PyData} (h : ∀ d ∈ ds, flat d = true) : SeqAt.shaped (.tuple ds) = true := by
  obtain ⟨h1, h2⟩ := flats_ok h
  refine shaped_of ?_ ?_
  · simp only [PyData.canLay0]; exact h1
  · simp only [PyData.depth]; omega
theorem shaped_ints (ns : List Int) : SeqAt.shaped (.list (ns.map PyData.int)) = true := shaped_flats flats_ints
theorem shaped_intsT (ns : List Int) : SeqAt.shaped (.tuple (ns.map PyData.int)) = true := shaped_flatsT flats_ints
theorem eqv_ints : ∀ (ns ms : List Int), PyData.eqvAll (ns.map PyData.int) (ms.map PyData.int) = decide (ns = ms)
  | [], [] => by simp [PyData.eqvAll]
  | [], _ :: _ => by simp [PyData.eqvAll]
  | _ :: _, [] => by simp [PyData.eqvAll]
  | n :: ns, m :: ms => by
    simp only [List.map_cons, PyData.eqvAll, PyData.eqv]
    rw [eqv_ints ns ms]
    by_cases h : n = m
    · subst h; simp
    · simp [h]
/-- a list of tuples of ints -/
def tupsI (xs : List (List Int)) : PyData := .list (xs.map fun ns => .tuple (ns.map PyData.int))
theorem tups_ok : ∀ (xs : List (List Int)), PyData.canLayAll0 (xs.map fun ns => .tuple (ns.map PyData.int)) = true ∧ PyData.depthAll (xs.map fun ns => .tuple (ns.map PyData.int)) ≤ 1
  | [] => ⟨by simp only [List.map_nil, PyData.canLayAll0], by simp only [List.map_nil, PyData.depthAll]; omega⟩
  | ns :: xs => by
    obtain ⟨h1, h2⟩ := tups_ok xs
    obtain ⟨h3, h4⟩ := flats_ok (flats_ints (ns := ns))
    refine ⟨?_, ?_⟩
    · simp only [List.map_cons, PyData.canLayAll0, PyData.canLay0]
      rw [h1, h3]; rfl
    · simp only [List.map_cons, PyData.depthAll, PyData.depth]
      omega
theorem shaped_tups (xs : List (List Int)) : SeqAt.shaped (tupsI xs) = true := by
  obtain ⟨h1, h2⟩ := tups_ok xs
  unfold tupsI
  refine shaped_of ?_ ?_
  · simp only [PyData.canLay0]; exact h1
  · simp only [PyData.depth]; omega
theorem d_neL (ns ms : List Int) : neD (.list (ns.map .int)) (.list (ms.map .int)) = some (.bool (!decide (ns = ms))) := by
  unfold neD
  rw [shaped_ints, shaped_ints, PyData.eqv, eqv_ints]; rfl
theorem d_eqL (ns ms : List Int) : eqD (.list (ns.map .int)) (.list (ms.map .int)) = some (.bool (decide (ns = ms))) := by
  unfold eqD
  rw [shaped_ints, shaped_ints, PyData.eqv, eqv_ints]; rfl
theorem d_neL0 (ns : List Int) : neD (.list (ns.map .int)) (.list []) = some (.bool (!decide (ns = []))) := d_neL ns []
theorem r_lc {μ : Type} {T : D → SM μ Bool} {E : D → SM μ D} (xs : List D) : SM.lc (pu xs) T E = bd (lcS T E xs []) fun ys => pu (.list ys) := rfl
theorem lc_map {μ : Type} {T : D → SM μ Bool} {E : D → SM μ D} {g : D → D} : ∀ (xs acc : List D), (∀ x ∈ xs, T x = pu true) → (∀ x ∈ xs, E x = pu (g x)) → acc.length + xs.length ≤ sizeLine → lcS T E xs acc = pu (acc ++ xs.map g)
  | [], acc, _, _, _ => by rw [List.map_nil, List.append_nil]; rfl
  | x :: xs, acc, hT, hE, h => by
    rw [List.length_cons] at h
    show bd (T x) _ = _
    rw [hT x (.head _), pu_bd, if_pos rfl, hE x (.head _), pu_bd, if_pos (by omega), lc_map xs _ (fun y hy => hT y (.tail _ hy)) (fun y hy => hE y (.tail _ hy)) (by rw [List.length_append, List.length_singleton]; omega), List.append_assoc]
    rfl
theorem cut_ints (ns : List Int) (lo hi : Option Int) : ∃ ms : List Int, ms.length ≤ ns.length ∧ cutD (ns.map PyData.int) lo hi = ms.map .int := by
  unfold cutD
  refine ⟨(ns.drop (HT.sIx (ns.map PyData.int).length 0 lo)).take (HT.sIx (ns.map PyData.int).length (ns.map PyData.int).length hi - HT.sIx (ns.map PyData.int).length 0 lo), ?_, ?_⟩
  · rw [List.length_take, List.length_drop]; omega
  · rw [List.map_take, List.map_drop]
theorem sli_scr {ns : List Int} {lo hi : Option Int} (h : ns.length ≤ 63) : ∃ ms : List Int, ms.length ≤ 63 ∧ sliD (scrD (ns.map .int)) lo hi = some (.list (ms.map .int)) := by
  obtain ⟨ms, h1, h2⟩ := cut_ints ns lo hi
  exact ⟨ms, by omega, by show some (PyData.list (cutD _ _ _)) = _; rw [h2]⟩
/-! ### any data: what is a table -/
theorem dep_list (xs : List D) : (PyData.list xs).depth = PyData.depthAll xs + 1 := by simp only [PyData.depth]
theorem dep_tup (xs : List D) : (PyData.tuple xs).depth = PyData.depthAll xs + 1 := by simp only [PyData.depth]
/-- data that can be held against data, at most n deep -/
def Lay (n : Nat) (d : D) : Prop := d.canLay0 = true ∧ d.depth ≤ n
theorem lay_all {n : Nat} : ∀ {xs : List D}, (∀ x ∈ xs, Lay n x) → PyData.canLayAll0 xs = true ∧ PyData.depthAll xs ≤ n
  | [], _ => ⟨by simp only [PyData.canLayAll0], by simp only [PyData.depthAll]; omega⟩
  | x :: xs, h => by
    obtain ⟨h1, h2⟩ := h x (.head _)
    obtain ⟨h3, h4⟩ := lay_all (xs := xs) fun y hy => h y (.tail _ hy)
    exact ⟨by simp only [PyData.canLayAll0]; rw [h1, h3]; rfl, by simp only [PyData.depthAll]; omega⟩
theorem all_lay {n : Nat} : ∀ {xs : List D}, PyData.canLayAll0 xs = true → PyData.depthAll xs ≤ n → ∀ x ∈ xs, Lay n x
  | [], _, _, x, hx => by cases hx
  | y :: ys, h1, h2, x, hx => by
    simp only [PyData.canLayAll0, Bool.and_eq_true] at h1
    simp only [PyData.depthAll] at h2
    rcases List.mem_cons.mp hx with e | e
    · subst e; exact ⟨h1.1, by omega⟩
    · exact all_lay (xs := ys) h1.2 (by omega) x e
theorem lay_list {n : Nat} {xs : List D} (h : ∀ x ∈ xs, Lay n x) : Lay (n + 1) (.list xs) := by
  obtain ⟨h1, h2⟩ := lay_all h
  exact ⟨by simp only [PyData.canLay0]; exact h1, by rw [dep_list]; omega⟩
theorem lay_tup {n : Nat} {xs : List D} (h : ∀ x ∈ xs, Lay n x) : Lay (n + 1) (.tuple xs) := by
  obtain ⟨h1, h2⟩ := lay_all h
  exact ⟨by simp only [PyData.canLay0]; exact h1, by rw [dep_tup]; omega⟩
theorem lay_of_list {n : Nat} {xs : List D} (h : Lay n (.list xs)) : ∀ x ∈ xs, Lay n x := by
  obtain ⟨h1, h2⟩ := h
  rw [dep_list] at h2
  simp only [PyData.canLay0] at h1
  exact all_lay h1 (by omega)
theorem Lay.le {n k : Nat} {d : D} (h : Lay n d) (e : n ≤ k) : Lay k d := ⟨h.1, Nat.le_trans h.2 e⟩
theorem Lay.shaped {n : Nat} {d : D} (h : Lay n d) (e : n ≤ 64) : SeqAt.shaped d = true := shaped_of h.1 (Nat.le_trans h.2 e)
theorem lay_int (i : Int) {n : Nat} : Lay n (.int i) := ⟨by simp only [PyData.canLay0], by simp only [PyData.depth]; omega⟩
theorem lay_bool (i : Bool) {n : Nat} : Lay n (.bool i) := ⟨by simp only [PyData.canLay0], by simp only [PyData.depth]; omega⟩
theorem lay_none {n : Nat} : Lay n .none := ⟨by simp only [PyData.canLay0], by simp only [PyData.depth]; omega⟩
theorem lay_str {x : Str} (h : (PyData.str x).canLay0 = true) {n : Nat} : Lay n (.str x) := ⟨h, by simp only [PyData.depth]; omega⟩
theorem d_ne0 {n : Nat} {xs : List D} (h : ∀ x ∈ xs, Lay n x) (e : n ≤ 60) : neD (.list xs) (.list []) = some (.bool (!xs.isEmpty)) := by
  unfold neD
  rw [(lay_list h).shaped (by omega), show SeqAt.shaped (.list []) = true from shaped_ints []]
  cases xs with
  | nil => simp [PyData.eqv, PyData.eqvAll]
  | cons x xs => simp [PyData.eqv, PyData.eqvAll]
/-! isinstance of all kinds -/
theorem k_ni : kitB "NoneType" "int" = some false := by decide +kernel
theorem k_si : kitB "str" "int" = some false := by decide +kernel
theorem k_li : kitB "list" "int" = some false := by decide +kernel
theorem k_ti : kitB "tuple" "int" = some false := by decide +kernel
theorem k_nl : kitB "NoneType" "list" = some false := by decide +kernel
theorem k_bl : kitB "bool" "list" = some false := by decide +kernel
theorem k_il : kitB "int" "list" = some false := by decide +kernel
theorem k_sl : kitB "str" "list" = some false := by decide +kernel
theorem k_ll : kitB "list" "list" = some true := by decide +kernel
theorem k_tl : kitB "tuple" "list" = some false := by decide +kernel
def isInt : D → Bool
  | .int _ => true
  | .bool _ => true
  | _ => false
def isLst : D → Bool
  | .list _ => true
  | _ => false
theorem isi_int {d : D} (h : d.canLay0 = true) : isiD "int" d = some (.bool (isInt d)) := by
  rw [d_isi]
  cases d with
  | none => rw [show tyN .none = "NoneType" from rfl, k_ni]; rfl
  | bool b => rw [show tyN (.bool b) = "bool" from rfl, k_bi]; rfl
  | int b => rw [show tyN (.int b) = "int" from rfl, k_ii]; rfl
  | str b => rw [show tyN (.str b) = "str" from rfl, k_si]; rfl
  | list b => rw [show tyN (.list b) = "list" from rfl, k_li]; rfl
  | tuple b => rw [show tyN (.tuple b) = "tuple" from rfl, k_ti]; rfl
  | dict b => simp only [PyData.canLay0] at h; cases h
theorem isi_list {d : D} (h : d.canLay0 = true) : isiD "list" d = some (.bool (isLst d)) := by
  rw [d_isi]
  cases d with
  | none => rw [show tyN .none = "NoneType" from rfl, k_nl]; rfl
  | bool b => rw [show tyN (.bool b) = "bool" from rfl, k_bl]; rfl
  | int b => rw [show tyN (.int b) = "int" from rfl, k_il]; rfl
  | str b => rw [show tyN (.str b) = "str" from rfl, k_sl]; rfl
  | list b => rw [show tyN (.list b) = "list" from rfl, k_ll]; rfl
  | tuple b => rw [show tyN (.tuple b) = "tuple" from rfl, k_tl]; rfl
  | dict b => simp only [PyData.canLay0] at h; cases h
theorem isi_bI (i : Int) : isiD "bool" (.int i) = some (.bool false) := by rw [d_isi, show tyN (.int i) = "int" from rfl, k_ib]; rfl
theorem isi_bB (i : Bool) : isiD "bool" (.bool i) = some (.bool true) := by rw [d_isi, show tyN (.bool i) = "bool" from rfl, k_bb]; rfl
def whlB : D → Bool
  | .int _ => true
  | _ => false
def figB (m : Int) : D → Bool
  | .int i => decide (-m ≤ i) && decide (i ≤ m)
  | _ => false
def entB (m : Int) (d : D) : Bool := isNone d || figB m d
def rowB (m : Int) (N : Nat) : D → Bool
  | .list xs => decide (xs.length = N) && xs.all (entB m)
  | _ => false
def tabB (m : Int) (M N : Nat) : D → Bool
  | .list xs => decide (xs.length = M) && xs.all (rowB m N)
  | _ => false
theorem e_is_whole {d : D} (h : d.canLay0 = true) : m_is_whole d = pu (.bool (whlB d)) := by
  unfold m_is_whole
  walk_at "ev"
  rw [isi_int h]
  walk_at "ev"
  cases d with
  | int i =>
    rw [show isInt (.int i) = true from rfl]
    walk_at "ev"
    rw [isi_bI]
    walk_at "ev"
    rfl
  | bool i =>
    rw [show isInt (.bool i) = true from rfl]
    walk_at "ev"
    rw [isi_bB]
    walk_at "ev"
    rfl
  | _ => rfl
theorem e_law_wholeD {d : D} (h : d.canLay0 = true) : m__law_whole d = pu (.bool (whlB d)) := by
  unfold m__law_whole
  walk_at "ev"
  rw [isi_int h]
  walk_at "ev"
  cases d with
  | int i =>
    rw [show isInt (.int i) = true from rfl]
    walk_at "ev"
    rw [isi_bI]
    walk_at "ev"
    rfl
  | bool i =>
    rw [show isInt (.bool i) = true from rfl]
    walk_at "ev"
    rw [isi_bB]
    walk_at "ev"
    rfl
  | _ => rfl
theorem e_is_figure {b m : Int} {d : D} (h : d.canLay0 = true) : m_is_figure (t2 b m) d = pu (.bool (figB m d)) := by
  unfold m_is_figure
  walk_at "ev"
  rw [e_is_whole h]
  walk_at "ev"
  cases d with
  | int i =>
    rw [show whlB (.int i) = true from rfl]
    walk_at "ev"
    show _ = pu (PyData.bool (decide (-m ≤ i) && decide (i ≤ m)))
    cases decide (-m ≤ i) <;> rfl
  | _ => rfl
theorem e_is_entry {b m : Int} {d : D} (h : d.canLay0 = true) : m_is_entry (t2 b m) d = pu (.bool (entB m d)) := by
  unfold m_is_entry entB
  walk_at "ev"
  rw [e_is_figure h]
  cases isNone d <;> rfl
theorem bools_map {f : D → Bool} : ∀ xs : List D, boolsD (xs.map fun x => .bool (f x)) = some (xs.map f)
  | [] => rfl
  | x :: xs => by
    have := bools_map (f := f) xs
    rw [List.map_cons, List.map_cons]
    simp only [boolsD, this]
    rfl
theorem d_all {f : D → Bool} (xs : List D) : allD [.list (xs.map fun x => .bool (f x))] = some (.bool (xs.all f)) := by
  show (boolsD _).map _ = _
  rw [bools_map]
  show some (PyData.bool ((xs.map f).all id)) = _
  rw [List.all_map]; rfl
/-- the sizes of a table -/
structure Lk (b m : Int) (t p : Nat) : Prop where
  kd : Kd b m
  t1 : 1 ≤ t
  t4 : t ≤ 4
  p3 : p ≤ 3
def halfI (b : Int) (p : Nat) : Int := b * 2 ^ p + 2
theorem Lk.hb {b m : Int} {t p : Nat} (h : Lk b m t p) : 4 ≤ halfI b p ∧ halfI b p ≤ 130 := by
  have kb := h.kd.bd
  have h3 := h.p3
  unfold halfI
  have hp : p = 0 ∨ p = 1 ∨ p = 2 ∨ p = 3 := by omega
  rcases hp with e | e | e | e <;> subst e <;> omega
theorem Lk.mb {b m : Int} {t p : Nat} (h : Lk b m t p) : 1 ≤ 2 ^ (t - 1) ∧ 2 ^ (t - 1) ≤ 8 := by
  have h1 := h.t1
  have h4 := h.t4
  have ht : t = 1 ∨ t = 2 ∨ t = 3 ∨ t = 4 := by omega
  rcases ht with e | e | e | e <;> subst e <;> decide
def NN (b : Int) (p : Nat) : Nat := (2 * halfI b p).toNat
def MM (t : Nat) : Nat := 2 ^ (t - 1)
theorem mm_cast (t : Nat) : ((MM t : Nat) : Int) = 2 ^ (t - 1) := by unfold MM; rw [Int.natCast_pow]; rfl
theorem e_half_of {b m : Int} {t : Int} {p : Nat} (hk : Kd b m) (hp : p ≤ 10) : m_half_of (t2 b m) (t2 t p) = pu (.int (halfI b p)) := by
  have i1 := hk.sb
  unfold m_half_of
  walk_at "run"
  rfl
theorem e_first_top {t : Nat} {p : Int} (h1 : 1 ≤ t) (h : t ≤ 100) : m_first_top (t2 t p) = pu (.int (MM t)) := by
  have e : (t : Int) - 1 = ((t - 1 : Nat) : Int) := by omega
  unfold m_first_top
  walk_at "ev"
  rw [e, d_shl (fit_sz (n := 1) (by omega)) (by omega), Int.one_mul, ← mm_cast]
  walk_at "ev"
theorem e_law_halfI {b m : Int} {t : Int} {p : Nat} (hk : Kd b m) (hp : p ≤ 10) : m__law_half (t2 b m) (t2 t p) = pu (.int (halfI b p)) := by
  have i1 := hk.sb
  unfold m__law_half halfI
  walk_at "ev"
  rw [d_lst (by show 11 ≤ sizeLine; decide)]
  walk_at "ev"
  have e : idxD (.list [PyData.int 1, .int 2, .int 4, .int 8, .int 16, .int 32, .int 64, .int 128, .int 256, .int 512, .int 1024]) (.int (p : Int)) = some (.int (2 ^ p)) := by
    have hp9 : p = 0 ∨ p = 1 ∨ p = 2 ∨ p = 3 ∨ p = 4 ∨ p = 5 ∨ p = 6 ∨ p = 7 ∨ p = 8 ∨ p = 9 ∨ p = 10 := by omega
    rcases hp9 with h | h | h | h | h | h | h | h | h | h | h <;> subst h <;> rfl
  rw [e]
  walk_at "run"
theorem lc_filter {μ : Type} {T : D → SM μ Bool} {E : D → SM μ D} {f : D → Bool} : ∀ (xs acc : List D), (∀ x ∈ xs, T x = pu (f x)) → (∀ x, E x = pu x) → acc.length + xs.length ≤ sizeLine → lcS T E xs acc = pu (acc ++ xs.filter f)
  | [], acc, _, _, _ => by rw [List.filter_nil, List.append_nil]; rfl
  | x :: xs, acc, hT, hE, h => by
    rw [List.length_cons] at h
    show bd (T x) _ = _
    rw [hT x (.head _), pu_bd, List.filter_cons]
    cases hf : f x with
    | true =>
      rw [if_pos rfl, if_pos rfl, hE x, pu_bd, if_pos (by omega), lc_filter xs _ (fun y hy => hT y (.tail _ hy)) hE (by rw [List.length_append, List.length_singleton]; omega), List.append_assoc]
      rfl
    | false =>
      rw [if_neg (by decide), if_neg (by decide)]
      exact lc_filter xs acc (fun y hy => hT y (.tail _ hy)) hE (by omega)
theorem for_all {μ ρ : Type} {g : D → Bool} {b : D → Unit → SM μ (Fl Unit Unit)} : ∀ {xs : List D}, (∀ x ∈ xs, b x () = if g x = true then pu (.nx ()) else pu (.rt (.bool false))) → (forS xs () b : SM μ (Fl Unit ρ)) = if xs.all g = true then pu (.nx ()) else pu (.rt (.bool false))
  | [], _ => rfl
  | x :: xs, h => by
    show bd (b x ()) _ = _
    rw [h x (.head _), List.all_cons]
    cases hg : g x with
    | true =>
      rw [if_pos rfl, pu_bd, Bool.true_and]
      exact for_all fun y hy => h y (.tail _ hy)
    | false => rfl
theorem fil_nil {f : D → Bool} (xs : List D) : (xs.filter f).isEmpty = xs.all (fun x => !f x) := by
  induction xs with
  | nil => rfl
  | cons x xs ih =>
    rw [List.filter_cons, List.all_cons]
    cases f x with
    | true => rfl
    | false => rw [if_neg (by decide), ih]; rfl
theorem b_not {b : Bool} : (!(!b)) = b := by cases b <;> rfl
theorem Lk.nb {b m : Int} {t p : Nat} (h : Lk b m t p) : ((NN b p : Nat) : Int) = 2 * halfI b p ∧ NN b p ≤ 260 := by
  have := h.hb
  unfold NN
  omega
theorem Lk.mb2 {b m : Int} {t p : Nat} (h : Lk b m t p) : 1 ≤ MM t ∧ MM t ≤ 8 := by
  have h1 := h.t1
  have h4 := h.t4
  unfold MM
  have ht : t = 1 ∨ t = 2 ∨ t = 3 ∨ t = 4 := by omega
  rcases ht with e | e | e | e <;> subst e <;> decide
theorem lenN {xs : List D} {n : Nat} {i : Int} (h : (n : Int) = i) : decide ((xs.length : Int) = i) = decide (xs.length = n) := decide_eq_decide.mpr (by omega)
theorem not_lst {d : D} (h : isLst d = false) {m : Int} {N : Nat} : rowB m N d = false := by
  cases d with
  | list xs => cases h
  | _ => rfl
theorem not_lst2 {d : D} (h : isLst d = false) {m : Int} {N M : Nat} : tabB m M N d = false := by
  cases d with
  | list xs => cases h
  | _ => rfl
theorem lst_of {d : D} (h : isLst d = true) : ∃ xs, d = .list xs := by
  cases d with
  | list xs => exact ⟨xs, rfl⟩
  | _ => cases h
theorem e_is_table_row {b m : Int} {t p : Nat} {d : D} (h : Lk b m t p) (hd : Lay 50 d) : m_is_table_row (t2 b m) (t2 t p) d = pu (.bool (rowB m (NN b p) d)) := by
  have hb := h.hb
  have hn := h.nb
  have p3 := h.p3
  have ih : Sz (halfI b p) 10 := ⟨by omega⟩
  unfold m_is_table_row
  walk_at "ev"
  rw [isi_list hd.1]
  walk_at "ev"
  cases hl : isLst d with
  | false => rw [not_lst hl]; walk_at "ev"
  | true =>
    obtain ⟨xs, rfl⟩ := lst_of hl
    have hxs := lay_of_list hd
    walk_at "ev"
    rw [e_half_of h.kd (by omega)]
    walk_at "ev"
    rw [d_mul (fit_sz (n := 2) (by omega)) (fit_sz (n := 10) (by omega))]
    walk_at "ev"
    rw [lenN hn.1]
    show _ = pu (PyData.bool (decide (xs.length = NN b p) && xs.all (entB m)))
    by_cases c : xs.length = NN b p
    · rw [decide_eq_true c]
      walk_at "ev"
      rw [r_lc, lc_map (g := fun x => .bool (entB m x)) _ _ (fun _ _ => rfl) (fun x hx => by rw [e_is_entry (hxs x hx).1]; rfl) (line_le (by rw [List.length_nil]; omega))]
      walk_at "ev"
      rw [List.nil_append, d_all]
      walk_at "ev"
      rw [Bool.true_and]
    · rw [decide_eq_false c]
      walk_at "ev"
      rw [Bool.false_and]
theorem e_are_looks {b m : Int} {t p : Nat} (h : Lk b m t p) : m_are_looks (t2 b m) (t2 t p) = pu (.bool true) := by
  have hb := h.hb
  have hm := h.mb2
  have t1 := h.t1
  have t4 := h.t4
  have p3 := h.p3
  have ih : Sz (halfI b p) 10 := ⟨by omega⟩
  have im : Sz ((MM t : Nat) : Int) 10 := ⟨by omega⟩
  unfold m_are_looks
  walk_at "ev"
  rw [decide_eq_true (show (1 : Int) ≤ t by omega)]
  walk_at "ev"
  rw [decide_eq_true (show (t : Int) ≤ 10 by omega)]
  walk_at "ev"
  rw [decide_eq_true (show (0 : Int) ≤ p by omega)]
  walk_at "ev"
  rw [decide_eq_true (show (p : Int) ≤ 10 by omega)]
  walk_at "ev"
  rw [e_first_top t1 (by omega), e_half_of h.kd (by omega)]
  walk_at "run"
  have : ((MM t : Nat) : Int) * 2 * halfI b p ≤ 16 * 130 := Int.mul_le_mul (by omega) (by omega) (by omega) (by omega)
  rw [decide_eq_true (by omega)]
theorem e_is_table {b m : Int} {t p : Nat} {d : D} (h : Lk b m t p) (hd : Lay 50 d) : m_is_table (t2 b m) (t2 t p) d = pu (.bool (tabB m (MM t) (NN b p) d)) := by
  have hb := h.hb
  have hm := h.mb2
  have t4 := h.t4
  unfold m_is_table
  walk_at "ev"
  rw [e_are_looks h]
  walk_at "ev"
  rw [isi_list hd.1]
  walk_at "ev"
  cases hl : isLst d with
  | false => rw [not_lst2 hl]; walk_at "ev"
  | true =>
    obtain ⟨xs, rfl⟩ := lst_of hl
    have hxs := lay_of_list hd
    walk_at "ev"
    rw [e_first_top h.t1 (by omega)]
    walk_at "ev"
    rw [lenN (n := MM t) rfl]
    show _ = pu (PyData.bool (decide (xs.length = MM t) && xs.all (rowB m (NN b p))))
    by_cases c : xs.length = MM t
    · rw [decide_eq_true c]
      walk_at "ev"
      rw [r_lc, lc_map (g := fun x => .bool (rowB m (NN b p) x)) _ _ (fun _ _ => rfl) (fun x hx => by rw [e_is_table_row h (hxs x hx)]; rfl) (line_le (by rw [List.length_nil]; omega))]
      walk_at "ev"
      rw [List.nil_append, d_all]
      walk_at "ev"
      rw [Bool.true_and]
    · rw [decide_eq_false c]
      walk_at "ev"
      rw [Bool.false_and]
theorem e_law_is_table {b m : Int} {t p : Nat} {d : D} (h : Lk b m t p) (hd : Lay 50 d) : m__law_is_table (t2 b m) (t2 t p) d = pu (.bool (tabB m (MM t) (NN b p) d)) := by
  have hb := h.hb
  have hn := h.nb
  have hm := h.mb2
  have t1 := h.t1
  have t4 := h.t4
  have p3 := h.p3
  have ih : Sz (halfI b p) 10 := ⟨by omega⟩
  have e : (t : Int) - 1 = ((t - 1 : Nat) : Int) := by omega
  unfold m__law_is_table
  walk_at "ev"
  rw [isi_list hd.1]
  walk_at "ev"
  cases hl : isLst d with
  | false => rw [not_lst2 hl]; walk_at "ev"
  | true =>
    obtain ⟨xs, rfl⟩ := lst_of hl
    have hxs := lay_of_list hd
    walk_at "ev"
    rw [e, d_shl (fit_sz (n := 1) (by omega)) (by omega), Int.one_mul, ← mm_cast]
    walk_at "ev"
    rw [lenN (n := MM t) rfl]
    show _ = pu (PyData.bool (decide (xs.length = MM t) && xs.all (rowB m (NN b p))))
    by_cases c : xs.length = MM t
    · rw [decide_eq_true c, Bool.true_and]
      walk_at "ev"
      rw [for_all (g := rowB m (NN b p))]
      · cases xs.all (rowB m (NN b p)) <;> rfl
      · intro x hx
        have hx2 := hxs x hx
        walk_at "ev"
        rw [isi_list hx2.1]
        walk_at "ev"
        cases hl : isLst x with
        | false => rw [not_lst hl]; walk_at "ev"
        | true =>
          obtain ⟨ys, rfl⟩ := lst_of hl
          have hys := lay_of_list hx2
          walk_at "ev"
          rw [e_law_halfI h.kd (by omega)]
          walk_at "ev"
          rw [d_mul (fit_sz (n := 2) (by omega)) (fit_sz (n := 10) (by omega))]
          walk_at "ev"
          rw [lenN hn.1]
          show _ = if (decide (ys.length = NN b p) && ys.all (entB m)) = true then _ else _
          by_cases c : ys.length = NN b p
          · rw [decide_eq_true c, Bool.true_and]
            walk_at "ev"
            rw [r_lc, lc_filter (f := fun x => !isNone x && !whlB x) _ _ (fun x hx => ?_) (fun _ => rfl) (line_le (by rw [List.length_nil]; omega))]
            · walk_at "ev"
              rw [List.nil_append, d_ne0 (n := 50) (fun x hx => hys x (List.mem_filter.mp hx).1) (by omega), fil_nil]
              walk_at "ev"
              cases h1 : ys.all fun x => !(!isNone x && !whlB x) with
              | false =>
                have h2 : ys.all (entB m) = false := by
                  rw [Bool.eq_false_iff]
                  intro z
                  rw [List.all_eq_true] at z
                  have : (ys.all fun x => !(!isNone x && !whlB x)) = true := by
                    rw [List.all_eq_true]
                    intro x hx
                    have := z x hx
                    cases x <;> first | rfl | cases this
                  rw [this] at h1
                  cases h1
                rw [h2]
                walk_at "ev"
              | true =>
                walk_at "ev"
                have h1' := List.all_eq_true.mp h1
                rw [r_lc, lc_filter (f := fun x => !entB m x) _ _ (fun x hx => ?_) (fun _ => rfl) (line_le (by rw [List.length_nil]; omega))]
                · walk_at "ev"
                  rw [List.nil_append, d_ne0 (n := 50) (fun x hx => hys x (List.mem_filter.mp hx).1) (by omega), fil_nil]
                  walk_at "ev"
                  have e2 : (ys.all fun x => !(!entB m x)) = ys.all (entB m) := by
                    congr 1
                    funext x
                    exact b_not
                  rw [e2]
                  cases ys.all (entB m) <;> rfl
                · have h3 := h1' x hx
                  cases x with
                  | none => rfl
                  | int i =>
                    walk_at "ev"
                    show _ = pu (!(decide (-m ≤ i) && decide (i ≤ m)))
                    rw [show 0 - m = -m by omega]
                    cases decide (-m ≤ i) <;> rfl
                  | _ => cases h3
            · rw [e_law_wholeD (hys x hx).1]
              walk_at "ev"
              cases isNone x <;> rfl
          · rw [decide_eq_false c, Bool.false_and]
            walk_at "ev"
    · rw [decide_eq_false c, Bool.false_and]
      walk_at "ev"
/-! ### things of any kind, drawn -/
theorem lc_bd {μ α : Type} (x : SM μ α) (f : α → SM μ (List D)) (T : D → SM μ Bool) (E : D → SM μ D) : SM.lc (bd x f) T E = bd x fun a => SM.lc (f a) T E := bd_assoc _ _ _
theorem ok_lcS {μ : Type} {T : D → SM μ Bool} {E : D → SM μ D} {I : List D → μ → Prop} {n : Nat} : ∀ (xs acc : List D) (m : μ), (∀ x ∈ xs, T x = pu true) → (∀ x ∈ xs, ∀ acc m, acc.length < n → I acc m → Ok (E x) m fun y m' => I (acc ++ [y]) m') → acc.length + xs.length ≤ n → n ≤ 1000000 → I acc m → Ok (lcS T E xs acc) m fun ys m' => ys.length = acc.length + xs.length ∧ I ys m'
  | [], acc, m, _, _, _, _, h => ⟨acc, m, rfl, rfl, h⟩
  | x :: xs, acc, m, hT, hE, hl, hn, h => by
    rw [List.length_cons] at hl
    show Ok (bd (T x) _) m _
    rw [hT x (.head _), pu_bd, if_pos rfl]
    refine ok_bd ((hE x (.head _) acc m (by omega) h).mono fun y m1 h1 => ?_)
    rw [if_pos (Nat.lt_of_le_of_lt (show acc.length ≤ 1000000 by omega) (by decide))]
    refine (ok_lcS xs (acc ++ [y]) m1 (fun z hz => hT z (.tail _ hz)) (fun z hz => hE z (.tail _ hz)) (by rw [List.length_append, List.length_singleton]; omega) hn h1).mono fun ys m2 h2 => ⟨?_, h2.2⟩
    rw [h2.1, List.length_append, List.length_singleton, List.length_cons]; omega
theorem ok_lc {μ : Type} {T : D → SM μ Bool} {E : D → SM μ D} {I : List D → μ → Prop} {xs : List D} {m : μ} {P : D → μ → Prop} (hT : ∀ x ∈ xs, T x = pu true) (hn : xs.length ≤ 1000000) (h0 : I [] m) (hE : ∀ x ∈ xs, ∀ acc m, acc.length < xs.length → I acc m → Ok (E x) m fun y m' => I (acc ++ [y]) m')
    (hP : ∀ ys m', ys.length = xs.length → I ys m' → P (.list ys) m') : Ok (SM.lc (pu xs) T E) m P := by
  show Ok (bd (lcS T E xs []) fun ys => pu (.list ys)) m P
  refine ok_bd ((ok_lcS (n := xs.length) xs [] m hT hE (by rw [List.length_nil]; omega) hn h0).mono fun ys m1 h => ok_pu (hP ys m1 ?_ h.2))
  rw [h.1, List.length_nil]; omega
def cn : Nat → Nat
  | 0 => 10
  | n + 1 => 10 + 4 * cn n
theorem cn_ge (n : Nat) : 10 ≤ cn n := by cases n <;> simp [cn]
theorem p13 : powD (.int 10) (.int 13) = some (.int 10000000000000) := by
  have := d_pow (a := 10) (k := 13) (by decide) (by decide)
  exact this
theorem p59 : powD (.int 10) (.int 59) = some (.int (10 ^ 59)) := d_pow (a := 10) (k := 59) (by decide) (by decide)
theorem ok_thing_r : ∀ (k fu : Nat) (d : D) (n : Nat), k < fu → Dk d n → n + cn k ≤ 900000000 → Ok (m__law_thing_r fu (.int k)) d fun x d' => Lay (k + 1) x ∧ Dk d' (n + cn k)
  | k, 0, d, n, h, _, _ => by omega
  | k, fu + 1, d, n, hk, hd, hn => by
    have c10 := cn_ge k
    have i13 : Sz (10000000000000 : Int) 50 := ⟨by decide⟩
    unfold m__law_thing_r
    refine ok_fin ?_
    walk_at "fj"
    walk_at "pk"
    rintro _ d1 ⟨v1, rfl, v10, v11, hd1⟩
    walk_at "fj"
    walk_at "pk"
    rintro _ d2 ⟨v2, rfl, v20, v21, hd2⟩
    walk_at "fj"
    rw [p13]
    walk_at "fj"
    walk_at "pk"
    rintro _ d3 ⟨v3, rfl, v30, v31, hd3⟩
    walk_at "fj"
    rw [c12]
    walk_at "fj"
    rw [p59]
    walk_at "fj"
    walk_at "pk"
    rintro _ d4 ⟨v4, rfl, v40, v41, hd4⟩
    obtain ⟨y, my, ey⟩ := ix_some (xs := [PyData.int (v2 - 1), .int (v3 - 1000000000000), .int (0 - 10 ^ 59)]) v40 (by show v4 < 3; omega)
    rw [ey]
    have hy : Lay 0 y := by
      simp only [List.mem_cons, List.not_mem_nil, or_false] at my
      rcases my with e | e | e <;> (rw [e]; exact lay_int _)
    walk_at "fj"
    by_cases c1 : v1 < 4
    · rw [decide_eq_true c1]
      walk_at "fj"
      exact ok_pu ⟨_, .inl rfl, hy.le (by omega), hd4.le (by omega)⟩
    rw [decide_eq_false c1]
    walk_at "fj"
    by_cases c2 : v1 < 7
    · rw [decide_eq_true c2]
      walk_at "fj"
      obtain ⟨z, mz, ez⟩ := ix_some (xs := [PyData.bool true, .bool false, .none]) (v := v1 - 4) (by omega) (by show v1 - 4 < 3; omega)
      rw [ez]
      walk_at "fj"
      refine ok_pu ⟨_, .inl rfl, ?_, hd4.le (by omega)⟩
      simp only [List.mem_cons, List.not_mem_nil, or_false] at mz
      rcases mz with e | e | e
      · rw [e]; exact lay_bool _
      · rw [e]; exact lay_bool _
      · rw [e]; exact lay_none
    rw [decide_eq_false c2]
    walk_at "fj"
    by_cases c3 : v1 < 9
    · rw [decide_eq_true c3]
      walk_at "fj"
      walk_at "pk"
      rintro _ d5 ⟨v5, rfl, v50, v51, hd5⟩
      obtain ⟨z, mz, ez⟩ := ix_some (xs := [PyData.str "", .str "4", .str "none", .str "(4, 2)", .str "-1", .str "."]) v50 (by show v5 < 6; omega)
      rw [ez]
      walk_at "fj"
      refine ok_pu ⟨_, .inl rfl, ?_, hd5.le (by omega)⟩
      simp only [List.mem_cons, List.not_mem_nil, or_false] at mz
      rcases mz with e | e | e | e | e | e <;> (rw [e]; exact lay_str (by simp only [PyData.canLay0]; decide +kernel))
    rw [decide_eq_false c3]
    walk_at "fj"
    simp only [lc_bd, r_as]
    walk_at "pk"
    rintro _ d6 ⟨v6, rfl, v60, v61, hd6⟩
    have i6 : Sz v6 3 := ⟨by omega⟩
    walk_at "fj"
    -- how many
    have hmany : ∃ w : Nat, v6 * (if decide (0 < (k : Int)) = true then 1 else 0) = (w : Int) ∧ w ≤ 3 ∧ (k = 0 → w = 0) := by
      by_cases z : k = 0
      · subst z
        exact ⟨0, by simp, by omega, fun _ => rfl⟩
      · refine ⟨v6.toNat, ?_, by omega, fun y => absurd y z⟩
        rw [decide_eq_true (show 0 < (k : Int) by omega), if_pos rfl]
        omega
    obtain ⟨w, ew, hw, hw0⟩ := hmany
    rw [d_mul (fit_sz (n := 3) (by omega)) (fit_sz (n := 2) (by omega))]
    walk_at "fj"
    rw [ew, d_rng1 (by omega) (by omega)]
    walk_at "fj"
    have hlen : (rgL 0 (w : Int)).length = w := by rw [rgL_len]; omega
    refine ok_bd (ok_lc (I := fun acc d' => (∀ x ∈ acc, Lay k x) ∧ Dk d' (n + 6 + acc.length * cn (k - 1))) (fun _ _ => rfl) (by omega) ⟨(fun x hx => by cases hx), hd6.le (by omega)⟩ ?_ ?_)
    · intro x _ acc d7 hl ⟨h1, h2⟩
      rw [hlen] at hl
      have hk0 : k ≠ 0 := fun z => by have := hw0 z; omega
      obtain ⟨k', rfl⟩ : ∃ k', k = k' + 1 := ⟨k - 1, by omega⟩
      have ek : ((k' + 1 : Nat) : Int) - 1 = (k' : Int) := by omega
      have hcn : cn (k' + 1) = 10 + 4 * cn k' := rfl
      have hm := Nat.mul_le_mul_right (cn k') (show acc.length ≤ 2 by omega)
      rw [Nat.add_sub_cancel] at h2 ⊢
      rw [ek]
      refine ok_qx ((ok_thing_r k' fu d7 _ (by omega) h2 (by omega)).mono fun y d8 hy => ⟨fun z hz => ?_, ?_⟩)
      · rcases List.mem_append.mp hz with e | e
        · exact h1 z e
        · rw [List.mem_singleton.mp e]; exact hy.1
      · refine hy.2.le ?_
        rw [List.length_append, List.length_singleton, Nat.add_mul, Nat.one_mul]; omega
    · intro ys d9 hl ⟨h1, h2⟩
      rw [hlen] at hl
      have hb9 : Dk d9 (n + cn k) := by
        refine h2.le ?_
        cases k with
        | zero => rw [hl, hw0 rfl]; simp [cn]
        | succ k' =>
          have hm := Nat.mul_le_mul_right (cn k') (show ys.length ≤ 3 by omega)
          have hcn : cn (k' + 1) = 10 + 4 * cn k' := rfl
          rw [Nat.add_sub_cancel]; omega
      walk_at "fj"
      by_cases c9 : v1 = 9
      · rw [decide_eq_true c9]
        walk_at "fj"
        exact ok_pu ⟨_, .inl rfl, lay_list h1, hb9⟩
      · rw [decide_eq_false c9]
        walk_at "fj"
        exact ok_pu ⟨_, .inl rfl, lay_tup h1, hb9⟩
/-! ### tables bent -/
theorem ixN_nat {n v : Nat} (h : v < n) : ixN n (v : Int) = some v := by
  unfold ixN
  rw [if_pos (by omega), if_pos (by omega), Int.toNat_natCast]
theorem idx_nat {rows : List D} {v : Nat} {y : D} (h : rows[v]? = some y) : idxD (.list rows) (.int (v : Int)) = some y := atI_nat h
theorem set_nat {rows : List D} {v : Nat} {y : D} (h : v < rows.length) : setD (.list rows) (.int (v : Int)) y = some (.list (rows.set v y)) := by
  show (match ixN rows.length (v : Int) with | some j => some (PyData.list (rows.set j y)) | none => none) = _
  rw [ixN_nat h]
theorem set2_nat {rows r : List D} {v w : Nat} {z : D} (h : rows[v]? = some (.list r)) (hw : w < r.length) : set2D (.list rows) (.int (v : Int)) (.int (w : Int)) z = some (.list (rows.set v (.list (r.set w z)))) := by
  have hv : v < rows.length := (List.getElem?_eq_some_iff.mp h).1
  unfold set2D
  rw [idx_nat h]
  show (match setD (.list r) (.int (w : Int)) z with | some r' => setD (.list rows) (.int (v : Int)) r' | none => none) = _
  rw [set_nat hw]
  exact set_nat hv
theorem mem_cut {xs : List D} {lo hi : Option Int} {x : D} (h : x ∈ cutD xs lo hi) : x ∈ xs := by
  unfold cutD at h
  exact List.mem_of_mem_drop (List.mem_of_mem_take h)
theorem len_cut (xs : List D) (lo hi : Option Int) : (cutD xs lo hi).length ≤ xs.length := by
  unfold cutD
  rw [List.length_take, List.length_drop]; omega
theorem d_sliL (xs : List D) (lo hi : Option Int) : sliD (.list xs) lo hi = some (.list (cutD xs lo hi)) := rfl
theorem mem_set {xs : List D} {i : Nat} {y x : D} (h : x ∈ xs.set i y) : x ∈ xs ∨ x = y := List.mem_or_eq_of_mem_set h
/-- rows of a table -/
structure Rw (rows : List D) (N : Nat) : Prop where
  n1 : 1 ≤ N
  n2 : N ≤ 260
  m1 : 1 ≤ rows.length
  m2 : rows.length ≤ 8
  rw : ∀ y ∈ rows, ∃ r : List D, y = .list r ∧ r.length = N ∧ ∀ x ∈ r, Lay 0 x
theorem Rw.lay {rows : List D} {N : Nat} (h : Rw rows N) : ∀ y ∈ rows, Lay 1 y := fun y hy => by
  obtain ⟨r, rfl, _, hr⟩ := h.rw y hy
  exact lay_list hr
theorem ok_thing2 {d : D} {n : Nat} (hd : Dk d n) (hn : n ≤ 800000000) : Ok (m__law_thing (.int 2)) d fun x d' => Lay 3 x ∧ Dk d' (n + 210) := ok_thing_r 2 6 d n (by omega) hd (by show n + 210 ≤ _; omega)
theorem ok_thing3 {d : D} {n : Nat} (hd : Dk d n) (hn : n ≤ 800000000) : Ok (m__law_thing (.int 3)) d fun x d' => Lay 4 x ∧ Dk d' (n + 850) := ok_thing_r 3 6 d n (by omega) hd (by show n + 850 ≤ _; omega)
theorem ok_bent {d : D} {n : Nat} {b m : Int} {rows : List D} {N : Nat} (hR : Rw rows N) (hd : Dk d n) (hn : n ≤ 700000000) : Ok (m__law_bent (t2 b m) (.list rows)) d fun x _ => Lay 20 x := by
  have m1 := hR.m1
  have m2 := hR.m2
  have n1 := hR.n1
  have n2 := hR.n2
  have iM : Sz ((rows.length : Nat) : Int) 10 := ⟨by omega⟩
  have iN : Sz ((N : Nat) : Int) 10 := ⟨by omega⟩
  have hlay := hR.lay
  unfold m__law_bent
  refine ok_fin ?_
  walk_at "fj"
  rw [r_lc, lc_map (g := fun x => x) _ _ (fun _ _ => rfl) (fun x hx => by obtain ⟨r, rfl, _⟩ := hR.rw x hx; rfl) (line_le (by rw [List.length_nil]; omega)), List.nil_append, List.map_id']
  walk_at "fj"
  walk_at "pk"
  rintro _ d1 ⟨v1, rfl, v10, v11, hd1⟩
  obtain ⟨v, rfl⟩ := Int.eq_ofNat_of_zero_le v10
  have hv : v < rows.length := by omega
  have hrow : rows[v]? = some rows[v] := List.getElem?_eq_getElem hv
  obtain ⟨r, er, hrN, hrL⟩ := hR.rw _ (List.getElem_mem hv)
  rw [er] at hrow
  walk_at "fj"
  rw [idx_nat hrow]
  walk_at "fj"
  rw [hrN]
  walk_at "pk"
  rintro _ d2 ⟨v2, rfl, v20, v21, hd2⟩
  obtain ⟨w, rfl⟩ := Int.eq_ofNat_of_zero_le v20
  have hw : w < r.length := by omega
  walk_at "fj"
  refine ok_bd (ok_qx ((ok_thing2 hd2 (by omega)).mono ?_))
  rintro th d3 ⟨hth, hd3⟩
  walk_at "fj"
  rw [d_lst (by show 9 ≤ sizeLine; decide)]
  walk_at "fj"
  walk_at "pk"
  rintro _ d4 ⟨v4, rfl, v40, v41, hd4⟩
  walk_at "fj"
  by_cases c1 : v4 < 9
  · rw [decide_eq_true c1]
    walk_at "fj"
    obtain ⟨z, mz, ez⟩ := ix_some (xs := [PyData.int (m + 1), .int (0 - m - 1), .bool true, .bool false, .str "0", .list [.int 0], th, .int m, .none]) (v := v4) (by omega) (by show v4 < 9; omega)
    rw [ez]
    walk_at "fj"
    rw [set2_nat hrow hw]
    walk_at "fj"
    have hz : Lay 3 z := by
      simp only [List.mem_cons, List.not_mem_nil, or_false] at mz
      rcases mz with e | e | e | e | e | e | e | e | e
      · rw [e]; exact lay_int _
      · rw [e]; exact lay_int _
      · rw [e]; exact lay_bool _
      · rw [e]; exact lay_bool _
      · rw [e]; exact lay_str (by simp only [PyData.canLay0]; decide +kernel)
      · rw [e]; exact (lay_list (n := 0) fun x hx => by rw [List.mem_singleton.mp hx]; exact lay_int _).le (by omega)
      · rw [e]; exact hth
      · rw [e]; exact lay_int _
      · rw [e]; exact lay_none
    refine ok_pu ⟨_, .inl rfl, Lay.le (n := 5) (lay_list fun x hx => ?_) (by omega)⟩
    rcases mem_set hx with e | e
    · exact (hlay x e).le (by omega)
    · rw [e]
      refine lay_list fun y hy => ?_
      rcases mem_set hy with e | e
      · exact (hrL y e).le (by omega)
      · rw [e]; exact hz
  rw [decide_eq_false c1]
  walk_at "fj"
  by_cases c2 : v4 < 11
  · rw [decide_eq_true c2]
    walk_at "fj"
    rw [d_sliL, d_sliL]
    walk_at "fj"
    have l1 := len_cut r none (some (w : Int))
    have l2 := len_cut r (some ((w : Int) + 1)) none
    rw [d_cat (line_le (by omega))]
    walk_at "fj"
    rw [d_cat (line_le (by show r.length + 1 ≤ _; omega))]
    walk_at "fj"
    obtain ⟨z, mz, ez⟩ := ix_some (xs := [PyData.list (cutD r none (some (w : Int)) ++ cutD r (some ((w : Int) + 1)) none), .list (r ++ [.int 0])]) (v := v4 - 9) (by omega) (by show v4 - 9 < 2; omega)
    rw [ez]
    walk_at "fj"
    rw [set_nat hv]
    walk_at "fj"
    have hz : Lay 1 z := by
      simp only [List.mem_cons, List.not_mem_nil, or_false] at mz
      rcases mz with e | e
      · rw [e]
        refine lay_list fun x hx => ?_
        rcases List.mem_append.mp hx with q | q
        · exact hrL x (mem_cut q)
        · exact hrL x (mem_cut q)
      · rw [e]
        refine lay_list fun x hx => ?_
        rcases List.mem_append.mp hx with q | q
        · exact hrL x q
        · rw [List.mem_singleton.mp q]; exact lay_int _
    refine ok_pu ⟨_, .inl rfl, Lay.le (n := 2) (lay_list fun x hx => ?_) (by omega)⟩
    rcases mem_set hx with e | e
    · exact hlay x e
    · rw [e]; exact hz
  rw [decide_eq_false c2]
  walk_at "fj"
  by_cases c3 : v4 = 11
  · rw [decide_eq_true c3]
    walk_at "fj"
    rw [d_sliL, d_sliL]
    walk_at "fj"
    have l1 := len_cut rows none (some (v : Int))
    have l2 := len_cut rows (some ((v : Int) + 1)) none
    rw [d_cat (line_le (by omega))]
    walk_at "fj"
    obtain ⟨y0, my0, ey0⟩ := ix_some (xs := rows) (v := 0) (by omega) (by omega)
    obtain ⟨r0, rfl, hr0, hl0⟩ := hR.rw y0 my0
    rw [ey0]
    walk_at "fj"
    rw [d_cat (line_le (by show rows.length + 1 ≤ _; omega))]
    walk_at "fj"
    walk_at "pk"
    rintro _ d5 ⟨v5, rfl, v50, v51, hd5⟩
    obtain ⟨z, mz, ez⟩ := ix_some (xs := [PyData.list (cutD rows none (some (v : Int)) ++ cutD rows (some ((v : Int) + 1)) none), .list (rows ++ [.list r0])]) v50 (by show v5 < 2; omega)
    rw [ez]
    walk_at "fj"
    refine ok_pu ⟨_, .inl rfl, Lay.le (n := 2) ?_ (by omega)⟩
    simp only [List.mem_cons, List.not_mem_nil, or_false] at mz
    rcases mz with e | e
    · rw [e]
      refine lay_list fun x hx => ?_
      rcases List.mem_append.mp hx with q | q
      · exact hlay x (mem_cut q)
      · exact hlay x (mem_cut q)
    · rw [e]
      refine lay_list fun x hx => ?_
      rcases List.mem_append.mp hx with q | q
      · exact hlay x q
      · rw [List.mem_singleton.mp q]; exact lay_list hl0
  rw [decide_eq_false c3]
  walk_at "fj"
  by_cases c4 : v4 = 12
  · rw [decide_eq_true c4]
    walk_at "fj"
    rw [set_nat hv]
    walk_at "fj"
    refine ok_pu ⟨_, .inl rfl, Lay.le (n := 2) (lay_list fun x hx => ?_) (by omega)⟩
    rcases mem_set hx with e | e
    · exact hlay x e
    · rw [e]; exact lay_tup hrL
  rw [decide_eq_false c4]
  walk_at "fj"
  refine ok_bd (ok_qx ((ok_thing3 hd4 (by omega)).mono ?_))
  rintro th2 d5 ⟨hth2, hd5⟩
  walk_at "fj"
  walk_at "pk"
  rintro _ d6 ⟨v6, rfl, v60, v61, hd6⟩
  obtain ⟨z, mz, ez⟩ := ix_some (xs := [PyData.tuple rows, th2]) v60 (by show v6 < 2; omega)
  rw [ez]
  walk_at "fj"
  refine ok_pu ⟨_, .inl rfl, ?_⟩
  simp only [List.mem_cons, List.not_mem_nil, or_false] at mz
  rcases mz with e | e
  · rw [e]; exact (lay_tup hlay).le (by omega)
  · rw [e]; exact hth2.le (by omega)
/-! ### k09 -/
theorem d_app9 {ds : List D} {x : D} (h : ds.length ≤ 1000000) : appD (.list ds) x = some (.list (ds ++ [x])) := if_pos (Nat.lt_of_le_of_lt h (by decide))
theorem ok_wth {μ α : Type} {d : D} {x : SM D α} {m : μ} {P : α → μ → Prop} (h : Ok x d fun a _ => P a m) : Ok (wth d x : SM μ α) m P := by
  obtain ⟨a, d', e, p⟩ := h
  exact ⟨a, m, wth_ok e, p⟩
theorem ok_ofS {μ α β : Type} {a : α} {f : α → SM μ β} {m : μ} {P : β → μ → Prop} (h : Ok (f a) m P) : Ok (bd (of (some a)) f) m P := ok_bd ⟨_, _, rfl, h⟩
theorem e_entry {b m : Int} {t p : Nat} {rows r : List D} {a j : Nat} {l : Int} {x : D} (h : Lk b m t p) (h1 : rows[a]? = some (.list r)) (h2 : r[j]? = some x) (hl : l + halfI b p = (j : Int)) : m_entry (t2 b m) (t2 t p) (.list rows) (t2 ((MM t : Nat) + (a : Int)) l) = pu x := by
  have t4 := h.t4
  have p3 := h.p3
  have e : ((MM t : Nat) : Int) + (a : Int) - ((MM t : Nat) : Int) = (a : Int) := by omega
  unfold m_entry
  walk_at "ev"
  rw [e_first_top h.t1 (by omega)]
  walk_at "ev"
  rw [e, idx_nat h1]
  walk_at "ev"
  rw [e_half_of h.kd (by omega)]
  walk_at "ev"
  rw [hl, idx_nat h2]
  walk_at "ev"
theorem shl_mm {t : Nat} (h : t ≤ 4) : shlD (.int 1) (.int ((t - 1 : Nat) : Int)) = some (.int ((MM t : Nat) : Int)) := by
  rw [d_shl (fit_sz (n := 1) (by omega)) (by omega), Int.one_mul, mm_cast]
theorem rng_mm {t : Nat} (h : MM t ≤ 8) : rngD [.int ((MM t : Nat) : Int)] = some (rgL 0 ((MM t : Nat) : Int)) := by
  generalize MM t = M at *
  exact d_rng1 (by omega) (by omega)
theorem rng_nn {b : Int} {p : Nat} (h : NN b p ≤ 260) : rngD [.int ((NN b p : Nat) : Int)] = some (rgL 0 ((NN b p : Nat) : Int)) := by
  generalize NN b p = M at *
  exact d_rng1 (by omega) (by omega)
structure RowP (m : Int) (N : Nat) (y : D) : Prop where
  ex : ∃ r : List D, y = .list r ∧ r.length = N ∧ ∀ x ∈ r, entB m x = true ∧ Lay 0 x
theorem law_true : ∀ ns : List Int, ns.length ≤ 63 → (∀ z ∈ ns, Builtin.Int.intBits z ≤ 1048576) → ∃ m', m_law (scrD (ns.map .int)) .none = .ok (.bool true) m' := fun ns hn _ => by
  have key : Ok (m_law (scrD (ns.map .int))) .none fun x _ => x = .bool true := by
    unfold m_law
    refine ok_fin ?_
    walk_at "fj"
    rw [d_catS (by rw [List.length_map]; exact line_le (by show ns.length + 1 ≤ _; omega))]
    walk_at "fj"
    obtain ⟨z, hz⟩ : ∃ z : Int, idxD (.list (ns.map PyData.int ++ [.int 0])) (.int 0) = some (.int z) := by
      cases ns with
      | nil => exact ⟨0, d_ixl0 _ _⟩
      | cons y ys => exact ⟨y, d_ixl0 _ _⟩
    rw [hz]
    walk_at "fj"
    obtain ⟨dk, e, hd⟩ := ok_deck (c := z) (t := 0) (n := 0) (by omega) (by omega)
    rw [e]
    walk_at "fj"
    refine ok_bd ⟨_, _, rfl, ?_⟩
    refine ok_bd (ok_qx ((ok_kind hd (by omega)).mono ?_))
    rintro _ d1 ⟨b, m, rfl, hk, hd1⟩
    walk_at "fj"
    walk_at "pk"
    rintro _ d2 ⟨v2, rfl, v20, v21, hd2⟩
    walk_at "fj"
    walk_at "pk"
    rintro _ d3 ⟨v3, rfl, v30, v31, hd3⟩
    obtain ⟨q2, rfl⟩ := Int.eq_ofNat_of_zero_le v20
    obtain ⟨p, rfl⟩ := Int.eq_ofNat_of_zero_le v30
    obtain ⟨t, et⟩ : ∃ t : Nat, t = 1 + q2 := ⟨_, rfl⟩
    have et1 : (1 : Int) + (q2 : Int) = (t : Int) := by omega
    have et2 : (t : Int) - 1 = ((t - 1 : Nat) : Int) := by omega
    have kb := Kd.bd hk
    have i2 := Kd.sm hk
    have lk : Lk b m t p := ⟨hk, by omega, by omega, by omega⟩
    have hb := lk.hb
    have hN := lk.nb
    have hM := lk.mb2
    have ih : Sz (halfI b p) 10 := ⟨by omega⟩
    walk_at "fj"
    rw [et1, e_law_halfI hk (by omega)]
    walk_at "fj"
    rw [et2, shl_mm lk.t4]
    refine ok_sq (ok_ofS ?_)
    rw [rng_mm hM.2]
    refine ok_ofS ?_
    have hl1 : (rgL 0 ((MM t : Nat) : Int)).length = MM t := by rw [rgL_len]; omega
    have hl2 : (rgL 0 ((NN b p : Nat) : Int)).length = NN b p := by rw [rgL_len]; omega
    have i5 : Sz (2 * m + 2) 64 := ⟨by omega⟩
    refine ((ok_for (fun i (s : D) d' => ∃ rows, s = .list rows ∧ rows.length = i ∧ (∀ y ∈ rows, RowP m (NN b p) y) ∧ Dk d' (10 + i * 300)) ⟨[], rfl, rfl, (fun y hy => by cases hy), hd3.le (by omega)⟩ ?_).mono ?_)
    · as_aux_lemma =>
        rintro i x _ d4 hx ⟨rows, rfl, hri, hrp, hd4⟩
        have hi : i < MM t := by rw [← hl1]; exact (List.getElem?_eq_some_iff.mp hx).1
        walk_at "fj"
        rw [d_mul (fit_sz (n := 2) (by omega)) (fit_sz (n := 10) (by omega)), d_mul (fit_sz (n := 2) (by omega)) (fit_sz (n := 5) (by omega)), ← hN.1]
        rw [r_of, r_bd, rng_nn hN.2, r_of]
        refine ok_bd (ok_lc (I := fun acc d' => (∀ x ∈ acc, ∃ i : Int, x = .int i ∧ -m ≤ i ∧ i ≤ m + 1) ∧ Dk d' (10 + i * 300 + acc.length)) (fun _ _ => rfl) (by omega) ⟨(fun x hx => by cases hx), hd4.le (by omega)⟩ ?_ ?_)
        · as_aux_lemma =>
            intro x _ acc d5 hl ⟨h1, h2⟩
            rw [hl2] at hl
            walk_at "fj"
            refine ok_bd (ok_qx ((ok_pick h2 (by omega) (by omega) (log_sz (by omega) (by omega))).mono ?_))
            rintro _ d6 ⟨v6, rfl, v60, v61, hd6⟩
            walk_at "fj"
            refine ok_pu ⟨fun y hy => ?_, by rw [List.length_append, List.length_singleton]; exact hd6⟩
            rcases List.mem_append.mp hy with q | q
            · exact h1 y q
            · exact ⟨_, List.mem_singleton.mp q, by omega, by omega⟩
        · as_aux_lemma =>
            intro ys d7 hl ⟨h1, h2⟩
            rw [hl2] at hl
            walk_at "fj"
            rw [r_lc, lc_map (g := fun x => match x with | .int i => if m < i then .none else .int i | x => x) _ _ (fun _ _ => rfl) (fun x hx => ?_) (line_le (by rw [List.length_nil]; omega)), List.nil_append]
            · walk_at "fj"
              rw [d_app9 (by omega)]
              walk_at "fj"
              refine ok_pu ⟨_, .inl rfl, _, rfl, by rw [List.length_append, List.length_singleton, hri], fun y hy => ?_, h2.le (by rw [Nat.add_mul]; omega)⟩
              rcases List.mem_append.mp hy with q | q
              · exact hrp y q
              · rw [List.mem_singleton.mp q]
                refine ⟨_, rfl, by rw [List.length_map]; exact hl, fun x hx => ?_⟩
                obtain ⟨x0, hx0, rfl⟩ := List.mem_map.mp hx
                obtain ⟨i0, rfl, b1, b2⟩ := h1 x0 hx0
                show entB m (if m < i0 then .none else .int i0) = true ∧ Lay 0 (if m < i0 then .none else .int i0)
                by_cases c : m < i0
                · rw [if_pos c]; exact ⟨rfl, lay_none⟩
                · rw [if_neg c]
                  refine ⟨?_, lay_int _⟩
                  show (false || (decide (-m ≤ i0) && decide (i0 ≤ m))) = true
                  rw [decide_eq_true b1, decide_eq_true (show i0 ≤ m by omega)]; rfl
            · obtain ⟨i0, rfl, b1, b2⟩ := h1 x hx
              walk_at "ev"
              show _ = pu (if m < i0 then PyData.none else .int i0)
              by_cases c : m < i0
              · rw [decide_eq_true c, if_pos c]; rfl
              · rw [decide_eq_false c, if_neg c]; rfl
    · as_aux_lemma =>
        rintro _ d8 ⟨_, rfl, rows, rfl, hri, hrp, hd8⟩
        rw [hl1] at hri hd8
        refine ⟨_, rfl, ?_⟩
        have hR : Rw rows (NN b p) := ⟨by omega, by omega, by omega, by omega, fun y hy => by
          obtain ⟨r, h1, h2, h3⟩ := (hrp y hy).ex
          exact ⟨r, h1, h2, fun x hx => (h3 x hx).2⟩⟩
        have htab : tabB m (MM t) (NN b p) (.list rows) = true := by
          show (decide (rows.length = MM t) && rows.all (rowB m (NN b p))) = true
          rw [decide_eq_true hri, Bool.true_and, List.all_eq_true]
          intro y hy
          obtain ⟨r, rfl, h2, h3⟩ := (hrp y hy).ex
          show (decide (r.length = NN b p) && r.all (entB m)) = true
          rw [decide_eq_true h2, Bool.true_and, List.all_eq_true]
          exact fun x hx => (h3 x hx).1
        walk_at "fj"
        rw [e_is_table lk (Lay.le (n := 2) (lay_list hR.lay) (by omega)), htab]
        walk_at "fj"
        rw [decide_eq_true trivial]
        walk_at "fj"
        rw [d_rng1 (by decide) (by decide)]
        walk_at "fj"
        have iM : Sz ((rows.length : Nat) : Int) 10 := ⟨by omega⟩
        have iN : Sz ((NN b p : Nat) : Int) 10 := ⟨by omega⟩
        refine ok_sq ((ok_for (fun i (_ : Unit) d' => Dk d' (10 + MM t * 300 + i * 2)) (by simpa using hd8) ?_).mono ?_)
        · as_aux_lemma =>
            rintro i x _ d9 hx hd9
            have hi : i < 20 := (List.getElem?_eq_some_iff.mp hx).1
            walk_at "fj"
            refine ok_bd (ok_qx ((ok_pick hd9 (by omega) (by omega) (log_sz (by omega) (by omega))).mono ?_))
            rintro _ d10 ⟨v1, rfl, v10, v11, hd10⟩
            obtain ⟨a, rfl⟩ := Int.eq_ofNat_of_zero_le v10
            walk_at "fj"
            rw [d_mul (fit_sz (n := 2) (by omega)) (fit_sz (n := 10) (by omega)), ← hN.1]
            walk_at "fj"
            refine ok_bd (ok_qx ((ok_pick hd10 (by omega) (by omega) (log_sz (by omega) (by omega))).mono ?_))
            rintro _ d11 ⟨v2, rfl, v20, v21, hd11⟩
            obtain ⟨j, rfl⟩ := Int.eq_ofNat_of_zero_le v20
            walk_at "fj"
            have ha : a < rows.length := by omega
            obtain ⟨r, er, hr2, hr3⟩ := (hrp _ (List.getElem_mem ha)).ex
            have hrow : rows[a]? = some (.list r) := by rw [List.getElem?_eq_getElem ha, er]
            have hj : j < r.length := by omega
            have hx : r[j]? = some r[j] := List.getElem?_eq_getElem hj
            rw [e_entry lk hrow hx (by omega)]
            walk_at "fj"
            rw [idx_nat hrow]
            walk_at "fj"
            rw [show (j : Int) - halfI b p + halfI b p = (j : Int) by omega, idx_nat hx]
            walk_at "fj"
            rw [d_neS ((hr3 _ (List.getElem_mem hj)).2.shaped (by omega))]
            walk_at "fj"
            exact ok_pu ⟨(), .inl rfl, hd11.le (by omega)⟩
        · as_aux_lemma =>
            rintro _ d12 ⟨_, rfl, _⟩
            refine ⟨_, rfl, ?_⟩
            walk_at "fj"
            obtain ⟨ms, hms, es⟩ := sli_scr (lo := some 1) (hi := some 9) hn
            rw [es]
            walk_at "fj"
            rw [d_cat (by rw [List.length_map]; exact line_le (by show ms.length + 1 ≤ _; omega))]
            walk_at "fj"
            refine ok_sq ((ok_for (fun _ _ _ => True) trivial ?_).mono ?_)
            · intro i x s' m0 hx _
              have hx2 : ∃ y : Int, x = .int y := by
                have := List.mem_of_getElem? hx
                rw [List.mem_append] at this
                rcases this with h | h
                · obtain ⟨y, _, rfl⟩ := List.mem_map.mp h
                  exact ⟨y, rfl⟩
                · simp only [List.mem_cons, List.not_mem_nil, or_false] at h
                  exact ⟨0, h⟩
              obtain ⟨y, rfl⟩ := hx2
              unfold cDN
              walk_at "fj"
              obtain ⟨dk, e, hd⟩ := ok_deck (c := y) (t := 200) (n := 200) (by omega) (by omega)
              rw [e]
              walk_at "fj"
              refine ok_bd (ok_wth ((ok_bent hR hd (by omega)).mono ?_))
              intro th d13 hth
              walk_at "fj"
              rw [e_is_table lk (hth.le (by omega))]
              walk_at "fj"
              rw [isi_bB]
              walk_at "fj"
              rw [e_law_is_table lk (hth.le (by omega))]
              walk_at "fj"
              rw [decide_eq_true trivial]
              walk_at "fj"
              exact ok_pu ⟨(), .inl rfl, trivial⟩
            · rintro _ m1 ⟨s, rfl, _⟩
              refine ⟨_, rfl, ?_⟩
              walk_at "fj"
              exact ok_pu ⟨_, .inl rfl, rfl⟩
  obtain ⟨x, m', e, rfl⟩ := key
  exact ⟨m', e⟩
section
variable {P : Program} {w : World} {K : PySem.W.Frag} {mg : Str → Option Value} {base : Heap}
theorem ok_law (T : Txt K mg) : FnOk P w K mg base CX0 10 T.a_law T.fd_law ["script"] (sp_law K) := ok_law_of T law_true
end
theorem all_mk {l : PySem.W.OpenLaw} {w : World} {K : PySem.W.Frag} {h : Heap} {mg : Str → Option Value} {fa : Addr} (X : K.In h) (G : h.Ns mainGlobals mg) (hfa : mg "law" = some (.ref fa))
    {f0 : Addr} {od0 an0 : Option Addr} {sl0 : Array (Option Value)} {oc0 kV0 dc0 pm0 cd0 ct0 : Value}
    {f1 : Addr} {od1 an1 : Option Addr} {sl1 : Array (Option Value)} {oc1 kV1 dc1 pm1 cd1 ct1 : Value}
    {f2 : Addr} {od2 an2 : Option Addr} {sl2 : Array (Option Value)} {oc2 kV2 dc2 pm2 cd2 ct2 : Value}
    {f3 : Addr} {od3 an3 : Option Addr} {sl3 : Array (Option Value)} {oc3 kV3 dc3 pm3 cd3 ct3 : Value}
    {f4 : Addr} {od4 an4 : Option Addr} {sl4 : Array (Option Value)} {oc4 kV4 dc4 pm4 cd4 ct4 : Value}
    {f5 : Addr} {od5 an5 : Option Addr} {sl5 : Array (Option Value)} {oc5 kV5 dc5 pm5 cd5 ct5 : Value}
    {f6 : Addr} {od6 an6 : Option Addr} {sl6 : Array (Option Value)} {oc6 kV6 dc6 pm6 cd6 ct6 : Value}
    {f7 : Addr} {od7 an7 : Option Addr} {sl7 : Array (Option Value)} {oc7 kV7 dc7 pm7 cd7 ct7 : Value}
    {f8 : Addr} {od8 an8 : Option Addr} {sl8 : Array (Option Value)} {oc8 kV8 dc8 pm8 cd8 ct8 : Value}
    {f9 : Addr} {od9 an9 : Option Addr} {sl9 : Array (Option Value)} {oc9 kV9 dc9 pm9 cd9 ct9 : Value}
    {f10 : Addr} {od10 an10 : Option Addr} {sl10 : Array (Option Value)} {oc10 kV10 dc10 pm10 cd10 ct10 : Value}
    {f11 : Addr} {od11 an11 : Option Addr} {sl11 : Array (Option Value)} {oc11 kV11 dc11 pm11 cd11 ct11 : Value}
    {f12 : Addr} {od12 an12 : Option Addr} {sl12 : Array (Option Value)} {oc12 kV12 dc12 pm12 cd12 ct12 : Value}
    {f13 : Addr} {od13 an13 : Option Addr} {sl13 : Array (Option Value)} {oc13 kV13 dc13 pm13 cd13 ct13 : Value}
    {f14 : Addr} {od14 an14 : Option Addr} {sl14 : Array (Option Value)} {oc14 kV14 dc14 pm14 cd14 ct14 : Value}
    {f15 : Addr} {od15 an15 : Option Addr} {sl15 : Array (Option Value)} {oc15 kV15 dc15 pm15 cd15 ct15 : Value}
    {f16 : Addr} {od16 an16 : Option Addr} {sl16 : Array (Option Value)} {oc16 kV16 dc16 pm16 cd16 ct16 : Value}
    {f17 : Addr} {od17 an17 : Option Addr} {sl17 : Array (Option Value)} {oc17 kV17 dc17 pm17 cd17 ct17 : Value}
    {gu0 : Value}
    (a0 : PySem.W.nsIn K mainGlobals "are_looks" = some (some (.ref f0))) (l0 : K.lookup f0 = some ⟨oc0, od0, .func (PySem.W.fnOf "are_looks" "are_looks" (defArgs s_are_looks) (defBody s_are_looks) (defScope s_are_looks) .none kV0 dc0 pm0 an0 cd0 ct0), sl0⟩) (c0 : PySem.W.codeIn K cd0 "are_looks" = true) (k0 : PySem.W.keepIn K (.ref f0) = true)
    (a1 : PySem.W.nsIn K mainGlobals "half_of" = some (some (.ref f1))) (l1 : K.lookup f1 = some ⟨oc1, od1, .func (PySem.W.fnOf "half_of" "half_of" (defArgs s_half_of) (defBody s_half_of) (defScope s_half_of) .none kV1 dc1 pm1 an1 cd1 ct1), sl1⟩) (c1 : PySem.W.codeIn K cd1 "half_of" = true) (k1 : PySem.W.keepIn K (.ref f1) = true)
    (a2 : PySem.W.nsIn K mainGlobals "first_top" = some (some (.ref f2))) (l2 : K.lookup f2 = some ⟨oc2, od2, .func (PySem.W.fnOf "first_top" "first_top" (defArgs s_first_top) (defBody s_first_top) (defScope s_first_top) .none kV2 dc2 pm2 an2 cd2 ct2), sl2⟩) (c2 : PySem.W.codeIn K cd2 "first_top" = true) (k2 : PySem.W.keepIn K (.ref f2) = true)
    (a3 : PySem.W.nsIn K mainGlobals "is_whole" = some (some (.ref f3))) (l3 : K.lookup f3 = some ⟨oc3, od3, .func (PySem.W.fnOf "is_whole" "is_whole" (defArgs s_is_whole) (defBody s_is_whole) (defScope s_is_whole) .none kV3 dc3 pm3 an3 cd3 ct3), sl3⟩) (c3 : PySem.W.codeIn K cd3 "is_whole" = true) (k3 : PySem.W.keepIn K (.ref f3) = true)
    (a4 : PySem.W.nsIn K mainGlobals "is_figure" = some (some (.ref f4))) (l4 : K.lookup f4 = some ⟨oc4, od4, .func (PySem.W.fnOf "is_figure" "is_figure" (defArgs s_is_figure) (defBody s_is_figure) (defScope s_is_figure) .none kV4 dc4 pm4 an4 cd4 ct4), sl4⟩) (c4 : PySem.W.codeIn K cd4 "is_figure" = true) (k4 : PySem.W.keepIn K (.ref f4) = true)
    (a5 : PySem.W.nsIn K mainGlobals "is_entry" = some (some (.ref f5))) (l5 : K.lookup f5 = some ⟨oc5, od5, .func (PySem.W.fnOf "is_entry" "is_entry" (defArgs s_is_entry) (defBody s_is_entry) (defScope s_is_entry) .none kV5 dc5 pm5 an5 cd5 ct5), sl5⟩) (c5 : PySem.W.codeIn K cd5 "is_entry" = true) (k5 : PySem.W.keepIn K (.ref f5) = true)
    (a6 : PySem.W.nsIn K mainGlobals "is_table_row" = some (some (.ref f6))) (l6 : K.lookup f6 = some ⟨oc6, od6, .func (PySem.W.fnOf "is_table_row" "is_table_row" (defArgs s_is_table_row) (defBody s_is_table_row) (defScope s_is_table_row) .none kV6 dc6 pm6 an6 cd6 ct6), sl6⟩) (c6 : PySem.W.codeIn K cd6 "is_table_row" = true) (k6 : PySem.W.keepIn K (.ref f6) = true)
    (a7 : PySem.W.nsIn K mainGlobals "is_table" = some (some (.ref f7))) (l7 : K.lookup f7 = some ⟨oc7, od7, .func (PySem.W.fnOf "is_table" "is_table" (defArgs s_is_table) (defBody s_is_table) (defScope s_is_table) .none kV7 dc7 pm7 an7 cd7 ct7), sl7⟩) (c7 : PySem.W.codeIn K cd7 "is_table" = true) (k7 : PySem.W.keepIn K (.ref f7) = true)
    (a8 : PySem.W.nsIn K mainGlobals "entry" = some (some (.ref f8))) (l8 : K.lookup f8 = some ⟨oc8, od8, .func (PySem.W.fnOf "entry" "entry" (defArgs s_entry) (defBody s_entry) (defScope s_entry) .none kV8 dc8 pm8 an8 cd8 ct8), sl8⟩) (c8 : PySem.W.codeIn K cd8 "entry" = true) (k8 : PySem.W.keepIn K (.ref f8) = true)
    (a9 : PySem.W.nsIn K mainGlobals "_law_deck" = some (some (.ref f9))) (l9 : K.lookup f9 = some ⟨oc9, od9, .func (PySem.W.fnOf "_law_deck" "_law_deck" (defArgs s__law_deck) (defBody s__law_deck) (defScope s__law_deck) .none kV9 dc9 pm9 an9 cd9 ct9), sl9⟩) (c9 : PySem.W.codeIn K cd9 "_law_deck" = true) (k9 : PySem.W.keepIn K (.ref f9) = true)
    (a10 : PySem.W.nsIn K mainGlobals "_law_pick" = some (some (.ref f10))) (l10 : K.lookup f10 = some ⟨oc10, od10, .func (PySem.W.fnOf "_law_pick" "_law_pick" (defArgs s__law_pick) (defBody s__law_pick) (defScope s__law_pick) .none kV10 dc10 pm10 an10 cd10 ct10), sl10⟩) (c10 : PySem.W.codeIn K cd10 "_law_pick" = true) (k10 : PySem.W.keepIn K (.ref f10) = true)
    (a11 : PySem.W.nsIn K mainGlobals "_law_kind" = some (some (.ref f11))) (l11 : K.lookup f11 = some ⟨oc11, od11, .func (PySem.W.fnOf "_law_kind" "_law_kind" (defArgs s__law_kind) (defBody s__law_kind) (defScope s__law_kind) .none kV11 dc11 pm11 an11 cd11 ct11), sl11⟩) (c11 : PySem.W.codeIn K cd11 "_law_kind" = true) (k11 : PySem.W.keepIn K (.ref f11) = true)
    (a12 : PySem.W.nsIn K mainGlobals "_law_whole" = some (some (.ref f12))) (l12 : K.lookup f12 = some ⟨oc12, od12, .func (PySem.W.fnOf "_law_whole" "_law_whole" (defArgs s__law_whole) (defBody s__law_whole) (defScope s__law_whole) .none kV12 dc12 pm12 an12 cd12 ct12), sl12⟩) (c12 : PySem.W.codeIn K cd12 "_law_whole" = true) (k12 : PySem.W.keepIn K (.ref f12) = true)
    (a13 : PySem.W.nsIn K mainGlobals "_law_thing" = some (some (.ref f13))) (l13 : K.lookup f13 = some ⟨oc13, od13, .func (PySem.W.fnOf "_law_thing" "_law_thing" (defArgs s__law_thing) (defBody s__law_thing) (defScope s__law_thing) .none kV13 dc13 pm13 an13 cd13 ct13), sl13⟩) (c13 : PySem.W.codeIn K cd13 "_law_thing" = true) (k13 : PySem.W.keepIn K (.ref f13) = true)
    (a14 : PySem.W.nsIn K mainGlobals "_law_half" = some (some (.ref f14))) (l14 : K.lookup f14 = some ⟨oc14, od14, .func (PySem.W.fnOf "_law_half" "_law_half" (defArgs s__law_half) (defBody s__law_half) (defScope s__law_half) .none kV14 dc14 pm14 an14 cd14 ct14), sl14⟩) (c14 : PySem.W.codeIn K cd14 "_law_half" = true) (k14 : PySem.W.keepIn K (.ref f14) = true)
    (a15 : PySem.W.nsIn K mainGlobals "_law_is_table" = some (some (.ref f15))) (l15 : K.lookup f15 = some ⟨oc15, od15, .func (PySem.W.fnOf "_law_is_table" "_law_is_table" (defArgs s__law_is_table) (defBody s__law_is_table) (defScope s__law_is_table) .none kV15 dc15 pm15 an15 cd15 ct15), sl15⟩) (c15 : PySem.W.codeIn K cd15 "_law_is_table" = true) (k15 : PySem.W.keepIn K (.ref f15) = true)
    (a16 : PySem.W.nsIn K mainGlobals "_law_bent" = some (some (.ref f16))) (l16 : K.lookup f16 = some ⟨oc16, od16, .func (PySem.W.fnOf "_law_bent" "_law_bent" (defArgs s__law_bent) (defBody s__law_bent) (defScope s__law_bent) .none kV16 dc16 pm16 an16 cd16 ct16), sl16⟩) (c16 : PySem.W.codeIn K cd16 "_law_bent" = true) (k16 : PySem.W.keepIn K (.ref f16) = true)
    (a17 : PySem.W.nsIn K mainGlobals "law" = some (some (.ref f17))) (l17 : K.lookup f17 = some ⟨oc17, od17, .func (PySem.W.fnOf "law" "law" (defArgs s_law) (defBody s_law) (defScope s_law) .none kV17 dc17 pm17 an17 cd17 ct17), sl17⟩) (c17 : PySem.W.codeIn K cd17 "law" = true) (k17 : PySem.W.keepIn K (.ref f17) = true)
    (z0 : PySem.W.nsIn K mainGlobals "isinstance" = some none)
    (z1 : PySem.W.nsIn K mainGlobals "int" = some none)
    (z2 : PySem.W.nsIn K mainGlobals "bool" = some none)
    (z3 : PySem.W.nsIn K mainGlobals "list" = some none)
    (z4 : PySem.W.nsIn K mainGlobals "len" = some none)
    (z5 : PySem.W.nsIn K mainGlobals "all" = some none)
    (z6 : PySem.W.nsIn K mainGlobals "range" = some none)
    (z7 : PySem.W.nsIn K mainGlobals "tuple" = some none)
    (g0a : PySem.W.nsIn K mainGlobals "MOST_CELLS" = some (some gu0)) (g0r : RelV (.int 20000) gu0) :
    ∃ fd : FuncData, (∀ (s : Shared) (v : Value), BindsTo s fd ⟨[v], []⟩ [("script", v)]) ∧ ∀ base : Heap, K.In base → base.Ns mainGlobals mg → FnOk l.prog w K mg base CX0 10 fa fd ["script"] (sp_law K) := by
  have e := hfa.symm.trans (PySem.W.mg_of X G a17)
  cases e
  have F0 := fun_mk (st := s_are_looks) l0 c0 k0
  have b0 := F0.binds (ps := ["kind", "looks"]) fun _ _ _ _ _ _ us hl => match us, hl with | [_, _], _ => rfl
  have F1 := fun_mk (st := s_half_of) l1 c1 k1
  have b1 := F1.binds (ps := ["kind", "looks"]) fun _ _ _ _ _ _ us hl => match us, hl with | [_, _], _ => rfl
  have F2 := fun_mk (st := s_first_top) l2 c2 k2
  have b2 := F2.binds (ps := ["looks"]) fun _ _ _ _ _ _ us hl => match us, hl with | [_], _ => rfl
  have F3 := fun_mk (st := s_is_whole) l3 c3 k3
  have b3 := F3.binds (ps := ["thing"]) fun _ _ _ _ _ _ us hl => match us, hl with | [_], _ => rfl
  have F4 := fun_mk (st := s_is_figure) l4 c4 k4
  have b4 := F4.binds (ps := ["kind", "thing"]) fun _ _ _ _ _ _ us hl => match us, hl with | [_, _], _ => rfl
  have F5 := fun_mk (st := s_is_entry) l5 c5 k5
  have b5 := F5.binds (ps := ["kind", "thing"]) fun _ _ _ _ _ _ us hl => match us, hl with | [_, _], _ => rfl
  have F6 := fun_mk (st := s_is_table_row) l6 c6 k6
  have b6 := F6.binds (ps := ["kind", "looks", "thing"]) fun _ _ _ _ _ _ us hl => match us, hl with | [_, _, _], _ => rfl
  have F7 := fun_mk (st := s_is_table) l7 c7 k7
  have b7 := F7.binds (ps := ["kind", "looks", "thing"]) fun _ _ _ _ _ _ us hl => match us, hl with | [_, _, _], _ => rfl
  have F8 := fun_mk (st := s_entry) l8 c8 k8
  have b8 := F8.binds (ps := ["kind", "looks", "table", "cell"]) fun _ _ _ _ _ _ us hl => match us, hl with | [_, _, _, _], _ => rfl
  have F9 := fun_mk (st := s__law_deck) l9 c9 k9
  have b9 := F9.binds (ps := ["cell", "turn"]) fun _ _ _ _ _ _ us hl => match us, hl with | [_, _], _ => rfl
  have F10 := fun_mk (st := s__law_pick) l10 c10 k10
  have b10 := F10.binds (ps := ["deck", "many"]) fun _ _ _ _ _ _ us hl => match us, hl with | [_, _], _ => rfl
  have F11 := fun_mk (st := s__law_kind) l11 c11 k11
  have b11 := F11.binds (ps := ["deck"]) fun _ _ _ _ _ _ us hl => match us, hl with | [_], _ => rfl
  have F12 := fun_mk (st := s__law_whole) l12 c12 k12
  have b12 := F12.binds (ps := ["thing"]) fun _ _ _ _ _ _ us hl => match us, hl with | [_], _ => rfl
  have F13 := fun_mk (st := s__law_thing) l13 c13 k13
  have b13 := F13.binds (ps := ["deck", "deep"]) fun _ _ _ _ _ _ us hl => match us, hl with | [_, _], _ => rfl
  have F14 := fun_mk (st := s__law_half) l14 c14 k14
  have b14 := F14.binds (ps := ["kind", "looks"]) fun _ _ _ _ _ _ us hl => match us, hl with | [_, _], _ => rfl
  have F15 := fun_mk (st := s__law_is_table) l15 c15 k15
  have b15 := F15.binds (ps := ["kind", "looks", "thing"]) fun _ _ _ _ _ _ us hl => match us, hl with | [_, _, _], _ => rfl
  have F16 := fun_mk (st := s__law_bent) l16 c16 k16
  have b16 := F16.binds (ps := ["deck", "kind", "table"]) fun _ _ _ _ _ _ us hl => match us, hl with | [_, _, _], _ => rfl
  have F17 := fun_mk (st := s_law) l17 c17 k17
  have b17 := F17.binds (ps := ["script"]) fun _ _ _ _ _ _ us hl => match us, hl with | [_], _ => rfl
  let T : Txt K mg := { a_are_looks := f0, fd_are_looks := _, F_are_looks := F0, m_are_looks := PySem.W.mg_of X G a0, b_are_looks := b0, a_half_of := f1, fd_half_of := _, F_half_of := F1, m_half_of := PySem.W.mg_of X G a1, b_half_of := b1, a_first_top := f2, fd_first_top := _, F_first_top := F2, m_first_top := PySem.W.mg_of X G a2, b_first_top := b2, a_is_whole := f3, fd_is_whole := _, F_is_whole := F3, m_is_whole := PySem.W.mg_of X G a3, b_is_whole := b3, a_is_figure := f4, fd_is_figure := _, F_is_figure := F4, m_is_figure := PySem.W.mg_of X G a4, b_is_figure := b4, a_is_entry := f5, fd_is_entry := _, F_is_entry := F5, m_is_entry := PySem.W.mg_of X G a5, b_is_entry := b5, a_is_table_row := f6, fd_is_table_row := _, F_is_table_row := F6, m_is_table_row := PySem.W.mg_of X G a6, b_is_table_row := b6, a_is_table := f7, fd_is_table := _, F_is_table := F7, m_is_table := PySem.W.mg_of X G a7, b_is_table := b7, a_entry := f8, fd_entry := _, F_entry := F8, m_entry := PySem.W.mg_of X G a8, b_entry := b8, a__law_deck := f9, fd__law_deck := _, F__law_deck := F9, m__law_deck := PySem.W.mg_of X G a9, b__law_deck := b9, a__law_pick := f10, fd__law_pick := _, F__law_pick := F10, m__law_pick := PySem.W.mg_of X G a10, b__law_pick := b10, a__law_kind := f11, fd__law_kind := _, F__law_kind := F11, m__law_kind := PySem.W.mg_of X G a11, b__law_kind := b11, a__law_whole := f12, fd__law_whole := _, F__law_whole := F12, m__law_whole := PySem.W.mg_of X G a12, b__law_whole := b12, a__law_thing := f13, fd__law_thing := _, F__law_thing := F13, m__law_thing := PySem.W.mg_of X G a13, b__law_thing := b13, a__law_half := f14, fd__law_half := _, F__law_half := F14, m__law_half := PySem.W.mg_of X G a14, b__law_half := b14, a__law_is_table := f15, fd__law_is_table := _, F__law_is_table := F15, m__law_is_table := PySem.W.mg_of X G a15, b__law_is_table := b15, a__law_bent := f16, fd__law_bent := _, F__law_bent := F16, m__law_bent := PySem.W.mg_of X G a16, b__law_bent := b16, a_law := fa, fd_law := _, F_law := F17, m_law := PySem.W.mg_of X G a17, b_law := b17, z_isinstance := PySem.W.mg_none_of X G z0, z_int := PySem.W.mg_none_of X G z1, z_bool := PySem.W.mg_none_of X G z2, z_list := PySem.W.mg_none_of X G z3, z_len := PySem.W.mg_none_of X G z4, z_all := PySem.W.mg_none_of X G z5, z_range := PySem.W.mg_none_of X G z6, z_tuple := PySem.W.mg_none_of X G z7, u_MOST_CELLS := gu0, m_MOST_CELLS := PySem.W.mg_of X G g0a, r_MOST_CELLS := g0r }
  exact ⟨PySem.W.fnOf "law" "law" (defArgs s_law) (defBody s_law) (defScope s_law) .none kV17 dc17 pm17 an17 cd17 ct17, fun s v => .of_eq rfl, fun base _ _ => ok_law T⟩
theorem walk {l : PySem.W.OpenLaw} {q : Program} {loose : List Str} {XP : (Str → Option Value) → Heap → Prop} {YP : World → Heap → Prop} {d : DefRec} {K : Params → PySem.W.Frag} (hn : l.most = some 63) (hdf : d.params.defaults = [])
    (hY : ∀ (w : World) (h : Heap), YP w h → (K w.params).In h)
    (F : ∀ (w : World) (mg : Str → Option Value) (fa : Addr) (h : Heap), (K w.params).In h → h.Ns mainGlobals mg → mg d.name = some (.ref fa) →
      ∃ fd : FuncData, (∀ (s : Shared) (u : Value), BindsTo s fd ⟨[u], []⟩ [("script", u)]) ∧ ∀ base : Heap, (K w.params).In base → base.Ns mainGlobals mg → FnOk l.prog w (K w.params) mg base CX0 10 fa fd ["script"] (sp_law (K w.params))) :
    PySem.W.WalkO q loose XP YP l.row.toRowW d [] (fun f vs => PySem.call f vs) :=
  L2.walk_ofB (n := 63) (k := 10) (x := "script") (CX := fun _ => CX0) (sp := fun w => sp_law (K w.params)) hn (by decide) hdf ⟨rfl, by decide, by decide⟩ hY F (fun _ _ a ns hl hb _ hS => ⟨a, ns, rfl, hS, hl, hb, fun _ => rfl⟩) fun _ _ _ _ _ z => z
end My
open PySem PySem.W PyProof.Rows
set_option maxRecDepth 100000 in
set_option maxHeartbeats 0 in
theorem PySem.Challenge.cw_slackfigures_k09_tables_told_holds : PySem.Challenge.rw_slackfigures_k09_tables_told.Holds := by
  w_on; o_law; k_head; (case hw => w_witness2)
  k_fill
  refine My.walk (l := PySem.Challenge.rw_slackfigures_k09_tables_told) rfl rfl (fun w h Y => PySem.W.kIn_of Y) ?F
  case F =>
    intro w mg fa h KX G hmg
    refine' My.all_mk KX G hmg ?a0 ?l0 ?c0 ?k0 ?a1 ?l1 ?c1 ?k1 ?a2 ?l2 ?c2 ?k2 ?a3 ?l3 ?c3 ?k3 ?a4 ?l4 ?c4 ?k4 ?a5 ?l5 ?c5 ?k5 ?a6 ?l6 ?c6 ?k6 ?a7 ?l7 ?c7 ?k7 ?a8 ?l8 ?c8 ?k8 ?a9 ?l9 ?c9 ?k9 ?a10 ?l10 ?c10 ?k10 ?a11 ?l11 ?c11 ?k11 ?a12 ?l12 ?c12 ?k12 ?a13 ?l13 ?c13 ?k13 ?a14 ?l14 ?c14 ?k14 ?a15 ?l15 ?c15 ?k15 ?a16 ?l16 ?c16 ?k16 ?a17 ?l17 ?c17 ?k17 ?z0 ?z1 ?z2 ?z3 ?z4 ?z5 ?z6 ?z7 ?g0a ?g0r
    (case a0 => k_is)
    (case l0 => k_is)
    (case c0 => k_is)
    (case k0 => k_is)
    (case a1 => k_is)
    (case l1 => k_is)
    (case c1 => k_is)
    (case k1 => k_is)
    (case a2 => k_is)
    (case l2 => k_is)
    (case c2 => k_is)
    (case k2 => k_is)
    (case a3 => k_is)
    (case l3 => k_is)
    (case c3 => k_is)
    (case k3 => k_is)
    (case a4 => k_is)
    (case l4 => k_is)
    (case c4 => k_is)
    (case k4 => k_is)
    (case a5 => k_is)
    (case l5 => k_is)
    (case c5 => k_is)
    (case k5 => k_is)
    (case a6 => k_is)
    (case l6 => k_is)
    (case c6 => k_is)
    (case k6 => k_is)
    (case a7 => k_is)
    (case l7 => k_is)
    (case c7 => k_is)
    (case k7 => k_is)
    (case a8 => k_is)
    (case l8 => k_is)
    (case c8 => k_is)
    (case k8 => k_is)
    (case a9 => k_is)
    (case l9 => k_is)
    (case c9 => k_is)
    (case k9 => k_is)
    (case a10 => k_is)
    (case l10 => k_is)
    (case c10 => k_is)
    (case k10 => k_is)
    (case a11 => k_is)
    (case l11 => k_is)
    (case c11 => k_is)
    (case k11 => k_is)
    (case a12 => k_is)
    (case l12 => k_is)
    (case c12 => k_is)
    (case k12 => k_is)
    (case a13 => k_is)
    (case l13 => k_is)
    (case c13 => k_is)
    (case k13 => k_is)
    (case a14 => k_is)
    (case l14 => k_is)
    (case c14 => k_is)
    (case k14 => k_is)
    (case a15 => k_is)
    (case l15 => k_is)
    (case c15 => k_is)
    (case k15 => k_is)
    (case a16 => k_is)
    (case l16 => k_is)
    (case c16 => k_is)
    (case k16 => k_is)
    (case a17 => k_is)
    (case l17 => k_is)
    (case c17 => k_is)
    (case k17 => k_is)
    (case z0 => k_is)
    (case z1 => k_is)
    (case z2 => k_is)
    (case z3 => k_is)
    (case z4 => k_is)
    (case z5 => k_is)
    (case z6 => k_is)
    (case z7 => k_is)
    (case g0a => k_is)
    (case g0r => first | exact rfl | exact ⟨_, rfl⟩ | k_is | decide)
