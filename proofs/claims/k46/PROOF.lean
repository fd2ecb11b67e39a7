import PyProof.Rows.All
import Wide.All
import OpenK.AllK
import Wide.FinOn
import HandS.ForMost
import HandS.EndBits
import HandS.Wide
import HandS.WideBits
import HandS.IsInst
import HandS.Style
import HandS.Codes
import HandS.Text
import HandS.Conv
import HandS.Zip
import HandS.Rev
import HandS.SetFor
import HandS.NoneIn
import KE.GoesEnumKw
import KE.GoesMore
import KE.KMinBuiltin
import HandS.FStr
import HandS.ExcCtx
import HandS.ExcInit
import HandS.ExcIs
import HandS.ExcField
import HandS.HotCalls
import HandS.ClsMeth
import KE.KExcIs
import HandS.Deep
import KE.KDictKeyed
import HandS.SortRule
import HandS.TupLen
import HandS.DictComp
import KE.DataAny
import KE.GoesComp
import HandS.StrMore
import HandS.RaiseMore
import PySem.Challenge.RW_slackfigures_k46_whole_texts_of_deeds
set_option Elab.async false
set_option linter.all false
set_option maxRecDepth 100000
set_option maxHeartbeats 4000000
set_option Elab.async false
set_option linter.all false
set_option maxRecDepth 100000
set_option maxHeartbeats 4000000
namespace My
open PySem L2
abbrev D := PyData
inductive Rs (μ α : Type) where
  | ok (a : α) (m : μ)
  | exc (e : D) (m : μ)
  | bad
def SM (μ α : Type) : Type := μ → Rs μ α
namespace SM
variable {μ α β γ : Type}
def pu (a : α) : SM μ α := fun m => .ok a m
def bd (x : SM μ α) (f : α → SM μ β) : SM μ β := fun m => match x m with
  | .ok a m' => f a m'
  | .exc e m' => .exc e m'
  | .bad => .bad
instance : Monad (SM μ) where
  pure := pu
  bind := bd
theorem bd_ok {x : SM μ α} {f : α → SM μ β} {m m' : μ} {a : α} (h : x m = .ok a m') : bd x f m = f a m' := by unfold bd; rw [h]
theorem bd_exc {x : SM μ α} {f : α → SM μ β} {m m' : μ} {e : D} (h : x m = .exc e m') : bd x f m = .exc e m' := by unfold bd; rw [h]
theorem bd_bad {x : SM μ α} {f : α → SM μ β} {m : μ} (h : x m = .bad) : bd x f m = .bad := by unfold bd; rw [h]
theorem pu_bd (a : α) (f : α → SM μ β) : bd (pu a) f = f a := rfl
theorem bd_assoc (x : SM μ α) (f : α → SM μ β) (g : β → SM μ γ) : bd (bd x f) g = bd x fun a => bd (f a) g := by
  funext m
  unfold bd
  cases x m <;> rfl
def raise (e : D) : SM μ α := fun m => .exc e m
def bad : SM μ α := fun _ => .bad
/-- an answer, or nothing told -/
def of (x : Option α) : SM μ α := match x with
  | some a => pu a
  | none => bad
/-- a thing without a state, within one -/
def p0 (x : SM Unit α) : SM μ α := fun m => match x () with
  | .ok a _ => .ok a m
  | .exc e _ => .exc e m
  | .bad => .bad
theorem p0_ok {x : SM Unit α} {a : α} {m : μ} (h : x () = .ok a ()) : p0 x m = .ok a m := by unfold p0; rw [h]
theorem p0_exc {x : SM Unit α} {e : D} {m : μ} (h : x () = .exc e ()) : (p0 x : SM μ α) m = .exc e m := by unfold p0; rw [h]
theorem p0_bad {x : SM Unit α} {m : μ} (h : x () = .bad) : (p0 x : SM μ α) m = .bad := by unfold p0; rw [h]
/-- a thing without a state that is not to raise, within one -/
def px (x : SM Unit α) : SM μ α := fun m => match x () with
  | .ok a _ => .ok a m
  | _ => .bad
theorem px_ok {x : SM Unit α} {a : α} {m : μ} (h : x () = .ok a ()) : px x m = .ok a m := by unfold px; rw [h]
theorem px_nb {x : SM Unit α} {m : μ} (h : (px x : SM μ α) m ≠ .bad) : ∃ a, x () = .ok a () := by
  unfold px at h
  cases e : x () with
  | ok a u => exact ⟨a, rfl⟩
  | exc e' u => rw [e] at h; exact absurd rfl h
  | bad => rw [e] at h; exact absurd rfl h
/-- the same of a thing that has the state -/
def qx (x : SM μ α) : SM μ α := fun m => match x m with
  | .ok a m' => .ok a m'
  | _ => .bad
theorem qx_ok {x : SM μ α} {a : α} {m m' : μ} (h : x m = .ok a m') : qx x m = .ok a m' := by unfold qx; rw [h]
theorem qx_nb {x : SM μ α} {m : μ} (h : qx x m ≠ .bad) : ∃ a m', x m = .ok a m' := by
  unfold qx at h
  cases e : x m with
  | ok a u => exact ⟨a, u, rfl⟩
  | exc e' u => rw [e] at h; exact absurd rfl h
  | bad => rw [e] at h; exact absurd rfl h
end SM
section
variable (K : PySem.W.Frag)
def wrT (a : Addr) (xs : List V) : Prop := ∃ (o : Obj) (its : Array Value) (n : Nat), K.lookup a = some o ∧ o.cls = .type "tuple" ∧ o.data = .seq its n ∧ its.size ≤ sizeLine ∧ Vals xs its.toList
def FzL (B : Addr → Prop) (H : Hp) (p : Addr) (xs : List V) : Prop := B p ∧ H p = some (.lst xs)
/-- the script stands locked -/
def scrD (ds : List D) : D := .dict [(.none, .list ds)]
def wrL (a : Addr) (xs : List V) : Prop := ∃ (o : Obj) (its : Array Value) (n : Nat), K.lookup a = some o ∧ o.cls = .type "list" ∧ o.dict = none ∧ o.data = .seq its n ∧ its.size ≤ sizeLine ∧ Vals xs its.toList
def FzS (B : Addr → Prop) (H : Hp) (p : Addr) (xs : List V) : Prop := (B p ∧ Rd H p (.lst xs)) ∨ wrL K p xs
def FzT (B : Addr → Prop) (H : Hp) (p : Addr) (xs : List V) : Prop := (B p ∧ Rd H p (.tup xs)) ∨ wrT K p xs
mutual
inductive Dt (B : Addr → Prop) (H : Hp) : V → PyData → Prop
  | non : Dt B H .non .none
  | bl (z : Bool) : Dt B H (.bl z) (.bool z)
  | int (i : Int) : Dt B H (.int i) (.int i)
  | str (x : Str) : Dt B H (.str x) (.str x)
  | lst {p : Addr} {xs : List V} {ds : List PyData} : FzL B H p xs → DtAll B H xs ds → Dt B H (.ref p) (.list ds)
  | tup {p : Addr} {xs : List V} {ds : List PyData} : FzT K B H p xs → DtAll B H xs ds → Dt B H (.ref p) (.tuple ds)
  | scr {p : Addr} {xs : List V} {ds : List PyData} : FzS K B H p xs → DtAll B H xs ds → Dt B H (.ref p) (.dict [(.none, .list ds)])
inductive DtAll (B : Addr → Prop) (H : Hp) : List V → List PyData → Prop
  | nil : DtAll B H [] []
  | cons {v : V} {vs : List V} {d : PyData} {ds : List PyData} : Dt B H v d → DtAll B H vs ds → DtAll B H (v :: vs) (d :: ds)
end
end
section
variable {K : PySem.W.Frag} {B B' : Addr → Prop} {H H' : Hp} {p : Addr} {xs : List V}
theorem FzL.sq (h : FzL B H p xs) : SqL K H p xs := .inl (.inl h.2)
theorem FzS.sq (h : FzS K B H p xs) : SqL K H p xs := h.elim (fun x => .inl x.2) .inr
theorem FzT.sq (h : FzT K B H p xs) : SqT K H p xs := h.elim (fun x => .inl x.2) .inr
/-- what stays of what is frozen -/
def Kp (B : Addr → Prop) (H : Hp) (B' : Addr → Prop) (H' : Hp) : Prop := ∀ p o, B p → H p = some o → B' p ∧ H' p = some o
theorem Kp.refl : Kp B H B H := fun _ _ b h => ⟨b, h⟩
theorem Kp.trans {B'' : Addr → Prop} {H'' : Hp} (k : Kp B H B' H') (k' : Kp B' H' B'' H'') : Kp B H B'' H'' := fun p o b h => k' p o (k p o b h).1 (k p o b h).2
theorem rd_mono (k : Kp B H B' H') {o : HO} (b : B p) (h : Rd H p o) : B' p ∧ Rd H' p o := by
  rcases h with h | ⟨u, h⟩
  · exact ⟨(k _ _ b h).1, .inl (k _ _ b h).2⟩
  · exact ⟨(k _ _ b h).1, .inr ⟨u, (k _ _ b h).2⟩⟩
theorem FzL.mono (k : Kp B H B' H') (h : FzL B H p xs) : FzL B' H' p xs := k _ _ h.1 h.2
theorem FzS.mono (k : Kp B H B' H') (h : FzS K B H p xs) : FzS K B' H' p xs := h.elim (fun x => .inl (rd_mono k x.1 x.2)) .inr
theorem FzT.mono (k : Kp B H B' H') (h : FzT K B H p xs) : FzT K B' H' p xs := h.elim (fun x => .inl (rd_mono k x.1 x.2)) .inr
mutual
theorem Dt.mono (k : Kp B H B' H') : ∀ (d : PyData) (v : V), Dt K B H v d → Dt K B' H' v d
  | .none, _, h => by cases h; exact .non
  | .bool _, _, h => by cases h; exact .bl _
  | .int _, _, h => by cases h; exact .int _
  | .str _, _, h => by cases h; exact .str _
  | .list ds, _, h => by
    cases h with
    | lst b a => exact .lst (b.mono k) (Dt.monoAll k ds _ a)
  | .tuple ds, _, h => by
    cases h with
    | tup b a => exact .tup (b.mono k) (Dt.monoAll k ds _ a)
  | .dict kvs, v, h => by
    cases kvs with
    | nil => cases h
    | cons z r =>
      obtain ⟨k1, k2⟩ := z
      cases k1 with
      | none =>
        cases k2 with
        | list ds =>
          cases r with
          | nil =>
            cases h with
            | scr b a => exact .scr (b.mono k) (Dt.monoAll k ds _ a)
          | cons _ _ => cases h
        | _ => cases h
      | _ => cases h
theorem Dt.monoAll (k : Kp B H B' H') : ∀ (ds : List PyData) (vs : List V), DtAll K B H vs ds → DtAll K B' H' vs ds
  | [], _, h => by cases h; exact .nil
  | d :: ds, _, h => by
    cases h with
    | cons x y => exact .cons (Dt.mono k d _ x) (Dt.monoAll k ds _ y)
end
mutual
theorem Dt.dp : ∀ (d : PyData) (v : V), d.canLay0 = true → Dt K B H v d → Dp K H v d
  | .none, _, _, h => by cases h; exact .non
  | .bool _, _, _, h => by cases h; exact .bl _
  | .int _, _, _, h => by cases h; exact .int _
  | .str _, _, _, h => by cases h; exact .str _
  | .list ds, _, c, h => by
    cases h with
    | lst b a => exact .lst b.sq (Dt.dpAll ds _ (by simpa only [PyData.canLay0] using c) a)
  | .tuple ds, _, c, h => by
    cases h with
    | tup b a => exact .tup b.sq (Dt.dpAll ds _ (by simpa only [PyData.canLay0] using c) a)
  | .dict _, _, c, h => by simp only [PyData.canLay0] at c; cases c
theorem Dt.dpAll : ∀ (ds : List PyData) (vs : List V), PyData.canLayAll0 ds = true → DtAll K B H vs ds → DpAll K H vs ds
  | [], _, _, h => by cases h; exact .nil
  | d :: ds, _, c, h => by
    simp only [PyData.canLayAll0, Bool.and_eq_true] at c
    cases h with
    | cons x y => exact .cons (Dt.dp d _ c.1 x) (Dt.dpAll ds _ c.2 y)
end
theorem DtAll.app : ∀ {vs : List V} {ds : List PyData} {us : List V} {es : List PyData}, DtAll K B H vs ds → DtAll K B H us es → DtAll K B H (vs ++ us) (ds ++ es)
  | [], _, _, _, h, g => by cases h; exact g
  | v :: vs, _, _, _, h, g => by
    cases h with
    | cons x y => exact .cons x (DtAll.app y g)
theorem DtAll.len : ∀ {vs : List V} {ds : List PyData}, DtAll K B H vs ds → vs.length = ds.length
  | [], _, h => by cases h; rfl
  | v :: vs, _, h => by
    cases h with
    | cons x y => rw [List.length_cons, List.length_cons, DtAll.len y]
theorem DtAll.get : ∀ {vs : List V} {ds : List PyData} {i : Nat} {d : D}, DtAll K B H vs ds → ds[i]? = some d → ∃ v, vs[i]? = some v ∧ Dt K B H v d
  | _, [], i, d, h, e => by cases e
  | _, x :: ds, 0, d, h, e => by
    cases h with
    | cons a b => cases e; exact ⟨_, rfl, a⟩
  | _, x :: ds, i + 1, d, h, e => by
    cases h with
    | cons a b => exact DtAll.get (i := i) b e
theorem DtAll.set : ∀ {vs : List V} {ds : List PyData} {i : Nat} {v : V} {d : D}, DtAll K B H vs ds → Dt K B H v d → DtAll K B H (vs.set i v) (ds.set i d)
  | [], _, i, v, d, h, g => by cases h; exact .nil
  | x :: vs, _, 0, v, d, h, g => by
    cases h with
    | cons a b => exact .cons g b
  | x :: vs, _, i + 1, v, d, h, g => by
    cases h with
    | cons a b => exact .cons a (DtAll.set b g)
theorem DtAll.drop : ∀ {vs : List V} {ds : List PyData} (n : Nat), DtAll K B H vs ds → DtAll K B H (vs.drop n) (ds.drop n)
  | _, _, 0, h => h
  | [], _, n + 1, h => by cases h; exact .nil
  | v :: vs, _, n + 1, h => by
    cases h with
    | cons a b => exact DtAll.drop n b
theorem DtAll.take : ∀ {vs : List V} {ds : List PyData} (n : Nat), DtAll K B H vs ds → DtAll K B H (vs.take n) (ds.take n)
  | [], _, 0, h => by cases h; exact .nil
  | v :: vs, _, 0, h => by cases h; exact .nil
  | [], _, n + 1, h => by cases h; exact .nil
  | v :: vs, _, n + 1, h => by
    cases h with
    | cons a b => exact .cons a (DtAll.take n b)
theorem DtAll.flat : ∀ (n : Nat) {vs : List V} {ds : List PyData}, DtAll K B H vs ds → DtAll K B H (List.replicate n vs).flatten (List.replicate n ds).flatten
  | 0, _, _, _ => .nil
  | n + 1, _, _, h => by rw [List.replicate_succ, List.replicate_succ, List.flatten_cons, List.flatten_cons]; exact DtAll.app h (DtAll.flat n h)
theorem DtAll.ints : ∀ (ns : List Int), DtAll K B H (ns.map V.int) (ns.map PyData.int)
  | [] => .nil
  | n :: r => .cons (.int n) (DtAll.ints r)
theorem Dt.int_inv {v : V} {i : Int} (h : Dt K B H v (.int i)) : v = .int i := by cases h; rfl
theorem Dt.bl_inv {v : V} {z : Bool} (h : Dt K B H v (.bool z)) : v = .bl z := by cases h; rfl
theorem Dt.non_inv {v : V} (h : Dt K B H v .none) : v = .non := by cases h; rfl
theorem Dt.str_inv {v : V} {z : Str} (h : Dt K B H v (.str z)) : v = .str z := by cases h; rfl
theorem Dt.lst_inv {v : V} {ds : List D} (h : Dt K B H v (.list ds)) : ∃ p xs, v = .ref p ∧ FzL B H p xs ∧ DtAll K B H xs ds := by cases h with | lst a b => exact ⟨_, _, rfl, a, b⟩
theorem Dt.tup_inv {v : V} {ds : List D} (h : Dt K B H v (.tuple ds)) : ∃ p xs, v = .ref p ∧ FzT K B H p xs ∧ DtAll K B H xs ds := by cases h with | tup a b => exact ⟨_, _, rfl, a, b⟩
theorem Dt.scr_inv {v : V} {kvs : List (D × D)} (h : Dt K B H v (.dict kvs)) : ∃ p xs ds, kvs = [(.none, .list ds)] ∧ v = .ref p ∧ SqL K H p xs ∧ DtAll K B H xs ds := by
  cases h with
  | scr a c => exact ⟨_, _, _, rfl, rfl, a.sq, c⟩
end
structure Root where
  fp : Hp → List Addr
  P : (Addr → Prop) → Hp → Prop
  mono : ∀ {B B' : Addr → Prop} {H H' : Hp}, Kp B H B' H' → (∀ p ∈ fp H, H' p = H p) → P B H → P B' H'
  same : ∀ {B B' : Addr → Prop} {H H' : Hp}, Kp B H B' H' → (∀ p ∈ fp H, H' p = H p) → P B H → fp H' = fp H
  occ : ∀ {B : Addr → Prop} {H : Hp}, P B H → ∀ p ∈ fp H, ∃ o, H p = some o
structure Og where
  B : Addr → Prop
  H : Hp
  fp : List Addr
def fps (C : List Root) (H : Hp) : List Addr := C.flatMap (·.fp H)
theorem fps_app (C F : List Root) (H : Hp) : fps (C ++ F) H = fps C H ++ fps F H := List.flatMap_append
theorem fps_cons (c : Root) (F : List Root) (H : Hp) : fps (c :: F) H = c.fp H ++ fps F H := rfl
theorem mem_fps {C : List Root} {c : Root} {p : Addr} {H : Hp} (h : c ∈ C) (hp : p ∈ c.fp H) : p ∈ fps C H := List.mem_flatMap.mpr ⟨c, h, hp⟩
theorem fps_same {C : List Root} {B B' : Addr → Prop} {H H' : Hp} (k : Kp B H B' H') : (∀ c ∈ C, c.P B H) → (∀ p ∈ fps C H, H' p = H p) → fps C H' = fps C H := by
  induction C with
  | nil => intro _ _; rfl
  | cons c C ih =>
    intro h e
    rw [fps_cons, fps_cons, c.same k (fun p hp => e p (by rw [fps_cons]; exact List.mem_append.mpr (.inl hp))) (h c (.head _)), ih (fun c' hc => h c' (.tail _ hc)) fun p hp => e p (by rw [fps_cons]; exact List.mem_append.mpr (.inr hp))]
structure Wb (K : PySem.W.Frag) (O : Og) (B : Addr → Prop) (L : List (V × D)) (C : List Root) (H : Hp) : Prop where
  lo : ∀ p, O.B p → B p
  hi : ∀ p, B p → O.B p ∨ O.H p = none
  nd : (fps C H).Nodup
  nb : ∀ p ∈ fps C H, ¬ B p
  fr : ∀ p ∈ fps C H, p ∈ O.fp ∨ O.H p = none
  rt : ∀ c ∈ C, c.P B H
  ft : ∀ f ∈ L, Dt K B H f.1 f.2
  kp : ∀ p o, p ∉ O.fp → O.H p = some o → H p = some o
  oc : ∀ p ∈ O.fp, ∃ o, H p = some o
  bo : ∀ p, B p → ∃ o, H p = some o
def Wd (K : PySem.W.Frag) (O : Og) (L : List (V × D)) (C : List Root) (H : Hp) : Prop := ∃ B, Wb K O B L C H
section
variable {K : PySem.W.Frag} {O : Og} {B : Addr → Prop} {L L' : List (V × D)} {C F : List Root} {H H' : Hp} {p : Addr}
theorem Wb.none (w : Wb K O B L C H) (h : H p = Option.none) : O.H p = Option.none := by
  cases e : O.H p with
  | none => rfl
  | some o =>
    by_cases hp : p ∈ O.fp
    · obtain ⟨u, hu⟩ := w.oc p hp
      rw [hu] at h; cases h
    · rw [w.kp p o hp e] at h; cases h
theorem Wb.free (w : Wb K O B L C H) (h : H p = Option.none) : p ∉ fps C H := fun hm => by
  obtain ⟨c, hc, hp⟩ := List.mem_flatMap.mp hm
  obtain ⟨o, ho⟩ := c.occ (w.rt c hc) p hp
  rw [ho] at h; cases h
theorem Wb.nofp (w : Wb K O B L C H) (h : H p = Option.none) : p ∉ O.fp := fun hm => by
  obtain ⟨o, ho⟩ := w.oc p hm
  rw [ho] at h; cases h
theorem Wd.sub (w : Wd K O L C H) (h : ∀ f ∈ L', f ∈ L) : Wd K O L' C H := by
  obtain ⟨B, w⟩ := w
  exact ⟨B, { w with ft := fun f hf => w.ft f (h f hf) }⟩
theorem Wd.dt (w : Wd K O L C H) {v : V} {d : D} (h : (v, d) ∈ L) : ∃ B, Dt K B H v d := by
  obtain ⟨B, w⟩ := w
  exact ⟨B, w.ft _ h⟩
/-- a frozen heap that grows -/
theorem Wb.grow {B' : Addr → Prop} (w : Wb K O B L C H) (s : Same H H') (h1 : ∀ p, B p → B' p) (h2 : ∀ p, B' p → B p ∨ (H p = Option.none ∧ ∃ o, H' p = some o)) : Wb K O B' L C H' := by
  have k : Kp B H B' H' := fun p o b e => ⟨h1 p b, s p o e⟩
  have hfp : ∀ c ∈ C, ∀ p ∈ c.fp H, H' p = H p := fun c hc p hp => by
    obtain ⟨o, ho⟩ := c.occ (w.rt c hc) p hp
    rw [ho]; exact s p o ho
  have es : fps C H' = fps C H := fps_same k w.rt fun p hp => by
    obtain ⟨c, hc, hp⟩ := List.mem_flatMap.mp hp
    exact hfp c hc p hp
  refine ⟨fun p b => h1 p (w.lo p b), fun p b => ?_, by rw [es]; exact w.nd, fun p hp b => ?_, fun p hp => w.fr p (by rw [← es]; exact hp), fun c hc => c.mono k (hfp c hc) (w.rt c hc), fun f hf => Dt.mono k _ _ (w.ft f hf), fun p o hp e => s p o (w.kp p o hp e), fun p hp => ?_, fun p b => ?_⟩
  · rcases h2 p b with b | n
    · exact w.hi p b
    · exact .inr (w.none n.1)
  · rw [es] at hp
    rcases h2 p b with b | n
    · exact w.nb p hp b
    · exact w.free n.1 hp
  · obtain ⟨o, ho⟩ := w.oc p hp
    exact ⟨o, s p o ho⟩
  · rcases h2 p b with b | n
    · obtain ⟨o, ho⟩ := w.bo p b
      exact ⟨o, s p o ho⟩
    · exact n.2
theorem Wb.same (w : Wb K O B L C H) (s : Same H H') : fps C H' = fps C H := by
  have k : Kp B H B H' := fun p o b e => ⟨b, s p o e⟩
  refine fps_same k w.rt fun p hp => ?_
  obtain ⟨c, hc, hp⟩ := List.mem_flatMap.mp hp
  obtain ⟨o, ho⟩ := c.occ (w.rt c hc) p hp
  rw [ho]; exact s p o ho
theorem Wb.fts (w : Wb K O B L C H) (h : ∀ f ∈ L', Dt K B H f.1 f.2) : Wb K O B L' C H := { w with ft := h }
theorem Wb.fact {v : V} {d : D} (w : Wb K O B L C H) (h : Dt K B H v d) : Wb K O B ((v, d) :: L) C H :=
  w.fts fun f hf => (List.mem_cons.mp hf).elim (fun e => by subst e; exact h) (w.ft f)
theorem Wd.facts (w : Wd K O L C H) {L2 : List (V × D)} (h : ∀ B, (∀ f ∈ L, Dt K B H f.1 f.2) → ∀ f ∈ L2, Dt K B H f.1 f.2) : Wd K O (L2 ++ L) C H := by
  obtain ⟨B, w⟩ := w
  exact ⟨B, w.fts fun f hf => (List.mem_append.mp hf).elim (h B w.ft f) (w.ft f)⟩
theorem Wd.fact (w : Wd K O L C H) {v : V} {d : D} (h : ∀ B, (∀ f ∈ L, Dt K B H f.1 f.2) → Dt K B H v d) : Wd K O ((v, d) :: L) C H := by
  obtain ⟨B, w⟩ := w
  exact ⟨B, w.fact (h B w.ft)⟩
inductive In2 (L : List (V × D)) : List V → List D → Prop
  | nil : In2 L [] []
  | cons {v : V} {d : D} {vs : List V} {ds : List D} : (v, d) ∈ L → In2 L vs ds → In2 L (v :: vs) (d :: ds)
theorem In2.mono (h : ∀ f ∈ L, f ∈ L') : ∀ {vs : List V} {ds : List D}, In2 L vs ds → In2 L' vs ds
  | _, _, .nil => .nil
  | _, _, .cons a b => .cons (h _ a) (In2.mono h b)
theorem In2.dt (h : ∀ f ∈ L, Dt K B H f.1 f.2) : ∀ {vs : List V} {ds : List D}, In2 L vs ds → DtAll K B H vs ds
  | _, _, .nil => .nil
  | _, _, .cons a b => .cons (h _ a) (In2.dt h b)
theorem In2.len : ∀ {vs : List V} {ds : List D}, In2 L vs ds → vs.length = ds.length
  | _, _, .nil => rfl
  | _, _, .cons a b => by rw [List.length_cons, List.length_cons, In2.len b]
/-- a new tuple, a new list, frozen -/
theorem Wd.new (w : Wd K O L C H) (hp : H p = Option.none) {o : HO} {d : D} (h : ∀ B, (∀ f ∈ L, Dt K B (upd H p o) f.1 f.2) → B p → Dt K B (upd H p o) (.ref p) d) : Wd K O ((.ref p, d) :: L) C (upd H p o) := by
  obtain ⟨B, w⟩ := w
  have s : Same H (upd H p o) := fun b u q => by rw [upd_ne (ne_of_none q hp)]; exact q
  have w2 := w.grow (B' := fun q => B q ∨ q = p) s (fun q b => .inl b) (fun q b => b.elim .inl fun e => .inr (by rw [e]; exact ⟨hp, _, upd_same⟩))
  exact ⟨_, w2.fact (h _ w2.ft (.inr rfl))⟩
theorem Wd.tup (w : Wd K O L C H) (hp : H p = Option.none) {vs : List V} {ds : List D} (h : In2 L vs ds) : Wd K O ((.ref p, .tuple ds) :: L) C (upd H p (.tup vs)) :=
  w.new hp fun _ f b => .tup (.inl ⟨b, .inl upd_same⟩) (h.dt f)
theorem Wd.lst (w : Wd K O L C H) (hp : H p = Option.none) {vs : List V} {ds : List D} (h : In2 L vs ds) : Wd K O ((.ref p, .list ds) :: L) C (upd H p (.lst vs)) :=
  w.new hp fun _ f b => .lst ⟨b, upd_same⟩ (h.dt f)
theorem Wb.lstD (w : Wb K O B L C H) (hp : H p = Option.none) {vs : List V} {ds : List D} (h : DtAll K B H vs ds) : Wd K O ((.ref p, .list ds) :: L) C (upd H p (.lst vs)) := by
  have s : Same H (upd H p (.lst vs)) := fun b u q => by rw [upd_ne (ne_of_none q hp)]; exact q
  have w2 := w.grow (B' := fun q => B q ∨ q = p) s (fun q b => .inl b) (fun q b => b.elim .inl fun e => .inr (by rw [e]; exact ⟨hp, _, upd_same⟩))
  exact ⟨_, w2.fact (.lst ⟨.inr rfl, upd_same⟩ (Dt.monoAll (B := B) (H := H) (fun q o b e => ⟨.inl b, s q o e⟩) _ _ h))⟩
theorem Wb.tupD (w : Wb K O B L C H) (hp : H p = Option.none) {vs : List V} {ds : List D} (h : DtAll K B H vs ds) : Wd K O ((.ref p, .tuple ds) :: L) C (upd H p (.tup vs)) := by
  have s : Same H (upd H p (.tup vs)) := fun b u q => by rw [upd_ne (ne_of_none q hp)]; exact q
  have w2 := w.grow (B' := fun q => B q ∨ q = p) s (fun q b => .inl b) (fun q b => b.elim .inl fun e => .inr (by rw [e]; exact ⟨hp, _, upd_same⟩))
  exact ⟨_, w2.fact (.tup (.inl ⟨.inr rfl, .inl upd_same⟩) (Dt.monoAll (B := B) (H := H) (fun q o b e => ⟨.inl b, s q o e⟩) _ _ h))⟩
/-- a list at a, its items frozen; the data is .list ds -/
def rootL (K : PySem.W.Frag) (a : Addr) (d : D) : Root where
  fp := fun _ => [a]
  same := fun _ _ _ => rfl
  P := fun B H => ∃ ds vs, d = .list ds ∧ H a = some (.lst vs) ∧ DtAll K B H vs ds
  mono := fun k e h => by
    obtain ⟨ds, vs, h1, h2, h3⟩ := h
    exact ⟨ds, vs, h1, by rw [e a (.head _)]; exact h2, Dt.monoAll k _ _ h3⟩
  occ := fun h q hq => by
    obtain ⟨ds, vs, h1, h2, h3⟩ := h
    rw [List.mem_singleton] at hq
    subst hq
    exact ⟨_, h2⟩
/-- a new root -/
theorem Wd.root (w : Wd K O L C H) (hp : H p = Option.none) {vs : List V} {ds : List D} (h : In2 L vs ds) : Wd K O L (rootL K p (.list ds) :: C) (upd H p (.lst vs)) := by
  obtain ⟨B, w⟩ := w
  have s : Same H (upd H p (.lst vs)) := fun b u q => by rw [upd_ne (ne_of_none q hp)]; exact q
  have w2 := w.grow (B' := B) s (fun q b => b) (fun q b => .inl b)
  have nb : ¬ B p := fun b => by
    obtain ⟨o, ho⟩ := w.bo p b
    rw [ho] at hp; cases hp
  have es := w.same s
  refine ⟨B, w2.lo, w2.hi, ?_, ?_, ?_, ?_, w2.ft, w2.kp, w2.oc, w2.bo⟩
  · rw [fps_cons]
    exact List.nodup_cons.mpr ⟨by rw [show ([] : List Addr).append (fps C (upd H p (HO.lst vs))) = fps C (upd H p (HO.lst vs)) from rfl, es]; exact w.free hp, w2.nd⟩
  · intro q hq
    rw [fps_cons] at hq
    rcases List.mem_cons.mp hq with e | e
    · subst e; exact nb
    · exact w2.nb q e
  · intro q hq
    rw [fps_cons] at hq
    rcases List.mem_cons.mp hq with e | e
    · subst e; exact .inr (w.none hp)
    · exact w2.fr q e
  · intro c hc
    rcases List.mem_cons.mp hc with e | e
    · subst e; exact ⟨ds, vs, rfl, upd_same, h.dt w2.ft⟩
    · exact w2.rt c e
/-- the first root gets other items -/
theorem Wd.put {a : Addr} {d : D} {ds : List D} {vs : List V} (w : Wd K O L (rootL K a d :: C) H) (h : ∀ B, (∀ f ∈ L, Dt K B H f.1 f.2) → (rootL K a d).P B H → DtAll K B H vs ds) : Wd K O L (rootL K a (.list ds) :: C) (upd H a (.lst vs)) := by
  obtain ⟨B, w⟩ := w
  have ha : ¬ B a := w.nb a (by rw [fps_cons]; exact .head _)
  obtain ⟨_, vs0, _, h0, _⟩ := w.rt _ (.head _)
  have k : Kp B H B (upd H a (.lst vs)) := fun q o b e => ⟨b, by rw [upd_ne (fun z => ha (by rw [← z]; exact b))]; exact e⟩
  have hnd := w.nd
  rw [fps_cons] at hnd
  have hna : a ∉ fps C H := (List.nodup_cons.mp hnd).1
  have es : fps (rootL K a (.list ds) :: C) (upd H a (.lst vs)) = fps (rootL K a d :: C) H := by
    rw [fps_cons, fps_cons, fps_same k (fun c hc => w.rt c (.tail _ hc)) fun q hq => upd_ne fun z => hna (by rw [← z]; exact hq)]; rfl
  refine ⟨B, w.lo, w.hi, by rw [es]; exact w.nd, fun p hp => w.nb p (by rw [← es]; exact hp), fun p hp => w.fr p (by rw [← es]; exact hp), ?_, fun f hf => Dt.mono k _ _ (w.ft f hf), ?_, ?_, ?_⟩
  · intro c hc
    rcases List.mem_cons.mp hc with e | e
    · subst e
      exact ⟨ds, vs, rfl, upd_same, Dt.monoAll k _ _ (h B w.ft (w.rt _ (.head _)))⟩
    · refine c.mono k (fun q hq => upd_ne fun z => hna ?_) (w.rt c (.tail _ e))
      rw [← z]; exact mem_fps e hq
  · intro q o hq e
    by_cases z : q = a
    · subst z
      rcases w.fr q (by rw [fps_cons]; exact .head _) with y | y
      · exact absurd y hq
      · rw [y] at e; cases e
    · rw [upd_ne z]; exact w.kp q o hq e
  · intro q hq
    by_cases z : q = a
    · subst z; exact ⟨_, upd_same⟩
    · rw [upd_ne z]; exact w.oc q hq
  · intro q b
    rw [upd_ne (fun z => ha (by rw [← z]; exact b))]
    exact w.bo q b
/-- the first root, made by this def, is frozen -/
theorem Wd.freeze {a : Addr} {d : D} (w : Wd K O L (rootL K a d :: C) H) (ha : a ∉ O.fp) : Wd K O ((.ref a, d) :: L) C H := by
  obtain ⟨B, w⟩ := w
  have hnd := w.nd
  rw [fps_cons] at hnd
  have hna : a ∉ fps C H := (List.nodup_cons.mp hnd).1
  obtain ⟨ds, vs, rfl, h0, h1⟩ := w.rt _ (.head _)
  have k : Kp B H (fun q => B q ∨ q = a) H := fun q o b e => ⟨.inl b, e⟩
  have w2 : Wb K O (fun q => B q ∨ q = a) L C H := by
    refine ⟨fun p b => .inl (w.lo p b), fun p b => ?_, (List.nodup_cons.mp hnd).2, fun p hp b => ?_, fun p hp => w.fr p (by rw [fps_cons]; exact .tail _ hp), fun c hc => c.mono k (fun _ _ => rfl) (w.rt c (.tail _ hc)), fun f hf => Dt.mono k _ _ (w.ft f hf), w.kp, w.oc, fun p b => ?_⟩
    · rcases b with b | e
      · exact w.hi p b
      · rw [e]
        exact .inr ((w.fr a (by rw [fps_cons]; exact .head _)).resolve_left ha)
    · rcases b with b | e
      · exact w.nb p (by rw [fps_cons]; exact .tail _ hp) b
      · rw [e] at hp; exact hna hp
    · rcases b with b | e
      · exact w.bo p b
      · rw [e]; exact ⟨_, h0⟩
  exact ⟨_, w2.fact (.lst ⟨.inr rfl, h0⟩ (Dt.monoAll k _ _ h1))⟩
/-- roots may be taken in another order -/
theorem Wd.perm {C' : List Root} (w : Wd K O L C H) (h : C.Perm C') : Wd K O L C' H := by
  obtain ⟨B, w⟩ := w
  have hp : (fps C H).Perm (fps C' H) := h.flatMap_right _
  exact ⟨B, w.lo, w.hi, hp.nodup_iff.mp w.nd, fun p hq => w.nb p (hp.mem_iff.mpr hq), fun p hq => w.fr p (hp.mem_iff.mpr hq), fun c hc => w.rt c (h.mem_iff.mpr hc), w.ft, w.kp, w.oc, w.bo⟩
end
/-- no more is said of an exception -/
def noR : Root where
  fp := fun _ => []
  same := fun _ _ _ => rfl
  P := fun _ _ => True
  mono := fun _ _ h => h
  occ := fun _ p hp => by cases hp
def noX : D → Value → Option Addr → Root := fun _ _ _ => noR
structure Gx where
  K : PySem.W.Frag
  O : Og
  Xk : XK
  XR : D → Value → Option Addr → Root
  rf : V → D → List (V × D) → List Root → Prop
/-- what is returned is frozen; a fresh list -/
def rfF : V → D → List (V × D) → List Root → Prop := fun v x L1 C1 => L1 = [(v, x)] ∧ C1 = []
section
variable {μ : Type} (G : Gx)
def Bk {α : Type} (C : μ → List Root) (F : List Root) (L : List (V × D)) (r : Rs μ α) : Prop :=
  (∀ e m' cls d H', r = .exc e m' → Wd G.K G.O L (G.XR e cls d :: (C m' ++ F)) H' → G.Xk cls d H') ∧ r ≠ .bad
def EV (te : TE) (σ : St) (L : List (V × D)) (C : μ → List Root) (E : SM μ D) : Prop :=
  ∀ m F L' H Q, (∀ f ∈ L, f ∈ L') → Wd G.K G.O L' (C m ++ F) H →
    (∀ x m' v H', E m = .ok x m' → Wd G.K G.O ((v, x) :: L') (C m' ++ F) H' → Q v H') → Bk G C F L' (E m) → te σ H Q
def TV (tt : TT) (σ : St) (L : List (V × D)) (C : μ → List Root) (E : SM μ Bool) : Prop :=
  ∀ m F L' H Q, (∀ f ∈ L, f ∈ L') → Wd G.K G.O L' (C m ++ F) H →
    (∀ x m' H', E m = .ok x m' → Wd G.K G.O L' (C m' ++ F) H' → Q x H') → Bk G C F L' (E m) → tt σ H Q
def AV (ta : TA) (σ : St) (L : List (V × D)) (C : μ → List Root) (E : SM μ (List D)) : Prop :=
  ∀ m F L' H Q, (∀ f ∈ L, f ∈ L') → Wd G.K G.O L' (C m ++ F) H →
    (∀ xs m' vs H' L2, E m = .ok xs m' → (∀ f ∈ L', f ∈ L2) → In2 L2 vs xs → Wd G.K G.O L2 (C m' ++ F) H' → Q vs H') → Bk G C F L' (E m) → ta σ H Q
/-- a root of which data is told where it stands: read only -/
def OpS (r : R2) (f : D → D → Option D) : Prop := ∀ (L : List (V × D)) (C : List Root) (H : Hp) (x y : V) (d e z : D) (Q : VK),
  Wd G.K G.O L C H → (x, d) ∈ L → (y, e) ∈ L → f d e = some z → (∀ v H', Wd G.K G.O ((v, z) :: L) C H' → Q v H') → r x y H Q
def UnS (r : V → Hp → VK → Prop) (f : D → Option D) : Prop := ∀ (L : List (V × D)) (C : List Root) (H : Hp) (x : V) (d z : D) (Q : VK),
  Wd G.K G.O L C H → (x, d) ∈ L → f d = some z → (∀ v H', Wd G.K G.O ((v, z) :: L) C H' → Q v H') → r x H Q
def CallS (r : List V → Hp → VK → Prop) (f : List D → Option D) : Prop := ∀ (L : List (V × D)) (C : List Root) (H : Hp) (xs : List V) (ds : List D) (z : D) (Q : VK),
  Wd G.K G.O L C H → In2 L xs ds → f ds = some z → (∀ v H', Wd G.K G.O ((v, z) :: L) C H' → Q v H') → r xs H Q
end
namespace SM
variable {μ : Type}
def op2 (f : D → D → Option D) (E1 E2 : SM μ D) : SM μ D := bd E1 fun x => bd E2 fun y => of (f x y)
def op1 (f : D → Option D) (E1 : SM μ D) : SM μ D := bd E1 fun x => of (f x)
def opL (f : List D → Option D) (E1 : SM μ (List D)) : SM μ D := bd E1 fun x => of (f x)
def a0 : SM μ (List D) := pu []
def ac (E : SM μ D) (Es : SM μ (List D)) : SM μ (List D) := bd E fun x => bd Es fun xs => pu (x :: xs)
def boolD : D → Option Bool
  | .bool b => some b
  | _ => none
def truD : D → Option Bool
  | .none => some false
  | .bool b => some b
  | .int i => some (i != 0)
  | .str x => if x.length ≤ sizeLine then some ((x.length : Int) != 0) else none
  | .list xs => some (!xs.isEmpty)
  | .tuple xs => some (!xs.isEmpty)
  | .dict _ => none
/-- a test by a truth; by any value -/
def tb (E : SM μ D) : SM μ Bool := bd E fun x => of (boolD x)
def tr (E : SM μ D) : SM μ Bool := bd E fun x => of (truD x)
def tand (E1 E2 : SM μ Bool) : SM μ Bool := bd E1 fun c => if c then E2 else pu false
def tor (E1 E2 : SM μ Bool) : SM μ Bool := bd E1 fun c => if c then pu true else E2
def tnot (E1 : SM μ Bool) : SM μ Bool := bd E1 fun c => pu (!c)
def eand (E1 E2 : SM μ D) : SM μ D := bd (tb E1) fun c => if c then E2 else pu (.bool false)
def eor (E1 E2 : SM μ D) : SM μ D := bd (tb E1) fun c => if c then pu (.bool true) else E2
def enot (E1 : SM μ D) : SM μ D := bd (tb E1) fun c => pu (.bool (!c))
def eif (T : SM μ Bool) (E1 E2 : SM μ D) : SM μ D := bd T fun c => if c then E1 else E2
def chain (f g : D → D → Option D) (E1 E2 E3 : SM μ D) : SM μ D := bd E1 fun x => bd E2 fun y => bd (tb (of (f x y))) fun c => if c then bd E3 fun z => of (g y z) else pu (.bool false)
def tupD (xs : List D) : Option D := if xs.length ≤ sizeLine then some (.tuple xs) else none
def lstD (xs : List D) : Option D := if xs.length ≤ sizeLine then some (.list xs) else none
end SM
section
open SM
variable {μ : Type} {G : Gx} {σ : St} {L : List (V × D)} {C : μ → List Root} {te ta tb tc : TE} {tt tu : TT} {E E1 E2 E3 : SM μ D} {T T1 T2 : SM μ Bool}
theorem Bk.exc {α β : Type} {C : μ → List Root} {F : List Root} {L : List (V × D)} {e : D} {m : μ} (h : Bk G C F L (.exc e m : Rs μ α)) : Bk G C F L (.exc e m : Rs μ β) := ⟨fun e' m' cls d H' q => h.1 e' m' cls d H' (by cases q; rfl), fun z => by cases z⟩
theorem Bk.mono {α : Type} {C : μ → List Root} {F : List Root} {L L' : List (V × D)} {r : Rs μ α} (h : Bk G C F L r) (s : ∀ f ∈ L, f ∈ L') : Bk G C F L' r := ⟨fun e m' cls d H' q w => h.1 e m' cls d H' q (w.sub s), h.2⟩
/-- the first part of a thing done in two -/
theorem Bk.fst {α β : Type} {C : μ → List Root} {F : List Root} {L : List (V × D)} {x : SM μ α} {f : α → SM μ β} {m : μ} (h : Bk G C F L (bd x f m)) : Bk G C F L (x m) := by
  refine ⟨fun e m' cls d H' q => h.1 e m' cls d H' (bd_exc q), fun z => h.2 (bd_bad z)⟩
theorem Bk.snd {α β : Type} {C : μ → List Root} {F : List Root} {L : List (V × D)} {x : SM μ α} {f : α → SM μ β} {m m' : μ} {a : α} (h : Bk G C F L (bd x f m)) (e : x m = .ok a m') : Bk G C F L (f a m') := by
  rw [bd_ok e] at h
  exact h
theorem bk_ok {α : Type} {C : μ → List Root} {F : List Root} {L : List (V × D)} {a : α} {m : μ} : Bk G C F L (.ok a m : Rs μ α) := ⟨fun _ _ _ _ _ q => (by cases q), fun q => (by cases q)⟩
theorem ev_var {i : Nat} {v : V} {d : D} (h : σ[i]? = some (some v)) (hm : (v, d) ∈ L) : EV G (tVar i) σ L C (pu d) := fun m F L' H Q s w q _ =>
  ⟨v, h, q d m v H rfl (w.fact fun _ f => f _ (s _ hm))⟩
theorem ev_int {i : Int} : EV G (tC (.int i)) σ L C (pu (.int i)) := fun m F L' H Q s w q _ => q _ m _ H rfl (w.fact fun _ _ => .int i)
theorem ev_bl {b : Bool} : EV G (tC (.bl b)) σ L C (pu (.bool b)) := fun m F L' H Q s w q _ => q _ m _ H rfl (w.fact fun _ _ => .bl b)
theorem ev_non : EV G (tC .non) σ L C (pu .none) := fun m F L' H Q s w q _ => q _ m _ H rfl (w.fact fun _ _ => .non)
theorem ev_str {x : Str} : EV G (tC (.str x)) σ L C (pu (.str x)) := fun m F L' H Q s w q _ => q _ m _ H rfl (w.fact fun _ _ => .str x)
theorem ev_op {r : R2} {f : D → D → Option D} (hf : OpS G r f) (h1 : EV G ta σ L C E1) (h2 : EV G tb σ L C E2) : EV G (tOp r ta tb) σ L C (op2 f E1 E2) := by
  intro m F L' H Q s w q b
  refine h1 m F L' H _ s w (fun x m1 v H1 e1 w1 => ?_) b.fst
  have b1 := b.snd e1
  refine h2 m1 F ((v, x) :: L') H1 _ (fun f hf => .tail _ (s f hf)) w1 (fun y m2 u H2 e2 w2 => ?_) (b1.fst.mono fun f hf => .tail _ hf)
  have b2 := b1.snd e2
  cases ef : f x y with
  | none => rw [ef] at b2; exact absurd rfl b2.2
  | some z =>
    refine hf _ _ H2 v u x y z Q w2 (.tail _ (.head _)) (.head _) ef fun v' H' w' => q z m2 v' H' ?_ (w'.sub fun f hf => ?_)
    · show bd E1 _ m = _
      rw [bd_ok e1, bd_ok e2, ef]; rfl
    · rcases List.mem_cons.mp hf with e | e
      · rw [e]; exact .head _
      · exact .tail _ (.tail _ (.tail _ e))
theorem ev_un {r : V → Hp → VK → Prop} {f : D → Option D} (hf : UnS G r f) (h1 : EV G ta σ L C E1) : EV G (tUn r ta) σ L C (op1 f E1) := by
  intro m F L' H Q s w q b
  refine h1 m F L' H _ s w (fun x m1 v H1 e1 w1 => ?_) b.fst
  have b1 := b.snd e1
  cases ef : f x with
  | none => rw [ef] at b1; exact absurd rfl b1.2
  | some z =>
    refine hf _ _ H1 v x z Q w1 (.head _) ef fun v' H' w' => q z m1 v' H' ?_ (w'.sub fun f hf => ?_)
    · show bd E1 _ m = _
      rw [bd_ok e1, ef]; rfl
    · rcases List.mem_cons.mp hf with e | e
      · rw [e]; exact .head _
      · exact .tail _ (.tail _ e)
theorem av_nil : AV G tNil σ L C (a0 : SM μ (List D)) := fun m F L' H Q s w q _ => q [] m [] H L' rfl (fun _ h => h) .nil w
theorem av_cons {tr : TA} {Es : SM μ (List D)} (h1 : EV G ta σ L C E1) (h2 : AV G tr σ L C Es) : AV G (tCons ta tr) σ L C (ac E1 Es) := by
  intro m F L' H Q s w q b
  refine h1 m F L' H _ s w (fun x m1 v H1 e1 w1 => ?_) b.fst
  have b1 := b.snd e1
  refine h2 m1 F ((v, x) :: L') H1 _ (fun f hf => .tail _ (s f hf)) w1 (fun ys m2 us H2 L2 e2 s2 i2 w2 => ?_) (b1.fst.mono fun f hf => .tail _ hf)
  refine q (x :: ys) m2 (v :: us) H2 L2 ?_ (fun f hf => s2 f (.tail _ hf)) (.cons (s2 _ (.head _)) i2) w2
  show bd E1 _ m = _
  rw [bd_ok e1, bd_ok e2]; rfl
theorem ev_args {ta : TA} {Es : SM μ (List D)} {te : TE} {f : List D → Option D} {r : List V → Hp → VK → Prop} (hf : CallS G r f) (h : AV G ta σ L C Es) (ht : te = fun σ H Q => ta σ H fun vs H1 => r vs H1 Q) : EV G te σ L C (opL f Es) := by
  subst ht
  intro m F L' H Q s w q b
  refine h m F L' H _ s w (fun xs m1 vs H1 L2 e1 s2 i2 w1 => ?_) b.fst
  have b1 := b.snd e1
  cases ef : f xs with
  | none => rw [ef] at b1; exact absurd rfl b1.2
  | some z =>
    refine hf _ _ H1 vs xs z Q w1 i2 ef fun v' H' w' => q z m1 v' H' ?_ (w'.sub fun f hf => ?_)
    · show bd Es _ m = _
      rw [bd_ok e1, ef]; rfl
    · rcases List.mem_cons.mp hf with e | e
      · rw [e]; exact .head _
      · exact .tail _ (s2 _ e)
theorem ev_cb {ta : TA} {Es : SM μ (List D)} {f : List D → Option D} {r : List V → Hp → VK → Prop} (hf : CallS G r f) (h : AV G ta σ L C Es) : EV G (tCB r ta) σ L C (opL f Es) := ev_args hf h rfl
theorem cs_tup : CallS G (fun xs H Q => xs.length ≤ sizeLine ∧ ∀ p, H p = none → Q (.ref p) (upd H p (.tup xs))) tupD := by
  intro L C H xs ds z Q w i e q
  unfold tupD at e
  split at e
  · cases e
    refine ⟨by rw [i.len]; assumption, fun p hp => q _ _ (w.tup hp i)⟩
  · cases e
theorem cs_lst : CallS G (fun xs H Q => xs.length ≤ sizeLine ∧ ∀ p, H p = none → Q (.ref p) (upd H p (.lst xs))) lstD := by
  intro L C H xs ds z Q w i e q
  unfold lstD at e
  split at e
  · cases e
    refine ⟨by rw [i.len]; assumption, fun p hp => q _ _ (w.lst hp i)⟩
  · cases e
theorem ev_tup {ta : TA} {Es : SM μ (List D)} (h : AV G ta σ L C Es) : EV G (tTup ta) σ L C (opL tupD Es) := ev_args cs_tup h rfl
theorem ev_lst {ta : TA} {Es : SM μ (List D)} (h : AV G ta σ L C Es) : EV G (tLst ta) σ L C (opL lstD Es) := ev_args cs_lst h rfl
theorem boolD_some {x : D} {b : Bool} (h : boolD x = some b) : x = .bool b := by
  cases x <;> simp [boolD] at h
  rw [h]
theorem tv_of {tt : TT} (h1 : EV G te σ L C E) (ht : tt = fun σ H Q => te σ H fun x H1 => ∃ k, x = .bl k ∧ Q k H1) : TV G tt σ L C (SM.tb E) := by
  subst ht
  intro m F L' H Q s w q b
  refine h1 m F L' H _ s w (fun x m1 v H1 e1 w1 => ?_) b.fst
  have b1 := b.snd e1
  cases ef : boolD x with
  | none => rw [ef] at b1; exact absurd rfl b1.2
  | some z =>
    have ex := boolD_some ef
    subst ex
    obtain ⟨B, hd⟩ := w1.dt (.head _)
    refine ⟨z, hd.bl_inv, q z m1 H1 ?_ (w1.sub fun f hf => .tail _ hf)⟩
    show bd E _ m = _
    rw [bd_ok e1]; rfl
theorem tv_test (h1 : EV G te σ L C E) : TV G (tTest te) σ L C (SM.tb E) := tv_of h1 rfl
theorem isEmpty_dt {K : PySem.W.Frag} {B : Addr → Prop} {H : Hp} {vs : List V} {ds : List D} (h : DtAll K B H vs ds) : vs.isEmpty = ds.isEmpty := by cases h <;> rfl
theorem tru_of {K : PySem.W.Frag} {B : Addr → Prop} {H : Hp} {v : V} {d : D} {k : Bool} (h : Dt K B H v d) (e : truD d = some k) : TruV K v H k := by
  cases h with
  | non => cases e; rfl
  | bl z => cases e; rfl
  | int i => cases e; rfl
  | str x =>
    simp only [truD] at e
    split at e
    · cases e; exact ⟨by assumption, rfl⟩
    · cases e
  | lst a b => cases e; exact .inl ⟨_, a.sq, by rw [isEmpty_dt b]⟩
  | tup a b => cases e; exact .inr (.inl ⟨_, a.sq, by rw [isEmpty_dt b]⟩)
  | scr a c => cases e
theorem tv_tr (h1 : EV G te σ L C E) : TV G (fun σ H Q => te σ H fun x H' => ∃ k, TruV G.K x H' k ∧ Q k H') σ L C (SM.tr E) := by
  intro m F L' H Q s w q b
  refine h1 m F L' H _ s w (fun x m1 v H1 e1 w1 => ?_) b.fst
  have b1 := b.snd e1
  cases ef : truD x with
  | none => rw [ef] at b1; exact absurd rfl b1.2
  | some z =>
    obtain ⟨B, hd⟩ := w1.dt (.head _)
    refine ⟨z, tru_of hd ef, q z m1 H1 ?_ (w1.sub fun f hf => .tail _ hf)⟩
    show bd E _ m = _
    rw [bd_ok e1, ef]; rfl
theorem tv_and (h1 : TV G tt σ L C T1) (h2 : TV G tu σ L C T2) : TV G (tAnd tt tu) σ L C (tand T1 T2) := by
  intro m F L' H Q s w q b
  refine h1 m F L' H _ s w (fun x m1 H1 e1 w1 => ?_) b.fst
  have b1 := b.snd e1
  have er : tand T1 T2 m = (if x then T2 else pu false) m1 := bd_ok e1
  cases x with
  | true =>
    show if true = true then tu σ H1 Q else _
    rw [if_pos rfl]
    exact h2 m1 F L' H1 Q s w1 (fun y m2 H2 e2 w2 => q y m2 H2 (er.trans e2) w2) b1
  | false => exact q false m1 H1 er w1
theorem tv_or (h1 : TV G tt σ L C T1) (h2 : TV G tu σ L C T2) : TV G (tOr tt tu) σ L C (tor T1 T2) := by
  intro m F L' H Q s w q b
  refine h1 m F L' H _ s w (fun x m1 H1 e1 w1 => ?_) b.fst
  have b1 := b.snd e1
  have er : tor T1 T2 m = (if x then pu true else T2) m1 := bd_ok e1
  cases x with
  | false =>
    show if false = true then _ else tu σ H1 Q
    rw [if_neg (by decide)]
    exact h2 m1 F L' H1 Q s w1 (fun y m2 H2 e2 w2 => q y m2 H2 (er.trans e2) w2) b1
  | true => exact q true m1 H1 er w1
theorem tv_not (h1 : TV G tt σ L C T1) : TV G (tNot tt) σ L C (tnot T1) := by
  intro m F L' H Q s w q b
  refine h1 m F L' H _ s w (fun x m1 H1 e1 w1 => q (!x) m1 H1 ?_ w1) b.fst
  show bd T1 _ m = _
  rw [bd_ok e1]; rfl
/-- the value of a truth -/
theorem ev_tb (h1 : EV G te σ L C E) (m : μ) (F : List Root) (L' : List (V × D)) (H : Hp) (Q : VK) (s : ∀ f ∈ L, f ∈ L') (w : Wd G.K G.O L' (C m ++ F) H)
    (q : ∀ c m' H', SM.tb E m = .ok c m' → Wd G.K G.O ((.bl c, .bool c) :: L') (C m' ++ F) H' → Q (.bl c) H') (b : Bk G C F L' (SM.tb E m)) : te σ H Q := by
  refine h1 m F L' H _ s w (fun x m1 v H1 e1 w1 => ?_) b.fst
  have b1 := b.snd e1
  cases ef : boolD x with
  | none => rw [ef] at b1; exact absurd rfl b1.2
  | some z =>
    have ex := boolD_some ef
    subst ex
    obtain ⟨B, hd⟩ := w1.dt (.head _)
    have hv := hd.bl_inv
    subst hv
    refine q z m1 H1 ?_ w1
    show bd E _ m = _
    rw [bd_ok e1]; rfl
theorem ev_and (h1 : EV G ta σ L C E1) (h2 : EV G tb σ L C E2) : EV G (tAndV ta tb) σ L C (eand E1 E2) := by
  intro m F L' H Q s w q b
  refine ev_tb h1 m F L' H _ s w (fun c m1 H1 e1 w1 => ⟨c, rfl, ?_⟩) b.fst
  have b1 := b.snd e1
  have er : eand E1 E2 m = (if c then E2 else pu (.bool false)) m1 := bd_ok e1
  have w2 : Wd G.K G.O L' (C m1 ++ F) H1 := w1.sub fun f hf => .tail _ hf
  cases c with
  | true => exact h2 m1 F L' H1 Q s w2 (fun y m2 v H2 e2 w3 => q y m2 v H2 (er.trans e2) w3) b1
  | false => exact q _ m1 _ H1 er w1
theorem ev_if (h : TV G tt σ L C T) (h1 : EV G ta σ L C E1) (h2 : EV G tb σ L C E2) : EV G (tIf tt ta tb) σ L C (eif T E1 E2) := by
  intro m F L' H Q s w q b
  refine h m F L' H _ s w (fun c m1 H1 e1 w1 => ?_) b.fst
  have b1 := b.snd e1
  have er : eif T E1 E2 m = (if c then E1 else E2) m1 := bd_ok e1
  cases c with
  | true => exact h1 m1 F L' H1 Q s w1 (fun y m2 v H2 e2 w3 => q y m2 v H2 (er.trans e2) w3) b1
  | false => exact h2 m1 F L' H1 Q s w1 (fun y m2 v H2 e2 w3 => q y m2 v H2 (er.trans e2) w3) b1
theorem ev_chain {r r' : R2} {f g : D → D → Option D} (hf : OpS G r f) (hg : OpS G r' g) (h1 : EV G ta σ L C E1) (h2 : EV G tb σ L C E2) (h3 : EV G tc σ L C E3) : EV G (tChain r r' ta tb tc) σ L C (chain f g E1 E2 E3) := by
  intro m F L' H Q s w q b
  refine h1 m F L' H _ s w (fun x m1 v H1 e1 w1 => ?_) b.fst
  have b1 := b.snd e1
  refine h2 m1 F ((v, x) :: L') H1 _ (fun f hf => .tail _ (s f hf)) w1 (fun y m2 u H2 e2 w2 => ?_) (b1.fst.mono fun f hf => .tail _ hf)
  have b2 := b1.snd e2
  have er : chain f g E1 E2 E3 m = bd (SM.tb (of (f x y))) (fun c => if c then bd E3 fun z => of (g y z) else pu (.bool false)) m2 := by
    show bd E1 _ m = _
    rw [bd_ok e1, bd_ok e2]
  cases ef : f x y with
  | none => rw [ef] at b2; exact absurd rfl b2.2
  | some k =>
    rw [ef] at b2 er
    refine hf _ _ H2 v u x y k _ w2 (.tail _ (.head _)) (.head _) ef fun v' H' w' => ?_
    cases ek : boolD k with
    | none =>
      refine absurd ?_ b2.2
      show bd (bd (pu k) fun x => of (boolD x)) _ m2 = _
      rw [pu_bd, ek]; rfl
    | some c =>
      have ex := boolD_some ek
      subst ex
      obtain ⟨B, hd⟩ := w'.dt (.head _)
      have hv := hd.bl_inv
      subst hv
      refine ⟨c, rfl, ?_⟩
      have er2 : chain f g E1 E2 E3 m = (if c then bd E3 fun z => of (g y z) else pu (.bool false)) m2 := er
      have b3 : Bk G C F L' ((if c then bd E3 fun z => of (g y z) else pu (.bool false)) m2) := b2
      cases c with
      | false =>
        refine q _ m2 _ H' er2 (w'.sub fun f hf => ?_)
        rcases List.mem_cons.mp hf with e | e
        · rw [e]; exact .head _
        · exact .tail _ (.tail _ (.tail _ e))
      | true =>
        refine h3 m2 F _ H' _ (fun f hf => .tail _ (.tail _ (.tail _ (s f hf)))) w' (fun z m3 u3 H3 e3 w3 => ?_) (b3.fst.mono fun f hf => .tail _ (.tail _ (.tail _ hf)))
        have b4 := b3.snd e3
        cases eg : g y z with
        | none => rw [eg] at b4; exact absurd rfl b4.2
        | some k2 =>
          refine hg _ _ H3 u u3 y z k2 Q w3 (.tail _ (.tail _ (.head _))) (.head _) eg fun v' H' w' => q k2 m3 v' H' ?_ (w'.sub fun f hf => ?_)
          · rw [er2]
            show bd E3 _ m2 = _
            rw [bd_ok e3, eg]; rfl
          · rcases List.mem_cons.mp hf with e | e
            · rw [e]; exact .head _
            · exact .tail _ (.tail _ (.tail _ (.tail _ (.tail _ e))))
end
namespace SM
def fit (i : Int) : Bool := decide (i.natAbs.log2 < 50000000)
def addD : D → D → Option D
  | .int a, .int b => some (.int (a + b))
  | .list a, .list b => if a.length + b.length ≤ sizeLine then some (.list (a ++ b)) else none
  | .dict [(.none, .list a)], .list b => if a.length + b.length ≤ sizeLine then some (.list (a ++ b)) else none
  | .tuple a, .tuple b => if a ≠ [] ∧ b ≠ [] ∧ a.length + b.length ≤ sizeLine then some (.tuple (a ++ b)) else none
  | .str a, .str b => if a.length + b.length ≤ sizeLine then some (.str (a ++ b)) else none
  | _, _ => none
def subD : D → D → Option D
  | .int a, .int b => some (.int (a - b))
  | _, _ => none
def mulD : D → D → Option D
  | .int a, .int b => if fit a && fit b then some (.int (a * b)) else none
  | .list a, .int k => if -(2 ^ 63) ≤ k ∧ k < 2 ^ 63 ∧ a.length * k.toNat ≤ sizeLine then some (.list (List.replicate k.toNat a).flatten) else none
  | _, _ => none
def fdivD : D → D → Option D
  | .int a, .int b => if 0 < b ∧ b.natAbs.log2 < 9000 then some (.int (a / b)) else if b < 0 ∧ b.natAbs < 1073741824 then some (.int (a.fdiv b)) else none
  | _, _ => none
def modD : D → D → Option D
  | .int a, .int b => if 0 < b then some (.int (a % b)) else none
  | _, _ => none
def powD : D → D → Option D
  | .int a, .int b => if 0 ≤ b ∧ b ≤ 1000000 ∧ a.natAbs < 2 ^ 64 then some (.int (a ^ b.toNat)) else none
  | _, _ => none
def shlD : D → D → Option D
  | .int a, .int b => if 0 ≤ b ∧ b ≤ 50000000 ∧ fit a = true then some (.int (a * 2 ^ b.toNat)) else none
  | _, _ => none
def shrD : D → D → Option D
  | .int a, .int b => if 0 ≤ b then some (.int (a / 2 ^ b.toNat)) else none
  | _, _ => none
def andD : D → D → Option D
  | .int a, .int b => some (.int (Builtin.bitAnd a b))
  | _, _ => none
def orD : D → D → Option D
  | .int a, .int b => some (.int (Builtin.bitOr a b))
  | _, _ => none
def xorD : D → D → Option D
  | .int a, .int b => some (.int (Builtin.bitXor a b))
  | _, _ => none
def ltD : D → D → Option D
  | .int a, .int b => some (.bool (decide (a < b)))
  | _, _ => none
def leD : D → D → Option D
  | .int a, .int b => some (.bool (decide (a ≤ b)))
  | _, _ => none
def gtD : D → D → Option D
  | .int a, .int b => some (.bool (decide (b < a)))
  | _, _ => none
def geD : D → D → Option D
  | .int a, .int b => some (.bool (decide (b ≤ a)))
  | _, _ => none
def eqD (d e : D) : Option D := if SeqAt.shaped d && SeqAt.shaped e then some (.bool (PyData.eqv d e)) else none
def neD (d e : D) : Option D := if SeqAt.shaped d && SeqAt.shaped e then some (.bool (!PyData.eqv d e)) else none
def isNone : D → Bool
  | .none => true
  | _ => false
def isD : D → D → Option D
  | d, .none => some (.bool (isNone d))
  | .bool a, .bool b => some (.bool (decide (a = b)))
  | _, _ => none
def isntD : D → D → Option D
  | d, .none => some (.bool (!isNone d))
  | .bool a, .bool b => some (.bool (!decide (a = b)))
  | _, _ => none
def negD : D → Option D
  | .int a => some (.int (-a))
  | _ => none
def seqD : D → Option (List D)
  | .list xs => some xs
  | .tuple xs => some xs
  | _ => none
def idxD : D → D → Option D
  | .list xs, .int i => atI xs i
  | .tuple xs, .int i => atI xs i
  | .str z, .int i => if z.length ≤ sizeLine then (atI z.cps.toList i).map fun c => .str ⟨#[c]⟩ else none
  | _, _ => none
def absD : List D → Option D
  | [.int a] => some (.int (if a < 0 then -a else a))
  | _ => none
def maxD : List D → Option D
  | [.int a, .int b] => some (.int (if b > a then b else a))
  | [.tuple [.int a, .int b]] => some (.int (if b > a then b else a))
  | _ => none
def minD : List D → Option D
  | [.int a, .int b] => some (.int (if b < a then b else a))
  | _ => none
def intD : List D → Option D
  | [.int a] => some (.int a)
  | [.bool b] => some (.int (if b then 1 else 0))
  | _ => none
def lenD : List D → Option D
  | [.list xs] => some (.int xs.length)
  | [.tuple xs] => some (.int xs.length)
  | [.str z] => if z.length ≤ sizeLine then some (.int z.length) else none
  | _ => none
def listD : List D → Option D
  | [.list xs] => some (.list xs)
  | [.tuple xs] => some (.list xs)
  | _ => none
def tupleD : List D → Option D
  | [.list xs] => some (.tuple xs)
  | [.tuple xs] => some (.tuple xs)
  | _ => none
def bitsD : D → Option D
  | .int a => some (.int (Builtin.Int.intBits a))
  | _ => none
end SM
section
open SM
variable {X : Cx} {G : Gx}
theorem fit_lt {i : Int} (h : fit i = true) : i.natAbs < 2 ^ (i.natAbs.log2 + 1) ∧ i.natAbs.log2 + 1 ≤ 50000000 := ⟨Nat.lt_log2_self, by have := of_decide_eq_true h; omega⟩
theorem fit_of {i : Int} {n : Nat} (h : i.natAbs < 2 ^ n) (hn : n ≤ 50000000) : fit i = true := by
  unfold fit
  refine decide_eq_true ?_
  by_cases e : i.natAbs = 0
  · rw [e, show Nat.log2 0 = 0 from rfl]; omega
  · have := (Nat.log2_lt e).mpr h
    omega
theorem opI_s {f : Int → Int → Int} {Cn : Int → Int → Prop} {g : D → D → Option D} (hi : ∀ d e z, g d e = some z → ∃ a b, d = .int a ∧ e = .int b ∧ Cn a b ∧ z = .int (f a b)) : OpS G (rI Cn fun i j => .int (f i j)) g := by
  intro L C H x y d e z Q w hx hy hf q
  obtain ⟨a, b, rfl, rfl, hc, rfl⟩ := hi d e z hf
  obtain ⟨_, h1⟩ := w.dt hx
  obtain ⟨_, h2⟩ := w.dt hy
  exact ⟨a, b, h1.int_inv, h2.int_inv, hc, q _ _ (w.fact fun _ _ => .int _)⟩
theorem opI0_s {f : Int → Int → Int} {g : D → D → Option D} (hi : ∀ d e z, g d e = some z → ∃ a b, d = .int a ∧ e = .int b ∧ z = .int (f a b)) : OpS G (rI0 fun i j => .int (f i j)) g := by
  intro L C H x y d e z Q w hx hy hf q
  obtain ⟨a, b, rfl, rfl, rfl⟩ := hi d e z hf
  obtain ⟨_, h1⟩ := w.dt hx
  obtain ⟨_, h2⟩ := w.dt hy
  exact ⟨a, b, h1.int_inv, h2.int_inv, q _ _ (w.fact fun _ _ => .int _)⟩
theorem opB0_s {f : Int → Int → Bool} {g : D → D → Option D} (hi : ∀ d e z, g d e = some z → ∃ a b, d = .int a ∧ e = .int b ∧ z = .bool (f a b)) : OpS G (rI0 fun i j => .bl (f i j)) g := by
  intro L C H x y d e z Q w hx hy hf q
  obtain ⟨a, b, rfl, rfl, rfl⟩ := hi d e z hf
  obtain ⟨_, h1⟩ := w.dt hx
  obtain ⟨_, h2⟩ := w.dt hy
  exact ⟨a, b, h1.int_inv, h2.int_inv, q _ _ (w.fact fun _ _ => .bl _)⟩
theorem os_sub : OpS G (rI0 fun i j => .int (i - j)) subD := opI0_s fun d e z h => by
  cases d <;> cases e <;> simp [subD] at h
  exact ⟨_, _, rfl, rfl, h.symm⟩
def rFdivU : R2 := fun x y H Q => rI CDivW (fun i j => V.int (i / j)) x y H Q ∨ rI CDivN (fun i j => V.int (i.fdiv j)) x y H Q
theorem op_fdivU : OpR X (binaryOp .FloorDiv) rFdivU := op_fdivW.or op_fdivN
theorem os_fdiv : OpS G rFdivU fdivD := by
  intro L C H x y d e z Q w hx hy hf q
  obtain ⟨_, h1⟩ := w.dt hx
  obtain ⟨_, h2⟩ := w.dt hy
  cases d <;> cases e <;> simp only [fdivD] at hf <;> (try cases hf)
  split at hf
  · next c =>
    cases hf
    exact .inl ⟨_, _, h1.int_inv, h2.int_inv, c, q _ _ (w.fact fun _ _ => .int _)⟩
  · split at hf
    · next c =>
      cases hf
      exact .inr ⟨_, _, h1.int_inv, h2.int_inv, ⟨by omega, c.2⟩, q _ _ (w.fact fun _ _ => .int _)⟩
    · cases hf
theorem os_mod : OpS G (rI (fun _ j => 0 < j) fun i j => .int (i % j)) modD := opI_s fun d e z h => by
  cases d <;> cases e <;> simp only [modD] at h <;> (try cases h)
  split at h
  · cases h; exact ⟨_, _, rfl, rfl, by assumption, rfl⟩
  · cases h
theorem os_pow : OpS G (rI CPow fun i j => .int (i ^ j.toNat)) powD := opI_s fun d e z h => by
  cases d <;> cases e <;> simp only [powD] at h <;> (try cases h)
  split at h
  · cases h; exact ⟨_, _, rfl, rfl, by assumption, rfl⟩
  · cases h
theorem os_lt : OpS G (rI0 fun i j => .bl (decide (i < j))) ltD := opB0_s fun d e z h => by
  cases d <;> cases e <;> simp [ltD] at h
  exact ⟨_, _, rfl, rfl, h.symm⟩
theorem os_le : OpS G (rI0 fun i j => .bl (decide (i ≤ j))) leD := opB0_s fun d e z h => by
  cases d <;> cases e <;> simp [leD] at h
  exact ⟨_, _, rfl, rfl, h.symm⟩
theorem os_gt : OpS G (rI0 fun i j => .bl (decide (j < i))) gtD := opB0_s fun d e z h => by
  cases d <;> cases e <;> simp [gtD] at h
  exact ⟨_, _, rfl, rfl, h.symm⟩
theorem os_ge : OpS G (rI0 fun i j => .bl (decide (j ≤ i))) geD := opB0_s fun d e z h => by
  cases d <;> cases e <;> simp [geD] at h
  exact ⟨_, _, rfl, rfl, h.symm⟩
theorem os_eq : OpS G (rEqD G.K) eqD := by
  intro L C H x y d e z Q w hx hy hf q
  obtain ⟨B, h1⟩ := w.dt hx
  obtain ⟨B2, h2⟩ := w.dt hy
  unfold eqD at hf
  split at hf
  · next c =>
    cases hf
    rw [Bool.and_eq_true] at c
    exact ⟨d, e, Dt.dp _ _ (SeqAt.canLay_of_shaped c.1) h1, Dt.dp _ _ (SeqAt.canLay_of_shaped c.2) h2, c.1, c.2, q _ _ (w.fact fun _ _ => .bl _)⟩
  · cases hf
theorem os_ne : OpS G (rNeD G.K) neD := by
  intro L C H x y d e z Q w hx hy hf q
  obtain ⟨B, h1⟩ := w.dt hx
  obtain ⟨B2, h2⟩ := w.dt hy
  unfold neD at hf
  split at hf
  · next c =>
    cases hf
    rw [Bool.and_eq_true] at c
    exact ⟨d, e, Dt.dp _ _ (SeqAt.canLay_of_shaped c.1) h1, Dt.dp _ _ (SeqAt.canLay_of_shaped c.2) h2, c.1, c.2, q _ _ (w.fact fun _ _ => .bl _)⟩
  · cases hf
theorem non_iff {K : PySem.W.Frag} {B : Addr → Prop} {H : Hp} {v : V} {d : D} (h : Dt K B H v d) : decide (v = .non) = isNone d := by
  cases h <;> first | rfl | exact decide_eq_false (fun z => by cases z)
def rIs : R2 := fun x y H Q => (y = .non ∧ Q (.bl (decide (x = .non))) H) ∨ rIsB x y H Q
def rIsnt : R2 := fun x y H Q => (y = .non ∧ Q (.bl (!decide (x = .non))) H) ∨ rNotB x y H Q
theorem op_isU : OpR X (compareOp .Is) rIs := op_isN.or op_isBl
theorem op_isntU : OpR X (compareOp .IsNot) rIsnt := op_notN.or op_notBl
theorem os_is : OpS G rIs isD := by
  intro L C H x y d e z Q w hx hy hf q
  obtain ⟨B, h1⟩ := w.dt hx
  obtain ⟨B2, h2⟩ := w.dt hy
  cases e with
  | none =>
    simp only [isD] at hf
    cases hf
    refine .inl ⟨h2.non_inv, ?_⟩
    rw [non_iff h1]
    exact q _ _ (w.fact fun _ _ => .bl _)
  | bool b =>
    cases d <;> simp only [isD] at hf <;> (try cases hf)
    exact .inr ⟨_, _, h1.bl_inv, h2.bl_inv, q _ _ (w.fact fun _ _ => .bl _)⟩
  | _ => cases d <;> cases hf
theorem os_isnt : OpS G rIsnt isntD := by
  intro L C H x y d e z Q w hx hy hf q
  obtain ⟨B, h1⟩ := w.dt hx
  obtain ⟨B2, h2⟩ := w.dt hy
  cases e with
  | none =>
    simp only [isntD] at hf
    cases hf
    refine .inl ⟨h2.non_inv, ?_⟩
    rw [non_iff h1]
    exact q _ _ (w.fact fun _ _ => .bl _)
  | bool b =>
    cases d <;> simp only [isntD] at hf <;> (try cases hf)
    exact .inr ⟨_, _, h1.bl_inv, h2.bl_inv, q _ _ (w.fact fun _ _ => .bl _)⟩
  | _ => cases d <;> cases hf
theorem us_neg : UnS G (rU fun i => .int (-i)) negD := by
  intro L C H x d z Q w hx hf q
  obtain ⟨B, h1⟩ := w.dt hx
  cases d <;> simp only [negD] at hf <;> (try cases hf)
  exact ⟨_, h1.int_inv, q _ _ (w.fact fun _ _ => .int _)⟩
theorem atI_dt {K : PySem.W.Frag} {B : Addr → Prop} {H : Hp} {vs : List V} {ds : List D} {i : Int} {d : D} (h : DtAll K B H vs ds) (e : atI ds i = some d) : ∃ v, atI vs i = some v ∧ Dt K B H v d := by
  unfold atI at e ⊢
  rw [h.len]
  cases hj : ixN ds.length i with
  | none => rw [hj] at e; cases e
  | some j =>
    rw [hj] at e
    exact h.get e
theorem os_idx : OpS G (rIx G.K) idxD := by
  intro L C H x y d e z Q w hx hy hf q
  obtain ⟨B, wb⟩ := w
  have h1 := wb.ft _ hx
  have h2 := wb.ft _ hy
  cases d <;> cases e <;> simp only [idxD] at hf <;> (try cases hf)
  · split at hf
    · rename_i x' i' c
      cases ha : atI x'.cps.toList i' with
      | none => rw [ha] at hf; cases hf
      | some k =>
        rw [ha] at hf
        cases hf
        exact .inr (.inr ⟨_, _, k, h1.str_inv, h2.int_inv, c, ha, q _ _ ⟨B, wb.fact (.str _)⟩⟩)
    · cases hf
  · obtain ⟨p, xs, rfl, hl, ha⟩ := Dt.lst_inv h1
    obtain ⟨v, hv, hd⟩ := atI_dt ha hf
    exact .inl ⟨p, xs, _, v, rfl, h2.int_inv, hl.sq, hv, q v H ⟨B, wb.fact hd⟩⟩
  · obtain ⟨p, xs, rfl, hl, ha⟩ := Dt.tup_inv h1
    obtain ⟨v, hv, hd⟩ := atI_dt ha hf
    exact .inr (.inl ⟨p, xs, _, v, rfl, h2.int_inv, hl.sq, hv, q v H ⟨B, wb.fact hd⟩⟩)
section
open PySem.Spec PyProof.Rows
def rCatR (K : PySem.W.Frag) : R2 := fun x y H Q => ∃ l b us zs, x = .ref l ∧ y = .ref b ∧ SqL K H l us ∧ SqL K H b zs ∧ us.length + zs.length ≤ sizeLine ∧ ∀ p, H p = none → Q (.ref p) (upd H p (.lst (us ++ zs)))
theorem op_catR {X : Cx} : OpR X (binaryOp .Add) (rCatR X.K) := by
  intro pins sh sg H x y v u Q I rx ry hyp
  obtain ⟨l, b, us, zs, rfl, rfl, hl, hb, hz, q⟩ := hyp
  cases rx
  cases ry
  obtain ⟨i1, r1, p1, _⟩ := I.list hl
  obtain ⟨i2, r2, p2, _⟩ := I.list hb
  have n1 := r1.length
  have n2 := r2.length
  obtain ⟨⟨c1, d1, t1, s1⟩, g1, e1, m1, f1⟩ := p1.isList
  obtain ⟨⟨c2, d2, t2, s2⟩, g2, e2, m2, f2⟩ := p2.isList
  simp only at e1 f1 e2 f2
  subst e1 f1 e2 f2
  refine concat_meets ⟨_, g1, rfl⟩ ⟨_, g2, rfl⟩ noFill_list_add seq_list_add PySem.F.slot_list_add PySem.F.entry_list_add (PySem.F.args_list_add_2 _ _)
    (list_addW l b i1.toArray i2.toArray m1 m2 d1 d2 s1 s2 (by simp only [List.size_toArray]; omega)) ⟨g1, g2, ?_⟩
  rw [show i1.toArray ++ i2.toArray = (i1 ++ i2).toArray by simp]
  exact ⟨.ref _, _, I.lnew (t' := sh.toks) (r1.append r2) (by rw [List.length_append]; exact hz), rfl, q _ I.fresh⟩
end
def rAddU (K : PySem.W.Frag) : R2 := fun x y H Q => (rI0 (fun i j => V.int (i + j)) x y H Q) ∨ (rCatR K x y H Q ∨ (rCatT K x y H Q ∨ (∃ i j, x = .str i ∧ y = .str j ∧ i.length + j.length ≤ sizeLine ∧ Q (.str (i ++ j)) H)))
theorem op_addU : OpR X (binaryOp .Add) (rAddU X.K) := op_add.or (op_catR.or (op_catT.or op_add_str))
theorem os_add : OpS G (rAddU G.K) addD := by
  intro L C H x y d e z Q w hx hy hf q
  obtain ⟨B, wb⟩ := w
  have h1 := wb.ft _ hx
  have h2 := wb.ft _ hy
  cases d <;> cases e <;> simp only [addD] at hf <;> (try cases hf)
  · exact .inl ⟨_, _, h1.int_inv, h2.int_inv, q _ _ ⟨B, wb.fact (.int _)⟩⟩
  · split at hf
    · cases hf
      exact .inr (.inr (.inr ⟨_, _, h1.str_inv, h2.str_inv, by assumption, q _ _ ⟨B, wb.fact (.str _)⟩⟩))
    · cases hf
  · split at hf
    · cases hf
      obtain ⟨p, xs, rfl, hl, ha⟩ := Dt.lst_inv h1
      obtain ⟨p2, ys, rfl, hl2, ha2⟩ := Dt.lst_inv h2
      exact .inr (.inl ⟨p, p2, xs, ys, rfl, rfl, hl.sq, hl2.sq, by rw [ha.len, ha2.len]; assumption, fun r hr => q _ _ (wb.lstD hr (ha.app ha2))⟩)
    · cases hf
  · split at hf
    · next c =>
      cases hf
      obtain ⟨p, xs, rfl, hl, ha⟩ := Dt.tup_inv h1
      obtain ⟨p2, ys, rfl, hl2, ha2⟩ := Dt.tup_inv h2
      have e1 : xs ≠ [] := fun z => c.1 (by subst z; cases ha; rfl)
      have e2 : ys ≠ [] := fun z => c.2.1 (by subst z; cases ha2; rfl)
      exact .inr (.inr (.inl ⟨p, p2, xs, ys, rfl, rfl, hl.sq, hl2.sq, e1, by rw [ha.len, ha2.len]; exact c.2.2, fun z => absurd z e2, fun _ r hr => q _ _ (wb.tupD hr (ha.app ha2))⟩))
    · cases hf
  · obtain ⟨p, xs, ds, rfl, rfl, hl, ha⟩ := Dt.scr_inv h1
    obtain ⟨p2, ys, rfl, hl2, ha2⟩ := Dt.lst_inv h2
    simp only at hf
    split at hf
    · cases hf
      exact .inr (.inl ⟨p, p2, xs, ys, rfl, rfl, hl, hl2.sq, by rw [ha.len, ha2.len]; assumption, fun r hr => q _ _ (wb.lstD hr (ha.app ha2))⟩)
    · cases hf
def rMulU : R2 := fun x y H Q => rI CMulX (fun i j => V.int (i * j)) x y H Q ∨ rRep x y H Q
theorem op_mulU : OpR X (binaryOp .Mult) rMulU := op_mulX.or op_rep
theorem os_mul : OpS G rMulU mulD := by
  intro L C H x y d e z Q w hx hy hf q
  obtain ⟨B, wb⟩ := w
  have h1 := wb.ft _ hx
  have h2 := wb.ft _ hy
  cases d <;> cases e <;> simp only [mulD] at hf <;> (try cases hf)
  · split at hf
    · next c =>
      cases hf
      rw [Bool.and_eq_true] at c
      obtain ⟨k1, k2⟩ := fit_lt c.1
      obtain ⟨k3, k4⟩ := fit_lt c.2
      exact .inl ⟨_, _, h1.int_inv, h2.int_inv, mulx_ok k1 k3 (by omega), q _ _ ⟨B, wb.fact (.int _)⟩⟩
    · cases hf
  · split at hf
    · next c =>
      cases hf
      obtain ⟨p, xs, rfl, hl, ha⟩ := Dt.lst_inv h1
      exact .inr ⟨p, _, xs, rfl, h2.int_inv, hl.2, c.1, c.2.1, by rw [ha.len]; exact c.2.2, fun r hr => q _ _ (wb.lstD hr (DtAll.flat _ ha))⟩
    · cases hf
end
namespace SM
variable {μ : Type}
def cutD {α : Type} (xs : List α) (lo hi : Option Int) : List α := (xs.drop (HT.sIx xs.length 0 lo)).take (HT.sIx xs.length xs.length hi - HT.sIx xs.length 0 lo)
def sliD (d : D) (lo hi : Option Int) : Option D := match d with
  | .list xs => some (.list (cutD xs lo hi))
  | .dict [(.none, .list xs)] => some (.list (cutD xs lo hi))
  | .tuple xs => if HT.sIx xs.length 0 lo = 0 ∧ HT.sIx xs.length xs.length hi = xs.length then none else some (.tuple (cutD xs lo hi))
  | _ => none
def part0 : SM μ (Option Int) := pu none
def intO : D → Option (Option Int)
  | .int i => some (some i)
  | _ => none
def part (E : SM μ D) : SM μ (Option Int) := bd E fun x => of (intO x)
def slice (E : SM μ D) (P1 P2 : SM μ (Option Int)) : SM μ D := bd E fun x => bd P1 fun l => bd P2 fun h => of (sliD x l h)
def flatD : D → Bool
  | .none => true
  | .bool _ => true
  | .int _ => true
  | .str _ => true
  | _ => false
def eqF : D → D → Bool
  | .none, .none => true
  | .bool a, .bool b => a == b
  | .bool a, .int b => (if a then 1 else 0) == b
  | .int a, .bool b => a == (if b then 1 else 0)
  | .int a, .int b => a == b
  | .str a, .str b => a == b
  | _, _ => false
def inL (x : D) (xs : List D) : Bool := xs.any fun y => eqF y x
def inD (neg : Bool) (x s : D) : Option D := match seqD s with
  | some xs => if flatD x && xs.all flatD then some (.bool (if neg then !inL x xs else inL x xs)) else none
  | none => none
def tyN : D → String
  | .none => "NoneType"
  | .bool _ => "bool"
  | .int _ => "int"
  | .str _ => "str"
  | .list _ => "list"
  | .tuple _ => "tuple"
  | .dict _ => "list"
def isiD (n : String) (d : D) : Option D := (kitB (tyN d) n).map .bool
def boolsD : List D → Option (List Bool)
  | [] => some []
  | .bool i :: r => (boolsD r).map (i :: ·)
  | _ => none
def allD : List D → Option D
  | [.list xs] => (boolsD xs).map fun ns => .bool (ns.all id)
  | _ => none
end SM
section
open SM
variable {X : Cx} {μ : Type} {G : Gx} {σ : St} {L : List (V × D)} {C : μ → List Root} {te ta tb tc : TE} {tt tu : TT} {E E1 E2 E3 : SM μ D} {T T1 T2 : SM μ Bool}
theorem cutV_dt {K : PySem.W.Frag} {B : Addr → Prop} {H : Hp} {vs : List V} {ds : List D} (lo hi : Option Int) (h : DtAll K B H vs ds) : DtAll K B H (cutV vs lo hi) (cutD ds lo hi) := by
  unfold cutV cutD
  rw [h.len]
  exact (h.drop _).take _
def PV (to : TO) (σ : St) (L : List (V × D)) (C : μ → List Root) (G : Gx) (E : SM μ (Option Int)) : Prop :=
  ∀ m F L' H (Q : Option Int → Hp → Prop), (∀ f ∈ L, f ∈ L') → Wd G.K G.O L' (C m ++ F) H →
    (∀ x m' H', E m = .ok x m' → Wd G.K G.O L' (C m' ++ F) H' → Q x H') → Bk G C F L' (E m) → to σ H Q
theorem pv_none : PV tNoPart σ L C G (part0 : SM μ _) := fun m F L' H Q s w q _ => q none m H rfl w
theorem pv_some (h1 : EV G te σ L C E) : PV (tPart te) σ L C G (part E) := by
  intro m F L' H Q s w q b
  refine h1 m F L' H _ s w (fun x m1 v H1 e1 w1 => ?_) b.fst
  have b1 := b.snd e1
  cases x with
  | int i =>
    obtain ⟨B, hd⟩ := w1.dt (.head _)
    refine ⟨i, hd.int_inv, q (some i) m1 H1 ?_ (w1.sub fun f hf => .tail _ hf)⟩
    show bd E _ m = _
    rw [bd_ok e1]; rfl
  | _ => exact absurd rfl b1.2
def rSlU (K : PySem.W.Frag) : V → Option Int → Option Int → Hp → VK → Prop := fun x lo hi H Q => rSlL K x lo hi H Q ∨ rSlT K x lo hi H Q
theorem sl_u : SlR X (rSlU X.K) := sl_list.or sl_tup
theorem ev_slice {tl th : TO} {P1 P2 : SM μ (Option Int)} (h : EV G te σ L C E) (h1 : PV tl σ L C G P1) (h2 : PV th σ L C G P2) : EV G (tSl (rSlU G.K) te tl th) σ L C (slice E P1 P2) := by
  intro m F L' H Q s w q b
  refine h m F L' H _ s w (fun x m1 v H1 e1 w1 => ?_) b.fst
  have b1 := b.snd e1
  refine h1 m1 F ((v, x) :: L') H1 _ (fun f hf => .tail _ (s f hf)) w1 (fun lo m2 H2 e2 w2 => ?_) (b1.fst.mono fun f hf => .tail _ hf)
  have b2 := b1.snd e2
  refine h2 m2 F ((v, x) :: L') H2 _ (fun f hf => .tail _ (s f hf)) w2 (fun hi m3 H3 e3 w3 => ?_) (b2.fst.mono fun f hf => .tail _ hf)
  have b3 := b2.snd e3
  have er : slice E P1 P2 m = of (sliD x lo hi) m3 := by
    show bd E _ m = _
    rw [bd_ok e1, bd_ok e2, bd_ok e3]
  obtain ⟨B, wb⟩ := w3
  have hx := wb.ft _ (.head _)
  have fin : ∀ {z : D} {v' : V} {H' : Hp}, sliD x lo hi = some z → Wd G.K G.O ((v', z) :: (v, x) :: L') (C m3 ++ F) H' → Q v' H' := fun {z v' H'} ez w' => by
    rw [ez] at er
    exact q z m3 v' H' er (w'.sub fun f hf => by
      rcases List.mem_cons.mp hf with e | e
      · rw [e]; exact .head _
      · exact .tail _ (.tail _ e))
  have nb : sliD x lo hi ≠ none := fun z => by rw [z] at b3; exact b3.2 rfl
  cases x with
  | list xs =>
    obtain ⟨p, vs, rfl, hl, ha⟩ := Dt.lst_inv hx
    exact .inl ⟨p, vs, rfl, hl.sq, fun r hr => fin rfl (wb.lstD hr (cutV_dt lo hi ha))⟩
  | tuple xs =>
    obtain ⟨p, vs, rfl, hl, ha⟩ := Dt.tup_inv hx
    simp only [sliD] at nb
    split at nb
    · exact absurd rfl nb
    · next c =>
      exact .inr ⟨p, vs, rfl, hl.sq, by rw [ha.len]; exact c, fun r hr => fin (by simp only [sliD]; rw [if_neg c]) (wb.tupD hr (cutV_dt lo hi ha))⟩
  | dict kvs =>
    obtain ⟨p, vs, ds, rfl, rfl, hl, ha⟩ := Dt.scr_inv hx
    exact .inl ⟨p, vs, rfl, hl, fun r hr => fin rfl (wb.lstD hr (cutV_dt lo hi ha))⟩
  | _ => exact absurd rfl nb
theorem flat_dt {K : PySem.W.Frag} {B : Addr → Prop} {H : Hp} {v : V} {d : D} (h : Dt K B H v d) : flatV v = flatD d := by cases h <;> rfl
theorem flats_dt {K : PySem.W.Frag} {B : Addr → Prop} {H : Hp} : ∀ {vs : List V} {ds : List D}, DtAll K B H vs ds → vs.all flatV = ds.all flatD
  | [], _, h => by cases h; rfl
  | v :: vs, _, h => by
    cases h with
    | cons a b => rw [List.all_cons, List.all_cons, flat_dt a, flats_dt b]
theorem eqF_dt {K : PySem.W.Frag} {B : Addr → Prop} {H : Hp} {v u : V} {d e : D} (h : Dt K B H v d) (g : Dt K B H u e) : eqV v u = eqF d e := by cases h <;> cases g <;> rfl
theorem inL_dt {K : PySem.W.Frag} {B : Addr → Prop} {H : Hp} {v : V} {d : D} (g : Dt K B H v d) : ∀ {vs : List V} {ds : List D}, DtAll K B H vs ds → inV v vs = inL d ds
  | [], _, h => by cases h; rfl
  | x :: vs, _, h => by
    cases h with
    | cons a b =>
      show (eqV x v || inV v vs) = (eqF _ d || inL d _)
      rw [eqF_dt a g, inL_dt g b]
theorem os_in {neg : Bool} : OpS G (rIn G.K neg) (inD neg) := by
  intro L C H x y d e z Q w hx hy hf q
  obtain ⟨B, wb⟩ := w
  have h1 := wb.ft _ hx
  have h2 := wb.ft _ hy
  cases e <;> simp only [inD, seqD] at hf <;> (try cases hf)
  · split at hf
    · next c =>
      rw [Bool.and_eq_true] at c
      cases hf
      obtain ⟨p, vs, rfl, hl, ha⟩ := Dt.lst_inv h2
      refine ⟨p, vs, rfl, .inl hl.sq, by rw [flat_dt h1]; exact c.1, by rw [flats_dt ha]; exact c.2, ?_⟩
      rw [inL_dt h1 ha]
      exact q _ _ ⟨B, wb.fact (.bl _)⟩
    · cases hf
  · split at hf
    · next c =>
      rw [Bool.and_eq_true] at c
      cases hf
      obtain ⟨p, vs, rfl, hl, ha⟩ := Dt.tup_inv h2
      refine ⟨p, vs, rfl, .inr hl.sq, by rw [flat_dt h1]; exact c.1, by rw [flats_dt ha]; exact c.2, ?_⟩
      rw [inL_dt h1 ha]
      exact q _ _ ⟨B, wb.fact (.bl _)⟩
    · cases hf
theorem tyx_of {K : PySem.W.Frag} {B : Addr → Prop} {H : Hp} {v : V} {d : D} (h : Dt K B H v d) : TyX K H v (.type (tyN d)) := by
  cases h with
  | non => exact .base .non
  | bl z => exact .base (.bl z)
  | int i => exact .base (.int i)
  | str x => exact .base (.str x)
  | lst a b => exact .base (.lst a.2)
  | tup a b =>
    rcases a with ⟨_, a | ⟨o, a⟩⟩ | ⟨o, its, n, a, c, _⟩
    · exact .base (.tup a)
    · exact .fTuple a
    · exact .kTuple a c
  | scr a c =>
    rcases a with ⟨_, a | ⟨o, a⟩⟩ | ⟨o, its, n, a, c, _⟩
    · exact .base (.lst a)
    · exact .base (.frz a)
    · exact .kList a c
theorem ev_isi {n : String} (h : EV G te σ L C E) : EV G (tCB (rIsi G.K) (tCons te (tCons (tC (.ty n)) tNil))) σ L C (op1 (isiD n) E) := by
  refine ev_un (r := fun x H Q => rIsi G.K [x, .ty n] H Q) ?_ h
  intro L C H x d z Q w hx hf q
  obtain ⟨B, wb⟩ := w
  have h1 := wb.ft _ hx
  unfold isiD at hf
  cases hk : kitB (tyN d) n with
  | none => rw [hk] at hf; cases hf
  | some b =>
    rw [hk] at hf
    cases hf
    exact ⟨x, _, _, _, b, rfl, .ty n, tyx_of h1, kit_ty hk, q _ _ ⟨B, wb.fact (.bl _)⟩⟩
theorem In2.one {L : List (V × D)} {xs : List V} {d : D} (h : In2 L xs [d]) : ∃ x, xs = [x] ∧ (x, d) ∈ L := by
  cases h with
  | cons a b => cases b; exact ⟨_, rfl, a⟩
theorem In2.two {L : List (V × D)} {xs : List V} {d e : D} (h : In2 L xs [d, e]) : ∃ x y, xs = [x, y] ∧ (x, d) ∈ L ∧ (y, e) ∈ L := by
  cases h with
  | cons a b => cases b with | cons c b => cases b; exact ⟨_, _, rfl, a, c⟩
theorem CallR.or {f : Value} {r r' : List V → Hp → VK → Prop} (h : CallR X f r) (h' : CallR X f r') : CallR X f (fun xs H Q => r xs H Q ∨ r' xs H Q) := by
  intro pins s σ H xs us Q I rv q
  rcases q with q | q
  · exact h pins s σ H xs us Q I rv q
  · exact h' pins s σ H xs us Q I rv q
theorem cs_int : CallS G (fun xs H Q => (∃ i, xs = [.int i] ∧ Q (.int i) H) ∨ ∃ k, xs = [.bl k] ∧ Q (.int (if k then 1 else 0)) H) intD := by
  intro L C H xs ds z Q w i e q
  unfold intD at e
  split at e
  · cases e
    obtain ⟨x, rfl, hx⟩ := i.one
    obtain ⟨B, hd⟩ := w.dt hx
    exact .inl ⟨_, by rw [hd.int_inv], q _ _ (w.fact fun _ _ => .int _)⟩
  · cases e
    obtain ⟨x, rfl, hx⟩ := i.one
    obtain ⟨B, hd⟩ := w.dt hx
    exact .inr ⟨_, by rw [hd.bl_inv], q _ _ (w.fact fun _ _ => .int _)⟩
  · cases e
theorem cs_len : CallS G (fun xs H Q => ∃ x n, xs = [x] ∧ LenV G.K x H n ∧ Q (.int n) H) lenD := by
  intro L C H xs ds z Q w i e q
  unfold lenD at e
  split at e
  · cases e
    obtain ⟨x, rfl, hx⟩ := i.one
    obtain ⟨B, hd⟩ := w.dt hx
    obtain ⟨p, vs, rfl, hl, ha⟩ := Dt.lst_inv hd
    refine ⟨_, _, rfl, .inl ⟨vs, hl.sq, rfl⟩, ?_⟩
    rw [ha.len]
    exact q _ _ (w.fact fun _ _ => .int _)
  · cases e
    obtain ⟨x, rfl, hx⟩ := i.one
    obtain ⟨B, hd⟩ := w.dt hx
    obtain ⟨p, vs, rfl, hl, ha⟩ := Dt.tup_inv hd
    refine ⟨_, _, rfl, .inr ⟨vs, hl.sq, rfl⟩, ?_⟩
    rw [ha.len]
    exact q _ _ (w.fact fun _ _ => .int _)
  · split at e
    · next c =>
      cases e
      obtain ⟨x, rfl, hx⟩ := i.one
      obtain ⟨B, hd⟩ := w.dt hx
      refine ⟨_, _, rfl, by rw [hd.str_inv]; exact ⟨c, rfl⟩, q _ _ (w.fact fun _ _ => .int _)⟩
    · cases e
  · cases e
theorem cs_tuple : CallS G (fun xs H Q => ∃ p ys, xs = [.ref p] ∧ ((SqL G.K H p ys ∧ ∀ l, H l = none → Q (.ref l) (upd H l (.tup ys))) ∨ (SqT G.K H p ys ∧ Q (.ref p) H))) tupleD := by
  intro L C H xs ds z Q w i e q
  obtain ⟨B, wb⟩ := w
  unfold tupleD at e
  split at e
  · cases e
    obtain ⟨x, rfl, hx⟩ := i.one
    obtain ⟨p, vs, rfl, hl, ha⟩ := Dt.lst_inv (wb.ft _ hx)
    exact ⟨_, _, rfl, .inl ⟨hl.sq, fun r hr => q _ _ (wb.tupD hr ha)⟩⟩
  · cases e
    obtain ⟨x, rfl, hx⟩ := i.one
    have hd := wb.ft _ hx
    obtain ⟨p, vs, rfl, hl, ha⟩ := Dt.tup_inv hd
    exact ⟨_, _, rfl, .inr ⟨hl.sq, q _ _ ⟨B, wb.fact hd⟩⟩⟩
  · cases e
theorem boolsD_map : ∀ {ds : List D} {ns : List Bool}, boolsD ds = some ns → ds = ns.map .bool
  | [], _, h => by cases h; rfl
  | d :: ds, ns, h => by
    cases d <;> simp only [boolsD] at h <;> (try cases h)
    rename_i i
    cases e : boolsD ds with
    | none => rw [e] at h; cases h
    | some r => rw [e] at h; cases h; rw [boolsD_map e]; rfl
theorem DtAll.bools_inv {K : PySem.W.Frag} {B : Addr → Prop} {H : Hp} : ∀ {ns : List Bool} {vs : List V}, DtAll K B H vs (ns.map PyData.bool) → vs = ns.map V.bl
  | [], _, h => by cases h; rfl
  | n :: ns, _, h => by
    cases h with
    | cons a b => rw [a.bl_inv, DtAll.bools_inv b]; rfl
theorem cs_all : CallS G (rAll G.K) allD := by
  intro L C H xs ds z Q w i e q
  unfold allD at e
  split at e
  · next zs =>
    obtain ⟨x, rfl, hx⟩ := i.one
    obtain ⟨B, hd⟩ := w.dt hx
    obtain ⟨p, vs, rfl, hl, ha⟩ := Dt.lst_inv hd
    cases en : boolsD zs with
    | none => rw [en] at e; cases e
    | some ns =>
      rw [en] at e; cases e
      rw [boolsD_map en] at ha
      rw [DtAll.bools_inv ha] at hl
      exact ⟨p, ns, rfl, hl.sq, q _ _ (w.fact fun _ _ => .bl _)⟩
  · cases e
end
inductive Fl (τ ρ : Type) where
  | nx (s : τ)
  | rt (d : D)
  | bk (s : ρ)
  | ct (s : ρ)
/-- what the slots, the facts and the roots are like, by the names' data -/
abbrev Shp (μ τ : Type) := τ → St → List (V × D) → (μ → List Root) → Prop
namespace SM
variable {μ τ ρ ρ' : Type}
def sq (R : SM μ (Fl τ ρ)) (k : τ → SM μ (Fl ρ' ρ)) : SM μ (Fl ρ' ρ) := bd R fun o => match o with
  | .nx s => k s
  | .rt d => pu (.rt d)
  | .bk s => pu (.bk s)
  | .ct s => pu (.ct s)
def forS : List D → τ → (D → τ → SM μ (Fl τ τ)) → SM μ (Fl τ ρ)
  | [], s, _ => pu (.nx s)
  | x :: xs, s, b => bd (b x s) fun o => match o with
    | .nx s' => forS xs s' b
    | .ct s' => forS xs s' b
    | .bk s' => pu (.nx s')
    | .rt d => pu (.rt d)
def lcS (T : D → SM μ Bool) (E : D → SM μ D) : List D → List D → SM μ (List D)
  | [], acc => pu acc
  | x :: xs, acc => bd (T x) fun c => if c then bd (E x) fun y => if acc.length < sizeLine then lcS T E xs (acc ++ [y]) else bad else lcS T E xs acc
def unp2 {β : Type} (d : D) (k : D → D → SM μ β) : SM μ β := match d with
  | .tuple [a, b] => k a b
  | _ => bad
def unp3 {β : Type} (d : D) (k : D → D → D → SM μ β) : SM μ β := match d with
  | .tuple [a, b, c] => k a b c
  | _ => bad
def unp4 {β : Type} (d : D) (k : D → D → D → D → SM μ β) : SM μ β := match d with
  | .tuple [a, b, c, e] => k a b c e
  | _ => bad
def par2 {β : Type} (ds : List D) (k : D → D → SM μ β) : SM μ β := match ds with
  | [a, b] => k a b
  | _ => bad
def par3 {β : Type} (ds : List D) (k : D → D → D → SM μ β) : SM μ β := match ds with
  | [a, b, c] => k a b c
  | _ => bad
def appD : D → D → Option D
  | .list ds, x => if ds.length < sizeLine then some (.list (ds ++ [x])) else none
  | _, _ => none
def setD : D → D → D → Option D
  | .list ds, .int i, x => match ixN ds.length i with
    | some j => some (.list (ds.set j x))
    | none => none
  | _, _, _ => none
def gets : SM μ μ := fun m => .ok m m
def puts (m : μ) : SM μ Unit := fun _ => .ok () m
/-- what a def comes to: its return, or None behind its last statement -/
def fin {ρ : Type} (R : SM μ (Fl Unit ρ)) : SM μ D := bd R fun o => match o with
  | .rt d => pu d
  | .nx _ => pu .none
  | _ => bad
end SM
section
variable {μ τ ρ : Type} (G : Gx)
def SV (Cp : μ → List Root) (ts : TS) (σ : St) (L : List (V × D)) (C : μ → List Root) (R : SM μ (Fl τ ρ)) (Jn : Shp μ τ) (Jl : Shp μ ρ) : Prop :=
  ∀ m F L' H (d : Ends), (∀ f ∈ L, f ∈ L') → Wd G.K G.O L' (C m ++ F) H →
    (∀ s m' σ' L2 C2 H', R m = .ok (.nx s) m' → Jn s σ' L2 C2 → Wd G.K G.O (L2 ++ L') (C2 m' ++ F) H' → d.nx σ' H') →
    (∀ s m' σ' L2 C2 H', R m = .ok (.bk s) m' → Jl s σ' L2 C2 → Wd G.K G.O (L2 ++ L') (C2 m' ++ F) H' → d.bk σ' H') →
    (∀ s m' σ' L2 C2 H', R m = .ok (.ct s) m' → Jl s σ' L2 C2 → Wd G.K G.O (L2 ++ L') (C2 m' ++ F) H' → d.ct σ' H') →
    (∀ x m' v H' L1 C1, R m = .ok (.rt x) m' → G.rf v x L1 C1 → Wd G.K G.O (L1 ++ L') (C1 ++ (Cp m' ++ F)) H' → d.rt v H') →
    Bk G Cp F L' (R m) → ts d σ H
/-- an iterator that gives these data -/
def ItOk (J : It) (xs : List D) (L0 : List (V × D)) : Prop := ∀ L C H, (∀ f ∈ L0, f ∈ L) → Wd G.K G.O L C H → ∀ i : Nat,
  (∀ x, xs[i]? = some x → J.go i H ∧ ∀ v H', J.yld i H v H' → Wd G.K G.O ((v, x) :: L) C H') ∧ (xs.length ≤ i → J.stop i H)
def IV (wi : TI) (σ : St) (L : List (V × D)) (C : μ → List Root) (E : SM μ (List D)) : Prop :=
  ∀ m F L' H (R : It → Hp → Prop), (∀ f ∈ L, f ∈ L') → Wd G.K G.O L' (C m ++ F) H →
    (∀ xs m' J H' L2, E m = .ok xs m' → (∀ f ∈ L', f ∈ L2) → Wd G.K G.O L2 (C m' ++ F) H' → ItOk G J xs L2 → R J H') → Bk G C F L' (E m) → wi σ H R
end
section
open SM
variable {X : Cx} {μ τ τ' ρ : Type} {G : Gx} {σ : St} {L : List (V × D)} {C Cp : μ → List Root} {te ta tb tc : TE} {tt tu : TT} {t u : TS} {E E1 E2 E3 : SM μ D} {T T1 T2 : SM μ Bool} {Jn : Shp μ τ} {Jl : Shp μ ρ} {i j : Nat}
theorem fps_sub {H : Hp} : ∀ {C C' : List Root}, C'.Sublist C → (fps C' H).Sublist (fps C H)
  | _, _, .slnil => .slnil
  | _, _, .cons a h => by rw [fps_cons]; exact (fps_sub h).trans (List.sublist_append_right _ _)
  | _, _, .cons₂ a h => by rw [fps_cons, fps_cons]; exact (List.Sublist.refl _).append (fps_sub h)
theorem Wd.subC {K : PySem.W.Frag} {O : Og} {L : List (V × D)} {C C' : List Root} {H : Hp} (w : Wd K O L C H) (h : C'.Sublist C) : Wd K O L C' H := by
  obtain ⟨B, w⟩ := w
  have hs : (fps C' H).Sublist (fps C H) := fps_sub h
  exact ⟨B, w.lo, w.hi, hs.nodup w.nd, fun p hp => w.nb p (hs.mem hp), fun p hp => w.fr p (hs.mem hp), fun c hc => w.rt c (h.mem hc), w.ft, w.kp, w.oc, w.bo⟩
theorem Bk.subC {α : Type} {F : List Root} {r : Rs μ α} (h : ∀ m, (Cp m).Sublist (C m)) (b : Bk G Cp F L r) : Bk G C F L r := ⟨fun e m' cls d H' q w => b.1 e m' cls d H' q (w.subC (((h m').append_right F).cons₂ _)), b.2⟩
/-- how a def's own roots lie among all -/
abbrev Sub (Cp C : μ → List Root) : Prop := ∀ m, (Cp m).Sublist (C m)
theorem sv_ret (hc : Sub Cp C) (h : EV G te σ L C E) (hf : G.rf = rfF := by rfl) : SV G Cp (tSeq (tRet te) u) σ L C (bd E fun x => pu (.rt x)) Jn Jl := by
  intro m F L' H d s w _ _ _ q b
  refine h m F L' H _ s w (fun x m1 v H1 e1 w1 => q x m1 v H1 [(v, x)] [] ?_ (by rw [hf]; exact ⟨rfl, rfl⟩) (w1.subC ((hc m1).append_right F))) (b.fst.subC hc)
  rw [bd_ok e1]; rfl
theorem sv_nil {s : τ} {L2 : List (V × D)} (hj : Jn s σ L2 C) (hl : ∀ f ∈ L2, f ∈ L) : SV G Cp tNext σ L C (pu (.nx s)) Jn Jl := by
  intro m F L' H d s' w q _ _ _ b
  refine q s m σ L2 C H rfl hj (w.sub fun f hf => ?_)
  rcases List.mem_append.mp hf with e | e
  · exact s' f (hl f e)
  · exact e
theorem sv_assoc {t1 t2 : TS} {R : SM μ (Fl τ ρ)} (h : SV G Cp (tSeq t1 (tSeq t2 u)) σ L C R Jn Jl) : SV G Cp (tSeq (tSeq t1 t2) u) σ L C R Jn Jl := h
theorem sv_skip {R : SM μ (Fl τ ρ)} (h : SV G Cp u σ L C R Jn Jl) : SV G Cp (tSeq tNext u) σ L C R Jn Jl := h
/-- a statement, then the rest, by the shape between -/
theorem sv_seq {R : SM μ (Fl τ' ρ)} {k : τ' → SM μ (Fl τ ρ)} {J1 : Shp μ τ'} (h1 : SV G Cp t σ L C R J1 Jl) (h2 : ∀ s σ' L2 C2, J1 s σ' L2 C2 → SV G Cp u σ' (L2 ++ L) C2 (k s) Jn Jl) : SV G Cp (tSeq t u) σ L C (sq R k) Jn Jl := by
  intro m F L' H d s w q1 q2 q3 q4 b
  refine h1 m F L' H { d with nx := u d } s w ?_ ?_ ?_ ?_ ?_
  · intro z m1 σ1 L2 C2 H1 e1 j1 w1
    have er : sq R k m = k z m1 := bd_ok e1
    rw [er] at b
    refine h2 z σ1 L2 C2 j1 m1 F (L2 ++ L') H1 d (fun f hf => ?_) w1 ?_ ?_ ?_ ?_ (b.mono fun f hf => List.mem_append.mpr (.inr hf))
    · rcases List.mem_append.mp hf with e | e
      · exact List.mem_append.mpr (.inl e)
      · exact List.mem_append.mpr (.inr (s f e))
    · intro z2 m2 σ2 L3 C3 H2 e2 j2 w2
      exact q1 z2 m2 σ2 L3 C3 H2 (er.trans e2) j2 (w2.sub fun f hf => by
        rcases List.mem_append.mp hf with e | e
        · exact List.mem_append.mpr (.inl e)
        · exact List.mem_append.mpr (.inr (List.mem_append.mpr (.inr e))))
    · intro z2 m2 σ2 L3 C3 H2 e2 j2 w2
      exact q2 z2 m2 σ2 L3 C3 H2 (er.trans e2) j2 (w2.sub fun f hf => by
        rcases List.mem_append.mp hf with e | e
        · exact List.mem_append.mpr (.inl e)
        · exact List.mem_append.mpr (.inr (List.mem_append.mpr (.inr e))))
    · intro z2 m2 σ2 L3 C3 H2 e2 j2 w2
      exact q3 z2 m2 σ2 L3 C3 H2 (er.trans e2) j2 (w2.sub fun f hf => by
        rcases List.mem_append.mp hf with e | e
        · exact List.mem_append.mpr (.inl e)
        · exact List.mem_append.mpr (.inr (List.mem_append.mpr (.inr e))))
    · intro x m2 v H2 L4 C4 e2 r2 w2
      exact q4 x m2 v H2 L4 C4 (er.trans e2) r2 (w2.sub fun f hf => by
        rcases List.mem_append.mp hf with e | e
        · exact List.mem_append.mpr (.inl e)
        · exact List.mem_append.mpr (.inr (List.mem_append.mpr (.inr e))))
  · intro z m1 σ1 L2 C2 H1 e1 j1 w1
    exact q2 z m1 σ1 L2 C2 H1 (bd_ok e1) j1 w1
  · intro z m1 σ1 L2 C2 H1 e1 j1 w1
    exact q3 z m1 σ1 L2 C2 H1 (bd_ok e1) j1 w1
  · intro x m1 v H1 L4 C4 e1 r1 w1
    exact q4 x m1 v H1 L4 C4 (bd_ok e1) r1 w1
  · exact b.fst
/-- more facts -/
theorem SV.sub {R : SM μ (Fl τ ρ)} {L0 : List (V × D)} (h : SV G Cp t σ L0 C R Jn Jl) (s : ∀ f ∈ L0, f ∈ L) : SV G Cp t σ L C R Jn Jl := by
  intro m F L' H d s' w q1 q2 q3 q4 b
  exact h m F L' H d (fun f hf => s' f (s f hf)) w q1 q2 q3 q4 b
/-- what is done first, then what follows -/
theorem sv_bd {α : Type} {x : SM μ α} {k : α → SM μ (Fl τ ρ)} (hc : Sub Cp C)
    (h1 : ∀ m F L' H (d : Ends), (∀ f ∈ L, f ∈ L') → Wd G.K G.O L' (C m ++ F) H →
      (∀ a m' σ' L2 C2 H', x m = .ok a m' → Wd G.K G.O (L2 ++ L') (C2 m' ++ F) H' → SV G Cp u σ' (L2 ++ L) C2 (k a) Jn Jl → u d σ' H') → Bk G C F L' (x m) → t { d with nx := u d } σ H) :
    SV G Cp (tSeq t u) σ L C (bd x k) Jn Jl := by
  intro m F L' H d s w q1 q2 q3 q4 b
  refine h1 m F L' H d s w (fun a m' σ' L2 C2 H' e1 w1 h2 => ?_) (b.fst.subC hc)
  have er : bd x k m = k a m' := bd_ok e1
  rw [er] at b
  have sb : ∀ {L3 : List (V × D)} {C3 : List Root} {H3 : Hp}, Wd G.K G.O (L3 ++ (L2 ++ L')) C3 H3 → Wd G.K G.O (L3 ++ L') C3 H3 := fun {L3 C3 H3} w3 => w3.sub fun f hf => by
    rcases List.mem_append.mp hf with e | e
    · exact List.mem_append.mpr (.inl e)
    · exact List.mem_append.mpr (.inr (List.mem_append.mpr (.inr e)))
  refine h2 m' F (L2 ++ L') H' d (fun f hf => ?_) w1 (fun z2 m2 σ2 L3 C3 H2 e2 j2 w2 => q1 z2 m2 σ2 L3 C3 H2 (er.trans e2) j2 (sb w2)) (fun z2 m2 σ2 L3 C3 H2 e2 j2 w2 => q2 z2 m2 σ2 L3 C3 H2 (er.trans e2) j2 (sb w2))
    (fun z2 m2 σ2 L3 C3 H2 e2 j2 w2 => q3 z2 m2 σ2 L3 C3 H2 (er.trans e2) j2 (sb w2)) (fun x m2 v H2 L4 C4 e2 r2 w2 => q4 x m2 v H2 L4 C4 (er.trans e2) r2 (sb w2)) (b.mono fun f hf => List.mem_append.mpr (.inr hf))
  rcases List.mem_append.mp hf with e | e
  · exact List.mem_append.mpr (.inl e)
  · exact List.mem_append.mpr (.inr (s f e))
theorem sv_asg {σ' : V → St} {k : D → SM μ (Fl τ ρ)} (hc : Sub Cp C) (h : EV G te σ L C E) (hσ : ∀ v, σ.set i (some v) = σ' v) (hk : ∀ v x, SV G Cp u (σ' v) ((v, x) :: L) C (k x) Jn Jl) : SV G Cp (tSeq (tAsg te (gName i)) u) σ L C (bd E k) Jn Jl :=
  sv_bd hc fun m F L' H d s w q b => h m F L' H _ s w (fun x m1 v H1 e1 w1 => by
    show u d (σ.set i (some v)) H1
    rw [hσ v]
    exact q x m1 (σ' v) [(v, x)] C H1 e1 w1 (hk v x)) b
theorem sv_if {A B : SM μ (Fl τ ρ)} {t1 t2 : TS} (hc : Sub Cp C) (h : TV G tt σ L C T) (h1 : SV G Cp (tSeq t1 u) σ L C A Jn Jl) (h2 : SV G Cp (tSeq t2 u) σ L C B Jn Jl) : SV G Cp (tSeq (tIfS tt t1 t2) u) σ L C (bd T fun c => if c then A else B) Jn Jl :=
  fun m F L' H d s w q1 q2 q3 q4 b => h m F L' H _ s w (fun c m1 H1 e1 w1 => by
    have er : bd T (fun c => if c then A else B) m = (if c then A else B) m1 := bd_ok e1
    rw [er] at b
    cases c with
    | true =>
      exact h1 m1 F L' H1 d s w1 (fun z2 m2 σ2 L3 C3 H2 e2 j2 w2 => q1 z2 m2 σ2 L3 C3 H2 (er.trans e2) j2 w2) (fun z2 m2 σ2 L3 C3 H2 e2 j2 w2 => q2 z2 m2 σ2 L3 C3 H2 (er.trans e2) j2 w2)
        (fun z2 m2 σ2 L3 C3 H2 e2 j2 w2 => q3 z2 m2 σ2 L3 C3 H2 (er.trans e2) j2 w2) (fun x m2 v H2 L4 C4 e2 r2 w2 => q4 x m2 v H2 L4 C4 (er.trans e2) r2 w2) b
    | false =>
      exact h2 m1 F L' H1 d s w1 (fun z2 m2 σ2 L3 C3 H2 e2 j2 w2 => q1 z2 m2 σ2 L3 C3 H2 (er.trans e2) j2 w2) (fun z2 m2 σ2 L3 C3 H2 e2 j2 w2 => q2 z2 m2 σ2 L3 C3 H2 (er.trans e2) j2 w2)
        (fun z2 m2 σ2 L3 C3 H2 e2 j2 w2 => q3 z2 m2 σ2 L3 C3 H2 (er.trans e2) j2 w2) (fun x m2 v H2 L4 C4 e2 r2 w2 => q4 x m2 v H2 L4 C4 (er.trans e2) r2 w2) b) (b.fst.subC hc)
/-- the same, without what follows -/
theorem sv_if1 {A B : SM μ (Fl τ ρ)} {t1 t2 : TS} (hc : Sub Cp C) (h : TV G tt σ L C T) (h1 : SV G Cp t1 σ L C A Jn Jl) (h2 : SV G Cp t2 σ L C B Jn Jl) : SV G Cp (tIfS tt t1 t2) σ L C (bd T fun c => if c then A else B) Jn Jl :=
  fun m F L' H d s w q1 q2 q3 q4 b => h m F L' H _ s w (fun c m1 H1 e1 w1 => by
    have er : bd T (fun c => if c then A else B) m = (if c then A else B) m1 := bd_ok e1
    rw [er] at b
    cases c with
    | true =>
      exact h1 m1 F L' H1 d s w1 (fun z2 m2 σ2 L3 C3 H2 e2 j2 w2 => q1 z2 m2 σ2 L3 C3 H2 (er.trans e2) j2 w2) (fun z2 m2 σ2 L3 C3 H2 e2 j2 w2 => q2 z2 m2 σ2 L3 C3 H2 (er.trans e2) j2 w2)
        (fun z2 m2 σ2 L3 C3 H2 e2 j2 w2 => q3 z2 m2 σ2 L3 C3 H2 (er.trans e2) j2 w2) (fun x m2 v H2 L4 C4 e2 r2 w2 => q4 x m2 v H2 L4 C4 (er.trans e2) r2 w2) b
    | false =>
      exact h2 m1 F L' H1 d s w1 (fun z2 m2 σ2 L3 C3 H2 e2 j2 w2 => q1 z2 m2 σ2 L3 C3 H2 (er.trans e2) j2 w2) (fun z2 m2 σ2 L3 C3 H2 e2 j2 w2 => q2 z2 m2 σ2 L3 C3 H2 (er.trans e2) j2 w2)
        (fun z2 m2 σ2 L3 C3 H2 e2 j2 w2 => q3 z2 m2 σ2 L3 C3 H2 (er.trans e2) j2 w2) (fun x m2 v H2 L4 C4 e2 r2 w2 => q4 x m2 v H2 L4 C4 (er.trans e2) r2 w2) b) (b.fst.subC hc)
end
section
open PySem.Spec PyProof.Rows SM
variable {X : Cx} {tg : Expr}
def iSeq (K : PySem.W.Frag) (tl : TE) : TI := fun σ H R => tl σ H fun x H1 => ∃ a, x = .ref a ∧ (((∃ xs, SqL K H1 a xs) ∧ R (Itl K a) H1) ∨ ((∃ xs, SqT K H1 a xs) ∧ R (Itt K a) H1))
theorem pi_seq {l : Expr} {tl : TE} (hl : PE X l tl) : PI X tg l (iSeq X.K tl) := by
  refine ⟨fun pins s σ H R I h => ?_⟩
  refine thn (hl.run pins s σ H _ I h) fun v s1 ⟨x, H1, I1, r1, q1⟩ => ?_
  obtain ⟨a, e, q1⟩ := q1
  subst e
  cases r1
  rcases q1 with ⟨⟨xs, hq⟩, q⟩ | ⟨⟨xs, hq⟩, q⟩
  · obtain ⟨its, rv, p, hz⟩ := I1.list hq
    refine wpAny_pyIter_list p.isList ?_
    refine ⟨s1.heap.objs.size, [s1.heap.objs.size], _, _, H1, rfl, I1.kept (t' := s1.toks) fun b o e => Heap.get?_push_of_some _ e, turn_list a _, ⟨_, Heap.get?_push_size _ rfl, rfl, rfl⟩, fun b hb => ?_, q⟩
    have e : b = s1.heap.objs.size := by simpa using hb
    subst e
    exact I1.fpOk (Nat.le_refl _) (I1.hok.fresh (Nat.le_refl _))
  · obtain ⟨its, rv, p, hz⟩ := I1.tuple hq
    refine wpAny_pyIter_tuple (show s1.heap.IsTuple a its.toArray from p) ?_
    refine ⟨s1.heap.objs.size, [s1.heap.objs.size], _, _, H1, rfl, I1.kept (t' := s1.toks) fun b o e => Heap.get?_push_of_some _ e, turn_tuple a _, ⟨_, Heap.get?_push_size _ rfl, rfl, rfl⟩, fun b hb => ?_, q⟩
    have e : b = s1.heap.objs.size := by simpa using hb
    subst e
    exact I1.fpOk (Nat.le_refl _) (I1.hok.fresh (Nat.le_refl _))
end
namespace SM
variable {μ : Type}
def itS (E : SM μ D) : SM μ (List D) := bd E fun d => of (seqD d)
def rgL (a b : Int) : List D := (List.range (b - a).toNat).map fun i => .int (a + (i : Nat))
def rngD : List D → Option (List D)
  | [.int b] => if -(2 ^ 62) ≤ b ∧ b < 2 ^ 62 then some (rgL 0 b) else none
  | [.int a, .int b] => if -(2 ^ 62) ≤ a ∧ a < 2 ^ 62 ∧ -(2 ^ 62) ≤ b ∧ b < 2 ^ 62 then some (rgL a b) else none
  | _ => none
def itR (Es : SM μ (List D)) : SM μ (List D) := bd Es fun ds => of (rngD ds)
def lc (I : SM μ (List D)) (T : D → SM μ Bool) (E : D → SM μ D) : SM μ D := bd I fun xs => bd (lcS T E xs []) fun ys => pu (.list ys)
end SM
section
open SM
variable {X : Cx} {μ τ τ' ρ : Type} {G : Gx} {σ : St} {L : List (V × D)} {C Cp : μ → List Root} {te ta tb tc : TE} {tt tu : TT} {t u : TS} {E E1 E2 E3 : SM μ D} {T T1 T2 : SM μ Bool} {Jn : Shp μ τ} {Jl : Shp μ ρ} {i j : Nat}
theorem itok_lst {a : Addr} {xs : List D} {L0 : List (V × D)} (h : (V.ref a, PyData.list xs) ∈ L0) : ItOk G (Itl G.K a) xs L0 := by
  intro L C H s w i
  obtain ⟨B, wb⟩ := w
  obtain ⟨p, vs, e, hl, ha⟩ := Dt.lst_inv (wb.ft _ (s _ h))
  cases e
  refine ⟨fun x hx => ?_, fun hi => ⟨vs, hl.sq, by rw [ha.len]; exact hi⟩⟩
  obtain ⟨v, hv, hd⟩ := ha.get hx
  refine ⟨⟨vs, v, hl.sq, hv⟩, fun u H' y => ?_⟩
  obtain ⟨e, y⟩ := y
  subst e
  have := y vs hl.sq
  rw [hv] at this
  cases this
  exact ⟨B, wb.fact hd⟩
theorem itok_tup {a : Addr} {xs : List D} {L0 : List (V × D)} (h : (V.ref a, PyData.tuple xs) ∈ L0) : ItOk G (Itt G.K a) xs L0 := by
  intro L C H s w i
  obtain ⟨B, wb⟩ := w
  obtain ⟨p, vs, e, hl, ha⟩ := Dt.tup_inv (wb.ft _ (s _ h))
  cases e
  refine ⟨fun x hx => ?_, fun hi => ⟨vs, hl.sq, by rw [ha.len]; exact hi⟩⟩
  obtain ⟨v, hv, hd⟩ := ha.get hx
  refine ⟨⟨vs, v, hl.sq, hv⟩, fun u H' y => ?_⟩
  obtain ⟨e, y⟩ := y
  subst e
  have := y vs hl.sq
  rw [hv] at this
  cases this
  exact ⟨B, wb.fact hd⟩
theorem iv_seq (h : EV G te σ L C E) : IV G (iSeq G.K te) σ L C (itS E) := by
  intro m F L' H R s w q b
  refine h m F L' H _ s w (fun x m1 v H1 e1 w1 => ?_) b.fst
  have b1 := b.snd e1
  have fin : ∀ {xs : List D}, seqD x = some xs → itS E m = .ok xs m1 := fun {xs} e => by
    show bd E _ m = _
    rw [bd_ok e1, e]; rfl
  obtain ⟨B, wb⟩ := w1
  cases x with
  | list xs =>
    obtain ⟨p, vs, rfl, hl, ha⟩ := Dt.lst_inv (wb.ft _ (.head _))
    exact ⟨p, rfl, .inl ⟨⟨vs, hl.sq⟩, q xs m1 _ H1 _ (fin rfl) (fun f hf => .tail _ hf) ⟨B, wb⟩ (itok_lst (.head _))⟩⟩
  | tuple xs =>
    obtain ⟨p, vs, rfl, hl, ha⟩ := Dt.tup_inv (wb.ft _ (.head _))
    exact ⟨p, rfl, .inr ⟨⟨vs, hl.sq⟩, q xs m1 _ H1 _ (fin rfl) (fun f hf => .tail _ hf) ⟨B, wb⟩ (itok_tup (.head _))⟩⟩
  | _ => exact absurd rfl b1.2
theorem rgL_get {a b : Int} {i : Nat} {x : D} (h : (rgL a b)[i]? = some x) : i < (b - a).toNat ∧ x = .int (a + i) := by
  unfold rgL at h
  rw [List.getElem?_map] at h
  cases e : (List.range (b - a).toNat)[i]? with
  | none => rw [e] at h; cases h
  | some k =>
    rw [e] at h
    cases h
    rw [List.getElem?_eq_some_iff] at e
    obtain ⟨h1, h2⟩ := e
    rw [List.getElem_range] at h2
    rw [List.length_range] at h1
    exact ⟨h1, by rw [h2]⟩
theorem itok_rng {a b : Int} {L0 : List (V × D)} : ItOk G (Itr a (b - a).toNat) (rgL a b) L0 := by
  intro L C H s w i
  refine ⟨fun x hx => ?_, fun hi => ?_⟩
  · obtain ⟨h1, rfl⟩ := rgL_get hx
    refine ⟨h1, fun u H' y => ?_⟩
    obtain ⟨e, y⟩ := y
    subst e y
    exact w.fact fun _ _ => .int _
  · unfold rgL at hi
    rw [List.length_map, List.length_range] at hi
    exact hi
theorem iv_rng1 {ta : TA} {E : SM μ D} (h : AV G ta σ L C (ac E a0)) : IV G (iRng1 ta) σ L C (itR (ac E a0)) := by
  intro m F L' H R s w q b
  refine h m F L' H _ s w (fun xs m1 vs H1 L2 e1 s2 i2 w1 => ?_) b.fst
  have b1 := b.snd e1
  have hx : ∃ x, xs = [x] := by
    unfold ac at e1
    cases eE : E m with
    | ok x m' => rw [bd_ok eE] at e1; cases e1; exact ⟨x, rfl⟩
    | exc x m' => rw [bd_exc eE] at e1; cases e1
    | bad => rw [bd_bad eE] at e1; cases e1
  obtain ⟨x, rfl⟩ := hx
  cases x with
  | int n =>
    simp only [rngD] at b1
    split at b1
    · next c =>
      obtain ⟨v, rfl, hv⟩ := i2.one
      obtain ⟨B, hd⟩ := w1.dt hv
      rw [hd.int_inv]
      refine ⟨n, rfl, c.1, c.2, ?_⟩
      have hi : ItOk G (Itr 0 n.toNat) (rgL 0 n) L2 := by
        have := itok_rng (G := G) (a := 0) (b := n) (L0 := L2)
        rw [Int.sub_zero] at this
        exact this
      refine q (rgL 0 n) m1 _ H1 L2 ?_ s2 w1 hi
      show bd (ac E a0) _ m = _
      rw [bd_ok e1]
      simp only [rngD]; rw [if_pos c]; rfl
    · exact absurd rfl b1.2
  | _ => exact absurd rfl b1.2
/-- what is stored at a target, then the rest -/
def tTgt (g : TG) (v : V) (t : TS) : TS := fun d σ H => g v σ H fun σ2 H2 => t d σ2 H2
theorem forS_step {xs : List D} {i : Nat} {x : D} (h : xs[i]? = some x) : xs.drop i = x :: xs.drop (i + 1) := by
  rw [List.getElem?_eq_some_iff] at h
  obtain ⟨h1, h2⟩ := h
  rw [List.drop_eq_getElem_cons h1, h2]
theorem sv_for {wi : TI} {I : SM μ (List D)} {b : D → τ' → SM μ (Fl τ' τ')} {J : Shp μ τ'} {s0 : τ'} {L0 : List (V × D)} {g : TG} {tb : TS} (hc : Sub Cp C) (hi : IV G wi σ L C I) (h0 : J s0 σ L0 C) (hl : ∀ f ∈ L0, f ∈ L)
    (hC : ∀ s σ' L2 C2, J s σ' L2 C2 → Sub Cp C2)
    (hb : ∀ s σ' L2 C2, J s σ' L2 C2 → ∀ v x, SV G Cp (tTgt g v tb) σ' ((v, x) :: (L2 ++ L)) C2 (b x s) J J) : SV G Cp (tFor wi g tb) σ L C (bd I fun xs => forS xs s0 b) J Jl := by
  intro m F L' H d s w q1 q2 q3 q4 bk
  refine hi m F L' H _ s w (fun xs m1 It H1 L1 e1 s1 w1 hit => ?_) (bk.fst.subC hc)
  have er : bd I (fun xs => forS xs s0 b) m = (forS xs s0 b : SM μ (Fl τ' ρ)) m1 := bd_ok e1
  rw [er] at bk
  refine ⟨fun i n σ' H' => n = xs.length - i ∧ i ≤ xs.length ∧ ∃ z m' L2 C2, (forS xs s0 b : SM μ (Fl τ' ρ)) m1 = forS (xs.drop i) z b m' ∧ J z σ' L2 C2 ∧ Wd G.K G.O (L2 ++ L1) (C2 m' ++ F) H', ⟨xs.length, by simp, Nat.zero_le _, s0, m1, L0, C, rfl, h0, w1.sub fun f hf => ?_⟩, ?_⟩
  · rcases List.mem_append.mp hf with e | e
    · exact s1 f (s f (hl f e))
    · exact e
  · rintro i n σ' H' ⟨rfl, hin, z, m', L2, C2, ez, jz, wz⟩
    have hI := hit _ _ _ (fun f hf => List.mem_append.mpr (.inr hf)) wz i
    by_cases hlt : i < xs.length
    · have hx : xs[i]? = some xs[i] := List.getElem?_eq_getElem hlt
      obtain ⟨go, hy⟩ := hI.1 _ hx
      rw [forS_step hx] at ez
      rw [ez] at bk
      refine .inr ⟨go, fun σ'' H'' => ∃ z m' L2 C2, (forS xs s0 b : SM μ (Fl τ' ρ)) m1 = forS (xs.drop (i + 1)) z b m' ∧ J z σ'' L2 C2 ∧ Wd G.K G.O (L2 ++ L1) (C2 m' ++ F) H'', fun σ'' H'' hN => ⟨xs.length - (i + 1), by omega, rfl, hlt, hN⟩, fun v H2 y => ?_⟩
      have w2 := hy v H2 y
      have bb : Bk G Cp F L' ((b xs[i] z) m') := (show Bk G Cp F L' (bd (b xs[i] z) _ m') from bk).fst
      have sb : ∀ {L3 : List (V × D)} {C3 : List Root} {H3 : Hp}, Wd G.K G.O (L3 ++ ((v, xs[i]) :: (L2 ++ L1))) C3 H3 → Wd G.K G.O (L3 ++ L1) C3 H3 := fun {L3 C3 H3} w3 => w3.sub fun f hf => by
        rcases List.mem_append.mp hf with e | e
        · exact List.mem_append.mpr (.inl e)
        · exact List.mem_append.mpr (.inr (.tail _ (List.mem_append.mpr (.inr e))))
      have sb' : ∀ {L3 : List (V × D)} {C3 : List Root} {H3 : Hp}, Wd G.K G.O (L3 ++ L1) C3 H3 → Wd G.K G.O (L3 ++ L') C3 H3 := fun {L3 C3 H3} w3 => w3.sub fun f hf => by
        rcases List.mem_append.mp hf with e | e
        · exact List.mem_append.mpr (.inl e)
        · exact List.mem_append.mpr (.inr (s1 f e))
      refine hb z σ' L2 C2 jz v xs[i] m' F ((v, xs[i]) :: (L2 ++ L1)) H2 _ (fun f hf => ?_) w2 ?_ ?_ ?_ ?_ (bb.mono fun f hf => .tail _ (List.mem_append.mpr (.inr (s1 f hf))))
      · rcases List.mem_cons.mp hf with e | e
        · rw [e]; exact .head _
        · rcases List.mem_append.mp e with e | e
          · exact .tail _ (List.mem_append.mpr (.inl e))
          · exact .tail _ (List.mem_append.mpr (.inr (s1 f (s f e))))
      · intro z2 m2 σ3 L3 C3 H3 e3 j3 w3
        exact ⟨z2, m2, L3, C3, ez.trans (bd_ok e3), j3, sb w3⟩
      · intro z2 m2 σ3 L3 C3 H3 e3 j3 w3
        exact q1 z2 m2 σ3 L3 C3 H3 (er.trans (ez.trans (bd_ok e3))) j3 (sb' (sb w3))
      · intro z2 m2 σ3 L3 C3 H3 e3 j3 w3
        exact ⟨z2, m2, L3, C3, ez.trans (bd_ok e3), j3, sb w3⟩
      · intro x m2 v2 H3 L4 C4 e3 r3 w3
        exact q4 x m2 v2 H3 L4 C4 (er.trans (ez.trans (bd_ok e3))) r3 (sb' (sb w3))
    · have e : i = xs.length := by omega
      subst e
      rw [List.drop_length] at ez
      refine .inl ⟨hI.2 (Nat.le_refl _), q1 z m' σ' L2 C2 H' (er.trans ez) jz (wz.sub fun f hf => ?_)⟩
      rcases List.mem_append.mp hf with e | e
      · exact List.mem_append.mpr (.inl e)
      · exact List.mem_append.mpr (.inr (s1 f e))
end
section
open SM
variable {X : Cx} {μ τ τ' ρ : Type} {G : Gx} {σ : St} {L : List (V × D)} {C Cp : μ → List Root} {te ta tb tc : TE} {tt tu : TT} {t u : TS} {E E1 E2 E3 : SM μ D} {T T1 T2 : SM μ Bool} {Jn : Shp μ τ} {Jl : Shp μ ρ} {i j : Nat} {v : V} {x : D}
def tTgts (g : TGs) (vs : List V) (t : TS) : TS := fun d σ H => g vs σ H fun σ2 H2 => t d σ2 H2
theorem tg_name {R : SM μ (Fl τ ρ)} {σ' : St} (hσ : σ.set i (some v) = σ') (h : SV G Cp u σ' L C R Jn Jl) : SV G Cp (tTgt (gName i) v u) σ L C R Jn Jl := by
  subst hσ
  exact h
theorem tgs_nil {R : SM μ (Fl τ ρ)} (h : SV G Cp u σ L C R Jn Jl) : SV G Cp (tTgts gNil [] u) σ L C R Jn Jl := fun m F L' H d s w q1 q2 q3 q4 bk => ⟨rfl, h m F L' H d s w q1 q2 q3 q4 bk⟩
theorem tgs_cons {R : SM μ (Fl τ ρ)} {g : TG} {gs : TGs} {vs : List V} (h : SV G Cp (tTgt g v (tTgts gs vs u)) σ L C R Jn Jl) : SV G Cp (tTgts (gCons g gs) (v :: vs) u) σ L C R Jn Jl := fun m F L' H d s w q1 q2 q3 q4 bk => ⟨v, vs, rfl, h m F L' H d s w q1 q2 q3 q4 bk⟩
/-- parts of a tuple, found among the facts -/
theorem dt_parts {K : PySem.W.Frag} {O : Og} {L : List (V × D)} {C : List Root} {H : Hp} {v : V} {ds : List D} (w : Wd K O L C H) (h : (v, PyData.tuple ds) ∈ L) : ∃ p vs, v = .ref p ∧ SqT K H p vs ∧ vs.length = ds.length ∧ Wd K O (vs.zip ds ++ L) C H := by
  obtain ⟨B, wb⟩ := w
  obtain ⟨p, vs, rfl, hl, ha⟩ := Dt.tup_inv (wb.ft _ h)
  refine ⟨p, vs, rfl, hl.sq, ha.len, B, wb.fts fun f hf => ?_⟩
  rcases List.mem_append.mp hf with e | e
  · have : ∀ {vs : List V} {ds : List D}, DtAll K B H vs ds → ∀ f ∈ vs.zip ds, Dt K B H f.1 f.2 := by
      intro vs
      induction vs with
      | nil => intro ds h f hf; cases hf
      | cons a r ih =>
        intro ds h f hf
        cases h with
        | cons x y =>
          rcases List.mem_cons.mp hf with e | e
          · subst e; exact x
          · exact ih y f e
    exact this ha f e
  · exact wb.ft f e
/-- more facts on top, taken off at the end -/
theorem sv_more {R : SM μ (Fl τ ρ)} {L1 : List (V × D)} (h : SV G Cp t σ (L1 ++ L) C R Jn Jl) {m : μ} {F : List Root} {L' : List (V × D)} {H : Hp} {d : Ends} (s : ∀ f ∈ L, f ∈ L') (w : Wd G.K G.O (L1 ++ L') (C m ++ F) H)
    (q1 : ∀ s m' σ' L2 C2 H', R m = .ok (.nx s) m' → Jn s σ' L2 C2 → Wd G.K G.O (L2 ++ L') (C2 m' ++ F) H' → d.nx σ' H')
    (q2 : ∀ s m' σ' L2 C2 H', R m = .ok (.bk s) m' → Jl s σ' L2 C2 → Wd G.K G.O (L2 ++ L') (C2 m' ++ F) H' → d.bk σ' H')
    (q3 : ∀ s m' σ' L2 C2 H', R m = .ok (.ct s) m' → Jl s σ' L2 C2 → Wd G.K G.O (L2 ++ L') (C2 m' ++ F) H' → d.ct σ' H')
    (q4 : ∀ x m' v H' L1 C1, R m = .ok (.rt x) m' → G.rf v x L1 C1 → Wd G.K G.O (L1 ++ L') (C1 ++ (Cp m' ++ F)) H' → d.rt v H') (bk : Bk G Cp F L' (R m)) : t d σ H := by
  have sb : ∀ {L3 : List (V × D)} {C3 : List Root} {H3 : Hp}, Wd G.K G.O (L3 ++ (L1 ++ L')) C3 H3 → Wd G.K G.O (L3 ++ L') C3 H3 := fun {L3 C3 H3} w3 => w3.sub fun f hf => by
    rcases List.mem_append.mp hf with e | e
    · exact List.mem_append.mpr (.inl e)
    · exact List.mem_append.mpr (.inr (List.mem_append.mpr (.inr e)))
  refine h m F (L1 ++ L') H d (fun f hf => ?_) w (fun z2 m2 σ2 L3 C3 H2 e2 j2 w2 => q1 z2 m2 σ2 L3 C3 H2 e2 j2 (sb w2)) (fun z2 m2 σ2 L3 C3 H2 e2 j2 w2 => q2 z2 m2 σ2 L3 C3 H2 e2 j2 (sb w2))
    (fun z2 m2 σ2 L3 C3 H2 e2 j2 w2 => q3 z2 m2 σ2 L3 C3 H2 e2 j2 (sb w2)) (fun x m2 v H2 L4 C4 e2 r2 w2 => q4 x m2 v H2 L4 C4 e2 r2 (sb w2)) (bk.mono fun f hf => List.mem_append.mpr (.inr hf))
  rcases List.mem_append.mp hf with e | e
  · exact List.mem_append.mpr (.inl e)
  · exact List.mem_append.mpr (.inr (s f e))
theorem lz0 {α : Type} {l : List α} (h : l.length = 0) : l = [] := List.eq_nil_of_length_eq_zero h
theorem lz1 {α : Type} {l : List α} (h : l.length = 1) : ∃ a, l = [a] := by
  cases l with
  | nil => cases h
  | cons a l => rw [lz0 (l := l) (Nat.succ.inj h)]; exact ⟨a, rfl⟩
theorem lz2 {α : Type} {l : List α} (h : l.length = 2) : ∃ a b, l = [a, b] := by
  cases l with
  | nil => cases h
  | cons a l => obtain ⟨b, rfl⟩ := lz1 (l := l) (Nat.succ.inj h); exact ⟨a, b, rfl⟩
/-- target = e, any target -/
theorem sv_asgT {g : TG} {k : D → SM μ (Fl τ ρ)} (hc : Sub Cp C) (h : EV G te σ L C E) (hk : ∀ v x, SV G Cp (tTgt g v u) σ ((v, x) :: L) C (k x) Jn Jl) : SV G Cp (tSeq (tAsg te g) u) σ L C (bd E k) Jn Jl := by
  intro m F L' H d s w q1 q2 q3 q4 b
  refine h m F L' H _ s w (fun x m1 v H1 e1 w1 => ?_) (b.fst.subC hc)
  have er : bd E k m = k x m1 := bd_ok e1
  exact sv_more (t := tTgt g v u) (L1 := [(v, x)]) (hk v x) s w1 (fun z2 m2 σ2 L3 C3 H2 e2 j2 w2 => q1 z2 m2 σ2 L3 C3 H2 (er.trans e2) j2 w2) (fun z2 m2 σ2 L3 C3 H2 e2 j2 w2 => q2 z2 m2 σ2 L3 C3 H2 (er.trans e2) j2 w2)
    (fun z2 m2 σ2 L3 C3 H2 e2 j2 w2 => q3 z2 m2 σ2 L3 C3 H2 (er.trans e2) j2 w2) (fun x m2 v H2 L4 C4 e2 r2 w2 => q4 x m2 v H2 L4 C4 (er.trans e2) r2 w2) (by rw [er] at b; exact b)
theorem tv_yes : TV G tYes σ L C (pu true : SM μ Bool) := fun m F L' H Q s w q _ => q true m H rfl w
/-- the new list, on top of what is not told -/
theorem Wd.acc {K : PySem.W.Frag} {O : Og} {L : List (V × D)} {C F : List Root} {H : Hp} {p : Addr} (w : Wd K O L (C ++ F) H) (hp : H p = none) : Wd K O L (C ++ (rootL K p (.list []) :: F)) (upd H p (.lst [])) :=
  (Wd.root (ds := []) w hp .nil).perm List.perm_middle.symm
/-- the walk of a comprehension: g, the target, in σ2; by turns -/
theorem ev_lcG {wi : TI} {I : SM μ (List D)} {T : D → SM μ Bool} {E : D → SM μ D} {g : TG} {vs : List Nat} (hi : IV G wi σ L C I)
    (ht : ∀ v x m F L' H (Q : St → Hp → Prop), (∀ f ∈ (v, x) :: L, f ∈ L') → Wd G.K G.O L' (C m ++ F) H → T x m ≠ .bad →
      (∀ σ2 L1, (∀ f ∈ L', f ∈ L1) → wipe σ2 vs = wipe σ vs → Wd G.K G.O L1 (C m ++ F) H → TV G tt σ2 L1 C (T x) → EV G te σ2 L1 C (E x) → Q σ2 H) → g v (wipe σ vs) H Q) :
    EV G (tLc wi g tt te vs) σ L C (lc I T E) := by
  intro m F L' H Q s w q bk
  refine hi m F L' H _ s w (fun xs m1 It H1 L1 e1 s1 w1 hit => ?_) bk.fst
  have b1 := bk.snd e1
  have er : lc I T E m = bd (lcS T E xs []) (fun ys => pu (.list ys)) m1 := bd_ok e1
  intro A hA
  refine ⟨fun i n H' => n = xs.length - i ∧ i ≤ xs.length ∧ ∃ m' acc, lcS T E xs [] m1 = lcS T E (xs.drop i) acc m' ∧ Wd G.K G.O L1 (C m' ++ (rootL G.K A (.list acc) :: F)) H', ⟨xs.length, by simp, Nat.zero_le _, m1, [], rfl, w1.acc hA⟩, ?_⟩
  rintro i n H' ⟨rfl, hin, m', acc, ez, wz⟩
  have hI := hit _ _ _ (fun f hf => hf) wz i
  have hAO : A ∉ G.O.fp := by
    obtain ⟨B, wb⟩ := w1
    exact wb.nofp hA
  by_cases hlt : i < xs.length
  · have hx : xs[i]? = some xs[i] := List.getElem?_eq_getElem hlt
    obtain ⟨go, hy⟩ := hI.1 _ hx
    rw [forS_step hx] at ez
    refine .inr ⟨go, fun H'' => ∃ m' acc, lcS T E xs [] m1 = lcS T E (xs.drop (i + 1)) acc m' ∧ Wd G.K G.O L1 (C m' ++ (rootL G.K A (.list acc) :: F)) H'', fun H'' hN => ⟨xs.length - (i + 1), by omega, rfl, hlt, hN⟩, fun v H2 y => ?_⟩
    have w2 := hy v H2 y
    have b2 : Bk G C F L' (lcS T E (xs[i] :: xs.drop (i + 1)) acc m') := by
      have := b1.fst
      rw [ez] at this
      exact this
    have b3 : Bk G C F L' (T xs[i] m') := (show Bk G C F L' (bd (T xs[i]) _ m') from b2).fst
    have toF : ∀ {α : Type} {acc : List D} {r : Rs μ α}, Bk G C F L' r → Bk G C (rootL G.K A (.list acc) :: F) L' r := fun {α acc r} b => ⟨fun e m' cls d H' q w => b.1 e m' cls d H' q (w.subC (((List.Sublist.refl _).append (List.sublist_cons_self _ _)).cons₂ _)), b.2⟩
    refine ht v xs[i] m' (rootL G.K A (.list acc) :: F) ((v, xs[i]) :: L1) H2 _ (fun f hf => ?_) w2 b3.2 (fun σ2 L2 sL2 hw w3 hT hE => ⟨hw, ?_⟩)
    · rcases List.mem_cons.mp hf with e | e
      · rw [e]; exact .head _
      · exact .tail _ (s1 f (s f e))
    · refine hT m' (rootL G.K A (.list acc) :: F) L2 H2 _ (fun f hf => hf) w3 (fun c m3 H3 e3 w4 => ?_) ((toF b3).mono fun f hf => sL2 f (.tail _ (s1 f hf)))
      have e4 : lcS T E (xs[i] :: xs.drop (i + 1)) acc m' = (if c then bd (E xs[i]) fun y => if acc.length < sizeLine then lcS T E (xs.drop (i + 1)) (acc ++ [y]) else bad else lcS T E (xs.drop (i + 1)) acc) m3 := bd_ok e3
      have sb : ∀ {C3 : List Root} {H3 : Hp}, Wd G.K G.O L2 C3 H3 → Wd G.K G.O L1 C3 H3 := fun {C3 H3} w => w.sub fun f hf => sL2 f (.tail _ hf)
      cases c with
      | false =>
        rw [if_neg (by decide)]
        exact ⟨m3, acc, ez.trans e4, sb w4⟩
      | true =>
        rw [if_pos rfl]
        have b4 : Bk G C F L' (bd (E xs[i]) (fun y => if acc.length < sizeLine then lcS T E (xs.drop (i + 1)) (acc ++ [y]) else bad) m3) := by
          rw [e4] at b2
          exact b2
        refine hE m3 (rootL G.K A (.list acc) :: F) L2 H3 _ (fun f hf => hf) w4 (fun y m4 u H4 e5 w5 => ?_) ((toF b4.fst).mono fun f hf => sL2 f (.tail _ (s1 f hf)))
        have b5 := b4.snd e5
        by_cases hz : acc.length < sizeLine
        · have w6 := w5.perm List.perm_middle
          obtain ⟨B, wb⟩ := w6
          obtain ⟨ds, us, e6, hA4, hda⟩ := wb.rt _ (.head _)
          cases e6
          refine ⟨us, hA4, by rw [hda.len]; exact hz, m4, acc ++ [y], ez.trans (e4.trans ?_), ?_⟩
          · show bd (E xs[i]) _ m3 = _
            rw [bd_ok e5, if_pos hz]
          · have w7 : Wd G.K G.O ((u, y) :: L2) (rootL G.K A (.list (acc ++ [y])) :: (C m4 ++ F)) (upd H4 A (.lst (us ++ [u]))) :=
              Wd.put ⟨B, wb⟩ fun B' f hr => by
                obtain ⟨ds', us', e6, hA5, hda5⟩ := hr
                cases e6
                rw [hA4] at hA5
                cases hA5
                exact hda5.app (.cons (f _ (.head _)) .nil)
            exact (w7.perm List.perm_middle.symm).sub fun f hf => .tail _ (sL2 f (.tail _ hf))
        · rw [if_neg hz] at b5
          exact absurd rfl b5.2
  · have e : i = xs.length := by omega
    subst e
    rw [List.drop_length] at ez
    refine .inl ⟨hI.2 (Nat.le_refl _), ?_⟩
    have w2 := (wz.perm List.perm_middle).freeze hAO
    refine q (.list acc) m' (.ref A) H' ?_ (w2.sub fun f hf => ?_)
    · rw [er]
      show bd (lcS T E xs []) _ m1 = _
      rw [bd_ok (show lcS T E xs [] m1 = .ok acc m' from ez)]; rfl
    · rcases List.mem_cons.mp hf with e | e
      · rw [e]; exact .head _
      · exact .tail _ (s1 f e)
theorem TV.sub {T : SM μ Bool} {L0 : List (V × D)} (h : TV G tt σ L0 C T) (s : ∀ f ∈ L0, f ∈ L) : TV G tt σ L C T := fun m F L' H Q s' w q b => h m F L' H Q (fun f hf => s' f (s f hf)) w q b
theorem EV.sub {L0 : List (V × D)} (h : EV G te σ L0 C E) (s : ∀ f ∈ L0, f ∈ L) : EV G te σ L C E := fun m F L' H Q s' w q b => h m F L' H Q (fun f hf => s' f (s f hf)) w q b
/-- one name -/
theorem ev_lc1 {wi : TI} {I : SM μ (List D)} {T : D → SM μ Bool} {E : D → SM μ D} {vs : List Nat} {σ2 : V → St} (hi : IV G wi σ L C I) (hσ : ∀ v, (wipe σ vs).set i (some v) = σ2 v) (hw : ∀ v, wipe (σ2 v) vs = wipe σ vs)
    (hT : ∀ v x, TV G tt (σ2 v) ((v, x) :: L) C (T x)) (hE : ∀ v x, EV G te (σ2 v) ((v, x) :: L) C (E x)) : EV G (tLc wi (gName i) tt te vs) σ L C (lc I T E) :=
  ev_lcG hi fun v x m F L' H Q s w _ q => by
    show Q ((wipe σ vs).set i (some v)) H
    rw [hσ]
    exact q (σ2 v) L' (fun f hf => hf) (hw v) w ((hT v x).sub s) ((hE v x).sub s)
/-- two names -/
theorem ev_lc2 {wi : TI} {I : SM μ (List D)} {T : D → D → SM μ Bool} {E : D → D → SM μ D} {vs : List Nat} {σ2 : V → V → St} (hi : IV G wi σ L C I) (hσ : ∀ v w, ((wipe σ vs).set i (some v)).set j (some w) = σ2 v w) (hw : ∀ v w, wipe (σ2 v w) vs = wipe σ vs)
    (hT : ∀ v w x y, TV G tt (σ2 v w) ((v, x) :: (w, y) :: L) C (T x y)) (hE : ∀ v w x y, EV G te (σ2 v w) ((v, x) :: (w, y) :: L) C (E x y)) : EV G (tLc wi (gTup G.K 2 (gCons (gName i) (gCons (gName j) gNil))) tt te vs) σ L C (lc I (fun z => unp2 z T) (fun z => unp2 z E)) :=
  ev_lcG hi fun v x m F L' H Q s w b q => by
    unfold unp2 at b
    split at b
    · next a c =>
      obtain ⟨p, us, rfl, hl, hlen, w2⟩ := dt_parts w (s _ (.head _))
      match us, hlen with
      | [v1, v2], _ =>
        refine ⟨p, [v1, v2], rfl, hl, rfl, v1, [v2], rfl, v2, [], rfl, rfl, ?_⟩
        show Q (((wipe σ vs).set i (some v1)).set j (some v2)) H
        rw [hσ]
        have s2 : ∀ f ∈ (v1, a) :: (v2, c) :: L, f ∈ [v1, v2].zip [a, c] ++ L' := fun f hf => by
          rcases List.mem_cons.mp hf with e | hf
          · rw [e]; exact .head _
          · rcases List.mem_cons.mp hf with e | hf
            · rw [e]; exact .tail _ (.head _)
            · exact .tail _ (.tail _ (s f (.tail _ hf)))
        exact q (σ2 v1 v2) _ (fun f hf => .tail _ (.tail _ hf)) (hw v1 v2) w2 ((hT v1 v2 a c).sub s2) ((hE v1 v2 a c).sub s2)
    · exact absurd rfl b
end
section
open SM
/-- a def that changes nothing -/
def SpPX (K : PySem.W.Frag) (XR : D → Value → Option Addr → Root) (n : Nat) (mf : List D → SM Unit D) : Sp := fun vs H Q E => vs.length = n ∧ ∃ (B : Addr → Prop) (ds : List D), (∀ p, B p → ∃ o, H p = some o) ∧ DtAll K B H vs ds ∧ mf ds () ≠ .bad ∧
  (∀ x v H' B', mf ds () = .ok x () → Same H H' → (∀ p, B p → B' p) → (∀ p, B' p → B p ∨ (H p = none ∧ ∃ o, H' p = some o)) → Dt K B' H' v x → Q v H') ∧
  (∀ e cls d H' B', mf ds () = .exc e () → Same H H' → (∀ p, B p → B' p) → (∀ p, B' p → B p ∨ (H p = none ∧ ∃ o, H' p = some o)) → (XR e cls d).P B' H' → (∀ p ∈ (XR e cls d).fp H', H p = none ∧ ¬ B' p) → ((XR e cls d).fp H').Nodup → E cls d H')
/-- a def that changes the list that it is handed first -/
def SpDX (K : PySem.W.Frag) (XR : D → Value → Option Addr → Root) (n : Nat) (mf : List D → SM D D) : Sp := fun vs H Q E => vs.length = n + 1 ∧ ∃ (B : Addr → Prop) (a : Addr) (us : List V) (ds : List D) (m : D), vs = .ref a :: us ∧ (∀ p, B p → ∃ o, H p = some o) ∧ ¬ B a ∧ DtAll K B H us ds ∧ (rootL K a m).P B H ∧ mf ds m ≠ .bad ∧
  (∀ x m' v H' B', mf ds m = .ok x m' → (∀ p o, p ≠ a → H p = some o → H' p = some o) → (∀ p, B p → B' p) → (∀ p, B' p → B p ∨ (H p = none ∧ ∃ o, H' p = some o)) → Dt K B' H' v x → (rootL K a m').P B' H' → Q v H') ∧
  (∀ e m' cls d H' B', mf ds m = .exc e m' → (∀ p o, p ≠ a → H p = some o → H' p = some o) → (∀ p, B p → B' p) → (∀ p, B' p → B p ∨ (H p = none ∧ ∃ o, H' p = some o)) → (XR e cls d).P B' H' → (∀ p ∈ (XR e cls d).fp H', H p = none ∧ ¬ B' p) → ((XR e cls d).fp H').Nodup → (rootL K a m').P B' H' → E cls d H')
/-- the same of defs that raise nothing -/
def SpP (K : PySem.W.Frag) (n : Nat) (mf : List D → SM Unit D) : Sp := fun vs H Q _ => vs.length = n ∧ ∃ (B : Addr → Prop) (ds : List D) (x : D), (∀ p, B p → ∃ o, H p = some o) ∧ DtAll K B H vs ds ∧ mf ds () = .ok x () ∧
  (∀ v H' B', Same H H' → (∀ p, B p → B' p) → (∀ p, B' p → B p ∨ (H p = none ∧ ∃ o, H' p = some o)) → Dt K B' H' v x → Q v H')
def SpD (K : PySem.W.Frag) (n : Nat) (mf : List D → SM D D) : Sp := fun vs H Q _ => vs.length = n + 1 ∧ ∃ (B : Addr → Prop) (a : Addr) (us : List V) (ds : List D) (m x m' : D), vs = .ref a :: us ∧ (∀ p, B p → ∃ o, H p = some o) ∧ ¬ B a ∧ DtAll K B H us ds ∧ (rootL K a m).P B H ∧ mf ds m = .ok x m' ∧
  (∀ v H' B', (∀ p o, p ≠ a → H p = some o → H' p = some o) → (∀ p, B p → B' p) → (∀ p, B' p → B p ∨ (H p = none ∧ ∃ o, H' p = some o)) → Dt K B' H' v x → (rootL K a m').P B' H' → Q v H')
def SpN (K : PySem.W.Frag) (n : Nat) (mf : List D → SM Unit D) : Sp := fun vs H Q _ => vs.length = n ∧ ∃ (B : Addr → Prop) (ds : List D) (x : D), (∀ p, B p → ∃ o, H p = some o) ∧ DtAll K B H vs ds ∧ mf ds () = .ok x () ∧
  (∀ a H' B', Same H H' → (∀ p, B p → B' p) → (∀ p, B' p → B p ∨ (H p = none ∧ ∃ o, H' p = some o)) → H a = none → ¬ B' a → (rootL K a x).P B' H' → Q (.ref a) H')
end
namespace SM
variable {μ : Type}
def u0 (f : SM μ D) : List D → SM μ D
  | [] => f
  | _ => bad
def u1 (f : D → SM μ D) : List D → SM μ D
  | [a] => f a
  | _ => bad
def u2 (f : D → D → SM μ D) : List D → SM μ D
  | [a, b] => f a b
  | _ => bad
def u3 (f : D → D → D → SM μ D) : List D → SM μ D
  | [a, b, c] => f a b c
  | _ => bad
def u4 (f : D → D → D → D → SM μ D) : List D → SM μ D
  | [a, b, c, d] => f a b c d
  | _ => bad
def u5 (f : D → D → D → D → D → SM μ D) : List D → SM μ D
  | [a, b, c, d, e] => f a b c d e
  | _ => bad
def u6 (f : D → D → D → D → D → D → SM μ D) : List D → SM μ D
  | [a, b, c, d, e, g] => f a b c d e g
  | _ => bad
def u7 (f : D → D → D → D → D → D → D → SM μ D) : List D → SM μ D
  | [a, b, c, d, e, g, h] => f a b c d e g h
  | _ => bad
def cP (mf : List D → SM Unit D) (Es : SM μ (List D)) : SM μ D := bd Es fun xs => px (mf xs)
def cD (mf : List D → SM μ D) (Es : SM μ (List D)) : SM μ D := bd Es fun xs => qx (mf xs)
def cPX (mf : List D → SM Unit D) (Es : SM μ (List D)) : SM μ D := bd Es fun xs => p0 (mf xs)
theorem u0_len {f : SM μ D} {ds : List D} {m : μ} (h : u0 f ds m ≠ .bad) : ds.length = 0 := by unfold u0 at h; split at h <;> first | rfl | exact absurd rfl h
theorem u1_len {f : D → SM μ D} {ds : List D} {m : μ} (h : u1 f ds m ≠ .bad) : ds.length = 1 := by unfold u1 at h; split at h <;> first | rfl | exact absurd rfl h
theorem u2_len {f : D → D → SM μ D} {ds : List D} {m : μ} (h : u2 f ds m ≠ .bad) : ds.length = 2 := by unfold u2 at h; split at h <;> first | rfl | exact absurd rfl h
end SM
section
open SM
variable {X : Cx} {μ τ τ' ρ : Type} {G : Gx} {σ : St} {L : List (V × D)} {C Cp : μ → List Root} {te ta tb tc : TE} {tt tu : TT} {t u : TS} {E E1 E2 E3 : SM μ D} {T T1 T2 : SM μ Bool} {Jn : Shp μ τ} {Jl : Shp μ ρ} {i j : Nat} {v : V} {x : D}
theorem AV.len {ta : TA} {Es : SM μ (List D)} : True := trivial
/-- a further root beside what stands -/
theorem Wb.addR {K : PySem.W.Frag} {O : Og} {B : Addr → Prop} {L : List (V × D)} {Z : List Root} {H : Hp} {r : Root} (wb : Wb K O B L Z H) (hr : r.P B H) (hf : ∀ p ∈ r.fp H, O.H p = Option.none ∧ ¬ B p ∧ p ∉ fps Z H) (hn : (r.fp H).Nodup) : Wb K O B L (r :: Z) H := by
  refine ⟨wb.lo, wb.hi, ?_, fun p hp => ?_, fun p hp => ?_, fun c hc => ?_, wb.ft, wb.kp, wb.oc, wb.bo⟩
  · rw [fps_cons]
    exact List.nodup_append.mpr ⟨hn, wb.nd, fun a ha b hb e => (hf a ha).2.2 (e ▸ hb)⟩
  · rw [fps_cons] at hp
    rcases List.mem_append.mp hp with z | z
    · exact (hf p z).2.1
    · exact wb.nb p z
  · rw [fps_cons] at hp
    rcases List.mem_append.mp hp with z | z
    · exact .inr (hf p z).1
    · exact wb.fr p z
  · rcases List.mem_cons.mp hc with e | e
    · rw [e]; exact hr
    · exact wb.rt c e
theorem ev_cPX {ta : TA} {Es : SM μ (List D)} {mf : List D → SM Unit D} {n : Nat} (hn : ∀ ds, mf ds () ≠ .bad → ds.length = n) (h : AV G ta σ L C Es) : EV G (tCall (SpPX G.K G.XR n mf) [] G.Xk ta) σ L C (cPX mf Es) := by
  intro m F L' H Q s w q b
  refine h m F L' H _ s w (fun xs m1 vs H1 L2 e1 s2 i2 w1 => ?_) b.fst
  have b1 := b.snd e1
  have er : cPX mf Es m = p0 (mf xs) m1 := bd_ok e1
  rw [List.append_nil]
  have nb : mf xs () ≠ .bad := fun z => by
    exact b1.2 (p0_bad z)
  obtain ⟨B, wb⟩ := w1
  refine ⟨by rw [i2.len]; exact hn xs nb, B, xs, wb.bo, i2.dt wb.ft, nb, fun x v H' B' ex sm h1 h2 hd => ?_, fun e cls d H' B' ex sm h1 h2 xr xf xn => ?_⟩
  · refine q x m1 v H' ?_ ⟨B', ((wb.grow sm h1 h2).fact hd).fts fun f hf => ?_⟩
    · rw [er]
      exact p0_ok ex
    · rcases List.mem_cons.mp hf with e | e
      · subst e; exact hd
      · exact (wb.grow sm h1 h2).ft f (s2 f e)
  · refine b.1 e m1 cls d H' ?_ ⟨B', ((wb.grow sm h1 h2).addR xr (fun p hp => ⟨wb.none (xf p hp).1, (xf p hp).2, by rw [wb.same sm]; exact wb.free (xf p hp).1⟩) xn).fts fun f hf => (wb.grow sm h1 h2).ft f (s2 f hf)⟩
    rw [er]
    exact p0_exc ex
theorem Wb.chg_same {K : PySem.W.Frag} {O : Og} {B B' : Addr → Prop} {L : List (V × D)} {Z : List Root} {H H' : Hp} {a : Addr} {m m' : D} (wb : Wb K O B L (rootL K a m :: Z) H) (hk : ∀ p o, p ≠ a → H p = some o → H' p = some o) (h1 : ∀ p, B p → B' p) : fps (rootL K a m' :: Z) H' = fps (rootL K a m :: Z) H := by
  have ha : ¬ B a := wb.nb a (by rw [fps_cons]; exact .head _)
  have hnd := wb.nd
  rw [fps_cons] at hnd
  have hna : a ∉ fps Z H := (List.nodup_cons.mp hnd).1
  have k : Kp B H B' H' := fun p o b e => ⟨h1 p b, hk p o (fun z => ha (by rw [← z]; exact b)) e⟩
  rw [fps_cons, fps_cons, fps_same k (fun c hc => wb.rt c (.tail _ hc)) fun q hq => ?_]
  · rfl
  · obtain ⟨c, hc, hq2⟩ := List.mem_flatMap.mp hq
    obtain ⟨o, ho⟩ := c.occ (wb.rt c (.tail _ hc)) q hq2
    rw [ho]
    exact hk q o (fun z => hna (by rw [← z]; exact hq)) ho
/-- the first root was changed, the rest kept -/
theorem Wb.chg {K : PySem.W.Frag} {O : Og} {B B' : Addr → Prop} {L : List (V × D)} {Z : List Root} {H H' : Hp} {a : Addr} {m m' : D} (wb : Wb K O B L (rootL K a m :: Z) H) (hk : ∀ p o, p ≠ a → H p = some o → H' p = some o)
    (h1 : ∀ p, B p → B' p) (h2 : ∀ p, B' p → B p ∨ (H p = Option.none ∧ ∃ o, H' p = some o)) (hr : (rootL K a m').P B' H') : Wb K O B' L (rootL K a m' :: Z) H' := by
  have ha : ¬ B a := wb.nb a (by rw [fps_cons]; exact .head _)
  have hnd := wb.nd
  rw [fps_cons] at hnd
  have hna : a ∉ fps Z H := (List.nodup_cons.mp hnd).1
  obtain ⟨_, _, _, hoc, _⟩ := wb.rt _ (.head _)
  have k : Kp B H B' H' := fun p o b e => ⟨h1 p b, hk p o (fun z => ha (by rw [← z]; exact b)) e⟩
  have es : fps (rootL K a m' :: Z) H' = fps (rootL K a m :: Z) H := wb.chg_same hk h1
  refine ⟨fun p b => h1 p (wb.lo p b), fun p b => ?_, by rw [es]; exact wb.nd, fun p hp b => ?_, fun p hp => wb.fr p (by rw [← es]; exact hp), fun c hc => ?_, fun f hf => Dt.mono k _ _ (wb.ft f hf), fun p o hp e => ?_, fun p hp => ?_, fun p b => ?_⟩
  · rcases h2 p b with b | n
    · exact wb.hi p b
    · exact .inr (wb.none n.1)
  · rw [es] at hp
    rcases h2 p b with b | n
    · exact wb.nb p hp b
    · exact wb.free n.1 hp
  · rcases List.mem_cons.mp hc with e | e
    · subst e; exact hr
    · refine c.mono k (fun p hp => ?_) (wb.rt c (.tail _ e))
      obtain ⟨o, ho⟩ := c.occ (wb.rt c (.tail _ e)) p hp
      rw [ho]
      exact hk p o (fun z => hna (by rw [← z]; exact mem_fps e hp)) ho
  · by_cases z : p = a
    · subst z
      rcases wb.fr p (by rw [fps_cons]; exact .head _) with y | y
      · exact absurd y hp
      · rw [y] at e; cases e
    · exact hk p o z (wb.kp p o hp e)
  · by_cases z : p = a
    · subst z
      obtain ⟨_, vs, _, h, _⟩ := hr
      exact ⟨_, h⟩
    · obtain ⟨o, ho⟩ := wb.oc p hp
      exact ⟨o, hk p o z ho⟩
  · rcases h2 p b with b | n
    · obtain ⟨o, ho⟩ := wb.bo p b
      exact ⟨o, hk p o (fun z => ha (by rw [← z]; exact b)) ho⟩
    · exact n.2
theorem ev_cP {ta : TA} {Es : SM μ (List D)} {mf : List D → SM Unit D} {n : Nat} (hn : ∀ ds, mf ds () ≠ .bad → ds.length = n) (h : AV G ta σ L C Es) : EV G (tCall (SpP G.K n mf) [] E0 ta) σ L C (cP mf Es) := by
  intro m F L' H Q s w q b
  refine h m F L' H _ s w (fun xs m1 vs H1 L2 e1 s2 i2 w1 => ?_) b.fst
  have b1 := b.snd e1
  have er : cP mf Es m = px (mf xs) m1 := bd_ok e1
  rw [List.append_nil]
  obtain ⟨x, ex⟩ := px_nb b1.2
  obtain ⟨B, wb⟩ := w1
  refine ⟨by rw [i2.len]; exact hn xs (by rw [ex]; intro z; cases z), B, xs, x, wb.bo, i2.dt wb.ft, ex, fun v H' B' sm h1 h2 hd => ?_⟩
  refine q x m1 v H' (er.trans (px_ok ex)) ⟨B', ((wb.grow sm h1 h2).fact hd).fts fun f hf => ?_⟩
  rcases List.mem_cons.mp hf with e | e
  · subst e; exact hd
  · exact (wb.grow sm h1 h2).ft f (s2 f e)
theorem ev_cP0 {mf : List D → SM Unit D} {n : Nat} (hn : ∀ ds, mf ds () ≠ .bad → ds.length = n) : EV G (fun _ H Q => SpP G.K n mf [] H Q E0) σ L C (cP mf a0) := by
  intro m F L' H Q s w q b
  have b1 : Bk G C F L' (px (mf []) m) := b.snd (a := []) (m' := m) rfl
  obtain ⟨x, ex⟩ := px_nb b1.2
  obtain ⟨B, wb⟩ := w
  refine ⟨hn [] (by rw [ex]; intro z; cases z), B, [], x, wb.bo, .nil, ex, fun v H' B' sm h1 h2 hd => ?_⟩
  exact q x m v H' (px_ok ex) ⟨B', (wb.grow sm h1 h2).fact hd⟩
theorem ev_cD {ta : TA} {Z : List Root} {Es : SM D (List D)} {mf : List D → SM D D} {n : Nat} {a : Addr} (hσ : σ[i]? = some (some (.ref a))) (hn : ∀ ds m, mf ds m ≠ .bad → ds.length = n) (h : AV G ta σ L (fun m => rootL G.K a m :: Z) Es) :
    EV G (tCall (SpD G.K n mf) [] E0 (tCons (tVar i) ta)) σ L (fun m => rootL G.K a m :: Z) (cD mf Es) := by
  intro m F L' H Q s w q b
  refine ⟨.ref a, hσ, h m F L' H _ s w (fun xs m1 vs H1 L2 e1 s2 i2 w1 => ?_) b.fst⟩
  have b1 := b.snd e1
  have er : cD mf Es m = qx (mf xs) m1 := bd_ok e1
  show SpD G.K n mf ((.ref a :: vs) ++ []) H1 Q E0
  rw [List.append_nil]
  obtain ⟨x, m', ex⟩ := qx_nb b1.2
  obtain ⟨B, wb⟩ := w1
  have ha : ¬ B a := wb.nb a (by rw [List.cons_append, fps_cons]; exact .head _)
  refine ⟨by rw [List.length_cons, i2.len, hn xs m1 (by rw [ex]; intro z; cases z)], B, a, vs, xs, m1, x, m', rfl, wb.bo, ha, i2.dt wb.ft, wb.rt _ (.head _), ex, fun v H' B' hk h1 h2 hd hr => ?_⟩
  have w2 := Wb.chg (Z := Z ++ F) wb hk h1 h2 hr
  refine q x m' v H' (er.trans (qx_ok ex)) ⟨B', (w2.fact hd).fts fun f hf => ?_⟩
  rcases List.mem_cons.mp hf with e | e
  · subst e; exact hd
  · exact w2.ft f (s2 f e)
theorem zip_dt {K : PySem.W.Frag} {B : Addr → Prop} {H : Hp} : ∀ {vs : List V} {ds : List D}, DtAll K B H vs ds → ∀ f ∈ vs.zip ds, Dt K B H f.1 f.2
  | [], _, _, f, hf => by cases hf
  | a :: r, _, h, f, hf => by
    cases h with
    | cons x y =>
      rcases List.mem_cons.mp hf with e | e
      · subst e; exact x
      · exact zip_dt y f e
/-- the body of a def that changes nothing keeps its promise -/
theorem body_PX {K : PySem.W.Frag} {XR : D → Value → Option Addr → Root} {n : Nat} {mf : List D → SM Unit D} {ts : TS} {N : List Str} {H : Hp} {vs : List V} {Q : VK} {E : XK} (hsp : SpPX K XR n mf vs H Q E)
    (h : ∀ (ds : List D) (O : Og), vs.length = ds.length → ∃ (R : SM Unit (Fl Unit Empty)), mf ds = fin R ∧ SV ⟨K, O, E, XR, rfF⟩ (fun _ => []) ts (start N vs) (vs.zip ds) (fun _ => []) R (fun _ _ _ _ => True) (fun z _ _ _ => z.elim)) : ts { nx := fun _ H' => Q .non H', rt := Q } (start N vs) H := by
  obtain ⟨_, B, ds, hb, hd, nb, q, qx⟩ := hsp
  obtain ⟨R, hR, hS⟩ := h ds ⟨B, H, []⟩ hd.len
  have w0 : Wd K ⟨B, H, []⟩ (vs.zip ds) ([] ++ []) H := ⟨B, fun p b => b, fun p b => .inl b, List.nodup_nil, fun p hp => (by cases hp), fun p hp => (by cases hp), fun c hc => (by cases hc), zip_dt hd, fun p o _ e => e, fun p hp => (by cases hp), hb⟩
  have same : ∀ {L : List (V × D)} {C : List Root} {H' : Hp}, Wd K ⟨B, H, []⟩ L C H' → Same H H' := fun {L C H'} w p o e => by
    obtain ⟨B', wb⟩ := w
    exact wb.kp p o (by intro z; cases z) e
  refine hS () [] (vs.zip ds) H _ (fun f hf => hf) w0 ?_ ?_ ?_ ?_ ?_
  · intro s m' σ' L2 C2 H' e _ w
    have sm := same w
    obtain ⟨B', wb⟩ := w
    refine q .none .non H' B' ?_ sm wb.lo (fun p b => ?_) .non
    · rw [hR]
      exact bd_ok e
    · rcases wb.hi p b with z | z
      · exact .inl z
      · exact .inr ⟨z, wb.bo p b⟩
  · intro s; exact s.elim
  · intro s; exact s.elim
  · rintro x m' v H' _ _ e ⟨rfl, rfl⟩ w
    have sm := same w
    obtain ⟨B', wb⟩ := w
    refine q x v H' B' ?_ sm wb.lo (fun p b => ?_) (wb.ft _ (.head _))
    · rw [hR]
      exact bd_ok e
    · rcases wb.hi p b with z | z
      · exact .inl z
      · exact .inr ⟨z, wb.bo p b⟩
  · refine ⟨fun e m' cls d H' ex w => ?_, fun z => nb ?_⟩
    · have sm := same w
      obtain ⟨B', wb⟩ := w
      have hm : ∀ p ∈ (XR e cls d).fp H', p ∈ fps (XR e cls d :: ([] ++ [])) H' := fun p hp => by rw [fps_cons]; exact List.mem_append.mpr (.inl hp)
      refine qx e cls d H' B' ?_ sm wb.lo (fun p b => ?_) (wb.rt _ (.head _)) (fun p hp => ⟨(wb.fr p (hm p hp)).resolve_left (by intro z; cases z), wb.nb p (hm p hp)⟩) ?_
      · rw [hR]
        exact bd_exc ex
      · rcases wb.hi p b with z | z
        · exact .inl z
        · exact .inr ⟨z, wb.bo p b⟩
      · have := wb.nd
        rw [fps_cons] at this
        exact (List.nodup_append.mp this).1
    · rw [hR]
      exact bd_bad z
/-- the body of a def that changes the list that it is handed first -/
theorem body_DX {K : PySem.W.Frag} {XR : D → Value → Option Addr → Root} {n : Nat} {mf : List D → SM D D} {ts : TS} {N : List Str} {H : Hp} {vs : List V} {Q : VK} {E : XK} (hsp : SpDX K XR n mf vs H Q E)
    (h : ∀ (a : Addr) (us : List V) (ds : List D) (O : Og), vs = .ref a :: us → us.length = ds.length → ∃ (R : SM D (Fl Unit Empty)), mf ds = fin R ∧ SV ⟨K, O, E, XR, rfF⟩ (fun m => [rootL K a m]) ts (start N vs) (us.zip ds) (fun m => [rootL K a m]) R (fun _ _ _ C2 => C2 = fun m => [rootL K a m]) (fun z _ _ _ => z.elim)) : ts { nx := fun _ H' => Q .non H', rt := Q } (start N vs) H := by
  obtain ⟨_, B, a, us, ds, m, rfl, hb, hna, hd, hr, nb, q, qx⟩ := hsp
  obtain ⟨R, hR, hS⟩ := h a us ds ⟨B, H, [a]⟩ rfl hd.len
  have hoc : ∃ o, H a = some o := by
    obtain ⟨_, _, _, h, _⟩ := hr
    exact ⟨_, h⟩
  have w0 : Wd K ⟨B, H, [a]⟩ (us.zip ds) ([rootL K a m] ++ []) H := by
    refine ⟨B, fun p b => b, fun p b => .inl b, ?_, fun p hp => ?_, fun p hp => ?_, fun c hc => ?_, zip_dt hd, fun p o _ e => e, fun p hp => ?_, hb⟩
    · show [a].Nodup; simp
    · have : p = a := by simpa [fps, rootL] using hp
      subst this; exact hna
    · have : p = a := by simpa [fps, rootL] using hp
      subst this; exact .inl (.head _)
    · have : c = rootL K a m := by simpa using hc
      subst this; exact hr
    · have : p = a := by simpa using hp
      subst this; exact hoc
  have same : ∀ {L : List (V × D)} {C : List Root} {H' : Hp}, Wd K ⟨B, H, [a]⟩ L C H' → ∀ p o, p ≠ a → H p = some o → H' p = some o := fun {L C H'} w p o hp e => by
    obtain ⟨B', wb⟩ := w
    exact wb.kp p o (by simpa using hp) e
  refine hS m [] (us.zip ds) H _ (fun f hf => hf) w0 ?_ ?_ ?_ ?_ ?_
  · intro s m' σ' L2 C2 H' e hC2 w
    rw [show C2 = fun m => [rootL K a m] from hC2] at w
    have sm := same w
    obtain ⟨B', wb⟩ := w
    refine q .none m' .non H' B' ?_ sm wb.lo (fun p b => ?_) .non (wb.rt _ (.head _))
    · rw [hR]
      exact bd_ok e
    · rcases wb.hi p b with z | z
      · exact .inl z
      · exact .inr ⟨z, wb.bo p b⟩
  · intro s; exact s.elim
  · intro s; exact s.elim
  · rintro x m' v H' _ _ e ⟨rfl, rfl⟩ w
    have sm := same w
    obtain ⟨B', wb⟩ := w
    refine q x m' v H' B' ?_ sm wb.lo (fun p b => ?_) (wb.ft _ (.head _)) (wb.rt _ (.head _))
    · rw [hR]
      exact bd_ok e
    · rcases wb.hi p b with z | z
      · exact .inl z
      · exact .inr ⟨z, wb.bo p b⟩
  · refine ⟨fun e m' cls d H' ex w => ?_, fun z => nb ?_⟩
    · have sm := same w
      obtain ⟨B', wb⟩ := w
      have hm : ∀ p ∈ (XR e cls d).fp H', p ∈ fps (XR e cls d :: ([rootL K a m'] ++ [])) H' := fun p hp => by rw [fps_cons]; exact List.mem_append.mpr (.inl hp)
      have hnd := wb.nd
      rw [fps_cons] at hnd
      refine qx e m' cls d H' B' ?_ sm wb.lo (fun p b => ?_) (wb.rt _ (.head _)) (fun p hp => ⟨(wb.fr p (hm p hp)).resolve_left (fun z => ?_), wb.nb p (hm p hp)⟩) (List.nodup_append.mp hnd).1 (wb.rt _ (.tail _ (.head _)))
      · rw [hR]
        exact bd_exc ex
      · rcases wb.hi p b with z | z
        · exact .inl z
        · exact .inr ⟨z, wb.bo p b⟩
      · exact (List.nodup_append.mp hnd).2.2 p hp a (.head _) (List.mem_singleton.mp z)
    · rw [hR]
      exact bd_bad z
theorem body_P {K : PySem.W.Frag} {n : Nat} {mf : List D → SM Unit D} {ts : TS} {N : List Str} {H : Hp} {vs : List V} {Q : VK} {E : XK} (hsp : SpP K n mf vs H Q E)
    (h : ∀ (ds : List D) (O : Og), vs.length = ds.length → ∃ (R : SM Unit (Fl Unit Empty)), mf ds = fin R ∧ SV ⟨K, O, E0, noX, rfF⟩ (fun _ => []) ts (start N vs) (vs.zip ds) (fun _ => []) R (fun _ _ _ _ => True) (fun z _ _ _ => z.elim)) : ts { nx := fun _ H' => Q .non H', rt := Q } (start N vs) H := by
  obtain ⟨hlen, B, ds, x, hb, hd, ex, q⟩ := hsp
  refine body_PX (K := K) (XR := noX) (n := n) (mf := mf) (N := N) (E := E0) ⟨hlen, B, ds, hb, hd, (by rw [ex]; intro z; cases z), fun x' v H' B' ex' sm h1 h2 hd' => ?_, fun e cls d H' B' ex' => ?_⟩ h
  · rw [ex] at ex'
    cases ex'
    exact q v H' B' sm h1 h2 hd'
  · rw [ex] at ex'
    cases ex'
theorem body_D {K : PySem.W.Frag} {n : Nat} {mf : List D → SM D D} {ts : TS} {N : List Str} {H : Hp} {vs : List V} {Q : VK} {E : XK} (hsp : SpD K n mf vs H Q E)
    (h : ∀ (a : Addr) (us : List V) (ds : List D) (O : Og), vs = .ref a :: us → us.length = ds.length → ∃ (R : SM D (Fl Unit Empty)), mf ds = fin R ∧ SV ⟨K, O, E0, noX, rfF⟩ (fun m => [rootL K a m]) ts (start N vs) (us.zip ds) (fun m => [rootL K a m]) R (fun _ _ _ C2 => C2 = fun m => [rootL K a m]) (fun z _ _ _ => z.elim)) : ts { nx := fun _ H' => Q .non H', rt := Q } (start N vs) H := by
  obtain ⟨hlen, B, a, us, ds, m, x, m', e0, hb, hna, hd, hr, ex, q⟩ := hsp
  refine body_DX (K := K) (XR := noX) (n := n) (mf := mf) (N := N) (E := E0) ⟨hlen, B, a, us, ds, m, e0, hb, hna, hd, hr, (by rw [ex]; intro z; cases z), fun x' m2 v H' B' ex' hk h1 h2 hd' hr' => ?_, fun e m2 cls d H' B' ex' => ?_⟩ h
  · rw [ex] at ex'
    cases ex'
    exact q v H' B' hk h1 h2 hd' hr'
  · rw [ex] at ex'
    cases ex'
end
section
open SM
variable {X : Cx} {μ τ τ' ρ : Type} {G : Gx} {σ : St} {L : List (V × D)} {C Cp : μ → List Root} {te ta tb tc : TE} {tt tu : TT} {t u : TS} {E E1 E2 E3 : SM μ D} {T T1 T2 : SM μ Bool} {Jn : Shp μ τ} {Jl : Shp μ ρ} {i j : Nat} {v : V} {x d : D} {l : Addr}
/-- a root is frozen -/
theorem sv_freeze {R : SM μ (Fl τ ρ)} {C' : μ → List Root} (hC : ∀ m, (C m).Perm (rootL G.K l d :: C' m)) (hl : l ∉ G.O.fp) (h : SV G Cp t σ ((.ref l, d) :: L) C' R Jn Jl) : SV G Cp t σ L C R Jn Jl := by
  intro m F L' H e s w q1 q2 q3 q4 b
  have w2 : Wd G.K G.O ((.ref l, d) :: L') (C' m ++ F) H := Wd.freeze (C := C' m ++ F) (w.perm ((hC m).append_right F)) hl
  exact sv_more (L1 := [(.ref l, d)]) h s w2 q1 q2 q3 q4 b
/-- roots forgotten -/
theorem sv_drop {R : SM μ (Fl τ ρ)} {C' : μ → List Root} (hC : ∀ m, (C' m).Sublist (C m)) (h : SV G Cp t σ L C' R Jn Jl) : SV G Cp t σ L C R Jn Jl :=
  fun m F L' H e s w q1 q2 q3 q4 b => h m F L' H e s (w.subC ((hC m).append_right F)) q1 q2 q3 q4 b
/-- x = [..], a root -/
theorem sv_new {ta : TA} {Es : SM μ (List D)} {k : D → SM μ (Fl τ ρ)} {σ' : V → St} {C' : Addr → D → μ → List Root} (hc : Sub Cp C) (h : AV G ta σ L C Es) (hσ : ∀ v, σ.set i (some v) = σ' v) (hC : ∀ p d m, (rootL G.K p d :: C m).Perm (C' p d m))
    (hk : ∀ p d, p ∉ G.O.fp → SV G Cp u (σ' (.ref p)) L (C' p d) (k d) Jn Jl) : SV G Cp (tSeq (tAsg (tLst ta) (gName i)) u) σ L C (bd (opL lstD Es) k) Jn Jl := by
  refine sv_bd hc fun m F L' H d s w q b => ?_
  refine h m F L' H _ s w (fun xs m1 vs H1 L2 e1 s2 i2 w1 => ?_) b.fst
  have b1 := b.snd e1
  unfold lstD at b1
  split at b1
  · next c =>
    refine ⟨by rw [i2.len]; exact c, fun p hp => ?_⟩
    show u d (σ.set i (some (.ref p))) _
    rw [hσ]
    have hpf : p ∉ G.O.fp := by
      obtain ⟨B, wb⟩ := w1
      exact wb.nofp hp
    have w2 : Wd G.K G.O L2 (rootL G.K p (.list xs) :: (C m1 ++ F)) (upd H1 p (.lst vs)) := w1.root hp i2
    have w3 : Wd G.K G.O L2 (C' p (.list xs) m1 ++ F) (upd H1 p (.lst vs)) := w2.perm ((hC p (.list xs) m1).append_right F)
    refine q (.list xs) m1 (σ' (.ref p)) [] (C' p (.list xs)) _ ?_ (w3.sub fun f hf => s2 f hf) (hk p (.list xs) hpf)
    show bd Es _ m = _
    rw [bd_ok e1]
    show of (lstD xs) m1 = _
    unfold lstD
    rw [if_pos c]; rfl
  · exact absurd rfl b1.2
/-- the root's object -/
theorem rootAt {K : PySem.W.Frag} {O : Og} {L : List (V × D)} {Z : List Root} {H : Hp} (w : Wd K O L (rootL K l d :: Z) H) : ∃ B ds vs, Wb K O B L (rootL K l d :: Z) H ∧ d = .list ds ∧ H l = some (.lst vs) ∧ DtAll K B H vs ds := by
  obtain ⟨B, wb⟩ := w
  obtain ⟨ds, vs, h1, h2, h3⟩ := wb.rt _ (.head _)
  exact ⟨B, ds, vs, wb, h1, h2, h3⟩
theorem sv_app {k : D → SM μ (Fl τ ρ)} {Z : μ → List Root} {C' : D → μ → List Root} (hc : Sub Cp C) (hv : σ[i]? = some (some (.ref l))) (h : EV G te σ L C E) (hC : ∀ m, (C m).Perm (rootL G.K l d :: Z m)) (hC' : ∀ d' m, (rootL G.K l d' :: Z m).Perm (C' d' m))
    (hk : ∀ d', SV G Cp u σ L (C' d') (k d') Jn Jl) : SV G Cp (tSeq (tDrop (tBM G.K "list" rAppend (tVar i) (tCons te tNil))) u) σ L C (bd (bd E fun x => of (appD d x)) k) Jn Jl := by
  refine sv_bd hc fun m F L' H e s w q b => ?_
  obtain ⟨B0, ds0, vs0, wb0, rfl, h0, _⟩ := rootAt (Z := Z m ++ F) (w.perm ((hC m).append_right F))
  refine ⟨.ref l, hv, .inl ⟨rfl, vs0, SqL.of h0⟩, h m F L' H _ s w (fun x m1 v H1 e1 w1 => ?_) b.fst⟩
  have b1 := b.snd e1
  obtain ⟨B, ds, vs, wb, ed, h1, hd⟩ := rootAt (Z := Z m1 ++ F) (w1.perm ((hC m1).append_right F))
  cases ed
  simp only [appD] at b1
  split at b1
  · next c =>
    refine ⟨l, vs, v, rfl, rfl, h1, by rw [hd.len]; exact c, ?_⟩
    have w2 : Wd G.K G.O ((v, x) :: L') (rootL G.K l (.list (ds0 ++ [x])) :: (Z m1 ++ F)) (upd H1 l (.lst (vs ++ [v]))) := Wd.put ⟨B, wb⟩ fun B' f hr => by
      obtain ⟨ds', us', e6, hA5, hda5⟩ := hr
      cases e6
      rw [h1] at hA5
      cases hA5
      exact hda5.app (.cons (f _ (.head _)) .nil)
    have w3 : Wd G.K G.O ((v, x) :: L') (C' (.list (ds0 ++ [x])) m1 ++ F) (upd H1 l (.lst (vs ++ [v]))) := w2.perm ((hC' _ m1).append_right F)
    refine q (.list (ds0 ++ [x])) m1 σ [] (C' (.list (ds0 ++ [x]))) _ ?_ (w3.sub fun f hf => .tail _ hf) (hk _)
    show bd E _ m = _
    rw [bd_ok e1]
    simp only [appD]
    rw [if_pos c]; rfl
  · exact absurd rfl b1.2
theorem ev_sidx {Z : List Root} {E : SM D D} (hv : σ[i]? = some (some (.ref l))) (h : EV G te σ L (fun m => rootL G.K l m :: Z) E) : EV G (tOp (rIx G.K) (tVar i) te) σ L (fun m => rootL G.K l m :: Z) (bd E fun x => bd gets fun m => of (idxD m x)) := by
  intro m F L' H Q s w q b
  refine ⟨.ref l, hv, h m F L' H _ s w (fun x m1 v H1 e1 w1 => ?_) b.fst⟩
  have b1 : Bk G _ F L' (of (idxD m1 x) m1) := b.snd e1
  obtain ⟨B, ds, vs, wb, ed, h1, hd⟩ := rootAt (Z := Z ++ F) w1
  subst ed
  cases x with
  | int n =>
    simp only [idxD] at b1
    cases ea : atI ds n with
    | none => rw [ea] at b1; exact absurd rfl b1.2
    | some y =>
      obtain ⟨v', hv', hd'⟩ := atI_dt hd ea
      refine .inl ⟨l, vs, n, v', rfl, (wb.ft _ (.head _)).int_inv, SqL.of h1, hv', q y (.list ds) v' H1 ?_ ?_⟩
      · show bd E _ m = _
        rw [bd_ok e1]
        show of (idxD (.list ds) (.int n)) _ = _
        simp only [idxD]
        rw [ea]; rfl
      · have w2 : Wd G.K G.O ((v', y) :: (v, .int n) :: L') (rootL G.K l (.list ds) :: (Z ++ F)) H1 := ⟨B, wb.fact hd'⟩
        refine w2.sub fun f hf => ?_
        rcases List.mem_cons.mp hf with e | e
        · rw [e]; exact .head _
        · exact .tail _ (.tail _ e)
  | _ => exact absurd rfl b1.2
theorem sv_sset {Z : List Root} {E1 E2 : SM D D} {Cp : D → List Root} {Jn : Shp D τ} {Jl : Shp D ρ} {k : SM D (Fl τ ρ)} (hc : Sub Cp (fun m => rootL G.K l m :: Z)) (hv : σ[i]? = some (some (.ref l))) (h1 : EV G ta σ L (fun m => rootL G.K l m :: Z) E1) (h2 : EV G tb σ L (fun m => rootL G.K l m :: Z) E2)
    (hk : SV G Cp u σ L (fun m => rootL G.K l m :: Z) k Jn Jl) : SV G Cp (tSeq (tAsg ta (gSub (tVar i) tb rSetL)) u) σ L (fun m => rootL G.K l m :: Z) (bd (bd E1 fun y => bd E2 fun x => bd gets fun m => bd (of (setD m x y)) fun m' => puts m') fun _ => k) Jn Jl := by
  refine sv_bd hc fun m F L' H e s w q b => ?_
  refine h1 m F L' H _ s w (fun y m1 vy H1 e1 w1 => ?_) b.fst
  have b1 := b.snd e1
  refine ⟨.ref l, hv, h2 m1 F _ H1 _ (fun f hf => .tail _ (s f hf)) w1 (fun x m2 v H2 e2 w2 => ?_) (b1.fst.mono fun f hf => .tail _ hf)⟩
  have b2 : Bk G _ F L' (bd (of (setD m2 x y)) (fun m' => puts m') m2) := b1.snd e2
  obtain ⟨B, ds, vs, wb, ed, hl, hd⟩ := rootAt (Z := Z ++ F) w2
  subst ed
  cases x with
  | int n =>
    have hset : setD (.list ds) (.int n) y = (match ixN ds.length n with | some j => some (.list (ds.set j y)) | none => none) := rfl
    cases ea : ixN ds.length n with
    | none =>
      rw [hset, ea] at b2
      exact absurd rfl b2.2
    | some j =>
      rw [ea] at hset
      refine ⟨l, vs, n, j, rfl, (wb.ft _ (.head _)).int_inv, hl, by rw [hd.len]; exact ea, ?_⟩
      have w3 : Wd G.K G.O ((v, .int n) :: (vy, y) :: L') (rootL G.K l (.list (ds.set j y)) :: (Z ++ F)) (upd H2 l (.lst (vs.set j vy))) := Wd.put ⟨B, wb⟩ fun B' f hr => by
        obtain ⟨ds', us', e6, hA5, hda5⟩ := hr
        cases e6
        rw [hl] at hA5
        cases hA5
        exact hda5.set (f _ (.tail _ (.head _)))
      refine q () (.list (ds.set j y)) σ [] (fun m => rootL G.K l m :: Z) _ ?_ (w3.sub fun f hf => .tail _ (.tail _ hf)) hk
      show bd E1 _ m = _
      rw [bd_ok e1, bd_ok e2]
      show bd (of (setD (.list ds) (.int n) y)) _ _ = _
      rw [hset]; rfl
  | _ => exact absurd rfl b2.2
/-- a def's body that returns a new list -/
def NV (G : Gx) (ts : TS) (σ : St) (L : List (V × D)) (R : SM Unit (Fl Unit Empty)) : Prop :=
  ∀ m F L' H (d : Ends), (∀ f ∈ L, f ∈ L') → Wd G.K G.O L' ([] ++ F) H → (∀ x m' a H', R m = .ok (.rt x) m' → a ∉ G.O.fp → Wd G.K G.O L' (rootL G.K a x :: F) H' → d.rt (.ref a) H') → Bk G (fun _ => []) F L' (R m) → ts d σ H
/-- the body of a def that makes a list -/
theorem body_N {K : PySem.W.Frag} {n : Nat} {mf : List D → SM Unit D} {ts : TS} {N : List Str} {H : Hp} {vs : List V} {Q : VK} {E : XK} (hsp : SpN K n mf vs H Q E)
    (h : ∀ (ds : List D) (O : Og), vs.length = ds.length → ∃ (R : SM Unit (Fl Unit Empty)), mf ds = fin R ∧ NV ⟨K, O, E0, noX, rfF⟩ ts (start N vs) (vs.zip ds) R) : ts { nx := fun _ H' => Q .non H', rt := Q } (start N vs) H := by
  obtain ⟨hlen, B, ds, x0, hb, hd, ex, q⟩ := hsp
  obtain ⟨R, hR, hS⟩ := h ds ⟨B, H, []⟩ hd.len
  have w0 : Wd K ⟨B, H, []⟩ (vs.zip ds) ([] ++ []) H := ⟨B, fun p b => b, fun p b => .inl b, List.nodup_nil, fun p hp => (by cases hp), fun p hp => (by cases hp), fun c hc => (by cases hc), zip_dt hd, fun p o _ e => e, fun p hp => (by cases hp), hb⟩
  rw [hR] at ex
  refine hS () [] (vs.zip ds) H _ (fun f hf => hf) w0 (fun x m' a H' e _ w => ?_) ⟨fun e m' cls d H' z => ?_, fun z => ?_⟩
  · have e2 : fin R () = .ok x m' := bd_ok e
    rw [e2] at ex
    cases ex
    obtain ⟨B', wb⟩ := w
    refine q a H' B' (fun p o e => wb.kp p o (by intro z; cases z) e) wb.lo (fun p b => ?_) ?_ (wb.nb a (.head _)) (wb.rt _ (.head _))
    · rcases wb.hi p b with z | z
      · exact .inl z
      · exact .inr ⟨z, wb.bo p b⟩
    · exact (wb.fr a (.head _)).resolve_left (by intro z; cases z)
  · have e2 : fin R () = .exc e m' := bd_exc z
    rw [e2] at ex
    cases ex
  · have e2 : fin R () = .bad := bd_bad z
    rw [e2] at ex
    cases ex
/-- return [..] of such a def -/
theorem nv_ret {ta : TA} {Es : SM Unit (List D)} (h : AV G ta σ L (fun _ => []) Es) : NV G (tSeq (tRet (tLst ta)) u) σ L (bd (opL lstD Es) fun x => pu (.rt x)) := by
  intro m F L' H d s w q b
  refine h m F L' H _ s w (fun xs m1 vs H1 L2 e1 s2 i2 w1 => ?_) b.fst.fst
  have b1 := b.fst.snd e1
  unfold lstD at b1
  split at b1
  · next c =>
    refine ⟨by rw [i2.len]; exact c, fun p hp => ?_⟩
    have hpf : p ∉ G.O.fp := by
      obtain ⟨B, wb⟩ := w1
      exact wb.nofp hp
    have w2 : Wd G.K G.O L2 (rootL G.K p (.list xs) :: F) (upd H1 p (.lst vs)) := Wd.root w1 hp i2
    refine q (.list xs) m1 p _ ?_ hpf (w2.sub fun f hf => s2 f hf)
    have e2 : opL lstD Es m = .ok (.list xs) m1 := by
      show bd Es _ m = _
      rw [bd_ok e1]
      show of (lstD xs) m1 = _
      unfold lstD
      rw [if_pos c]; rfl
    rw [bd_ok e2]; rfl
  · exact absurd rfl b1.2
theorem nv_if {A B : SM Unit (Fl Unit Empty)} {T : SM Unit Bool} {t1 t2 : TS} (h : TV G tt σ L (fun _ => []) T) (h1 : NV G (tSeq t1 u) σ L A) (h2 : NV G (tSeq t2 u) σ L B) : NV G (tSeq (tIfS tt t1 t2) u) σ L (bd T fun c => if c then A else B) :=
  fun m F L' H d s w q b => h m F L' H _ s w (fun c m1 H1 e1 w1 => by
    have er : bd T (fun c => if c then A else B) m = (if c then A else B) m1 := bd_ok e1
    rw [er] at b
    cases c with
    | true => exact h1 m1 F L' H1 d s w1 (fun x m' a H' e => q x m' a H' (er.trans e)) b
    | false => exact h2 m1 F L' H1 d s w1 (fun x m' a H' e => q x m' a H' (er.trans e)) b) b.fst
theorem nv_assoc {t1 t2 : TS} {R : SM Unit (Fl Unit Empty)} (h : NV G (tSeq t1 (tSeq t2 u)) σ L R) : NV G (tSeq (tSeq t1 t2) u) σ L R := h
theorem nv_skip {R : SM Unit (Fl Unit Empty)} (h : NV G u σ L R) : NV G (tSeq tNext u) σ L R := h
def sp_law (K : PySem.W.Frag) : Sp := fun vs H Q _ => ∃ (a : Addr) (ns : List Int), vs = [.ref a] ∧ SqL K H a (ns.map V.int) ∧ ns.length ≤ 63 ∧ (∀ z ∈ ns, Builtin.Int.intBits z ≤ 1048576) ∧ ∀ H', Q (.bl true) H'
end
section
open SM
variable {μ τ ρ : Type} {G : Gx} {σ σ' : St} {L L0 : List (V × D)} {C Cp : μ → List Root} {t : TS} {Jn : Shp μ τ} {Jl : Shp μ ρ} {f : V × D}
theorem sub0 {C : μ → List Root} : Sub (fun _ => []) C := fun _ => List.nil_sublist _
theorem sub1 {r : μ → Root} {Z : μ → List Root} : Sub (fun m => [r m]) (fun m => r m :: Z m) := fun _ => List.Sublist.cons₂ _ (List.nil_sublist _)
theorem lnil : ∀ f ∈ ([] : List (V × D)), f ∈ L := fun _ h => by cases h
theorem lcons (h : f ∈ L) (h2 : ∀ f ∈ L0, f ∈ L) : ∀ g ∈ f :: L0, g ∈ L := fun g hg => by
  rcases List.mem_cons.mp hg with e | e
  · subst e; exact h
  · exact h2 g e
theorem sv_st {R : SM μ (Fl τ ρ)} (e : σ = σ') (h : SV G Cp t σ' L C R Jn Jl) : SV G Cp t σ L C R Jn Jl := by rw [e]; exact h
theorem nv_st {R : SM Unit (Fl Unit Empty)} (e : σ = σ') (h : NV G t σ' L R) : NV G t σ L R := by rw [e]; exact h
end
namespace SM
def addI : D → D → Option D
  | .int a, .int b => some (.int (a + b))
  | _, _ => none
def subI : D → D → Option D
  | .int a, .int b => some (.int (a - b))
  | _, _ => none
end SM
namespace SM
end SM
section
open SM
variable {μ : Type} {G : Gx} {σ : St} {L : List (V × D)} {C : μ → List Root}
/-- a new root beside what stands -/
theorem Wb.newr {K : PySem.W.Frag} {O : Og} {B B' : Addr → Prop} {L : List (V × D)} {Z : List Root} {H H' : Hp} {a : Addr} {x : D} (wb : Wb K O B L Z H) (sm : Same H H') (h1 : ∀ p, B p → B' p) (h2 : ∀ p, B' p → B p ∨ (H p = Option.none ∧ ∃ o, H' p = some o)) (hna : H a = Option.none) (hnB : ¬ B' a) (hr : (rootL K a x).P B' H') : Wb K O B' L (rootL K a x :: Z) H' := by
  have wg := wb.grow sm h1 h2
  refine ⟨wg.lo, wg.hi, ?_, ?_, ?_, ?_, wg.ft, wg.kp, wg.oc, wg.bo⟩
  · rw [fps_cons]
    exact List.nodup_cons.mpr ⟨fun z => wb.free hna (by rw [← wb.same sm]; exact z), wg.nd⟩
  · intro p hp
    rw [fps_cons] at hp
    rcases List.mem_cons.mp hp with z | z
    · subst z; exact hnB
    · exact wg.nb p z
  · intro p hp
    rw [fps_cons] at hp
    rcases List.mem_cons.mp hp with z | z
    · subst z; exact .inr (wb.none hna)
    · exact wg.fr p z
  · intro c hc
    rcases List.mem_cons.mp hc with z | z
    · subst z; exact hr
    · exact wg.rt c z
end
/-- a test by a value's truth, its text named (for blocks of their own) -/
def tTru (K : PySem.W.Frag) (te : TE) : TT := fun σ H Q => te σ H fun x H' => ∃ k, TruV K x H' k ∧ Q k H'
section
variable {K : PySem.W.Frag} {O : Og} {B B' : Addr → Prop} {L L' : List (V × D)} {C C' Z F : List Root} {H H' : Hp} {a p : Addr}
/-- roots are changed within their own places -/
theorem Wb.swap (w : Wb K O B L (C ++ Z) H) (hfp : (fps C H).Perm (fps C' H')) (hk : ∀ q, q ∉ fps C H → H' q = H q) (hoc : ∀ q ∈ fps C H, ∃ o, H' q = some o) (hr : Kp B H B H' → ∀ c ∈ C', c.P B H') : Wb K O B L (C' ++ Z) H' := by
  have hnd := w.nd
  rw [fps_app] at hnd
  obtain ⟨n1, n2, n3⟩ := List.nodup_append.mp hnd
  have hC : ∀ q ∈ fps C H, q ∈ fps (C ++ Z) H := fun q hq => by rw [fps_app]; exact List.mem_append.mpr (.inl hq)
  have hZ : ∀ q ∈ fps Z H, q ∈ fps (C ++ Z) H := fun q hq => by rw [fps_app]; exact List.mem_append.mpr (.inr hq)
  have k : Kp B H B H' := fun q o b e => ⟨b, by rw [hk q fun z => w.nb q (hC q z) b]; exact e⟩
  have es : fps Z H' = fps Z H := fps_same k (fun c hc => w.rt c (List.mem_append.mpr (.inr hc))) fun q hq => hk q fun z => n3 q z q hq rfl
  have hm : ∀ q ∈ fps (C' ++ Z) H', q ∈ fps (C ++ Z) H := fun q hq => by
    rw [fps_app, es] at hq
    rcases List.mem_append.mp hq with e | e
    · exact hC q (hfp.mem_iff.mpr e)
    · exact hZ q e
  refine ⟨w.lo, w.hi, ?_, fun q hq => w.nb q (hm q hq), fun q hq => w.fr q (hm q hq), fun c hc => ?_, fun f hf => Dt.mono k _ _ (w.ft f hf), fun q o hq e => ?_, fun q hq => ?_, fun q b => ?_⟩
  · rw [fps_app, es]
    exact List.nodup_append.mpr ⟨hfp.nodup_iff.mp n1, n2, fun x hx y hy => n3 x (hfp.mem_iff.mpr hx) y hy⟩
  · rcases List.mem_append.mp hc with e | e
    · exact hr k c e
    · refine c.mono k (fun q hq => hk q fun z => n3 q z q (mem_fps e hq) rfl) (w.rt c (List.mem_append.mpr (.inr e)))
  · by_cases z : q ∈ fps C H
    · rcases w.fr q (hC q z) with y | y
      · exact absurd y hq
      · rw [y] at e; cases e
    · rw [hk q z]; exact w.kp q o hq e
  · by_cases z : q ∈ fps C H
    · exact hoc q z
    · rw [hk q z]; exact w.oc q hq
  · rw [hk q fun z => w.nb q (hC q z) b]; exact w.bo q b
/-- lists at ps, their items frozen -/
inductive Rws (K : PySem.W.Frag) (B : Addr → Prop) (H : Hp) : List Addr → List D → Prop
  | nil : Rws K B H [] []
  | cons {p : Addr} {ps : List Addr} {vs : List V} {ds : List D} {rs : List D} : H p = some (.lst vs) → DtAll K B H vs ds → Rws K B H ps rs → Rws K B H (p :: ps) (.list ds :: rs)
theorem Rws.mono (k : Kp B H B' H') : ∀ {ps : List Addr} {rs : List D}, (∀ q ∈ ps, H' q = H q) → Rws K B H ps rs → Rws K B' H' ps rs
  | _, _, _, .nil => .nil
  | p :: _, _, e, .cons h d r => .cons (by rw [e p (.head _)]; exact h) (Dt.monoAll k _ _ d) (Rws.mono k (fun q hq => e q (.tail _ hq)) r)
theorem Rws.occ : ∀ {ps : List Addr} {rs : List D}, Rws K B H ps rs → ∀ q ∈ ps, ∃ o, H q = some o
  | _, _, .nil, q, hq => by cases hq
  | _, _, .cons h d r, q, hq => by
    rcases List.mem_cons.mp hq with e | e
    · subst e; exact ⟨_, h⟩
    · exact r.occ q e
theorem Rws.len : ∀ {ps : List Addr} {rs : List D}, Rws K B H ps rs → ps.length = rs.length
  | _, _, .nil => rfl
  | _, _, .cons h d r => by rw [List.length_cons, List.length_cons, r.len]
theorem Rws.app : ∀ {ps : List Addr} {rs : List D} {p : Addr} {vs : List V} {ds : List D}, Rws K B H ps rs → H p = some (.lst vs) → DtAll K B H vs ds → Rws K B H (ps ++ [p]) (rs ++ [.list ds])
  | _, _, _, _, _, .nil, h, d => .cons h d .nil
  | _, _, _, _, _, .cons h' d' r, h, d => .cons h' d' (r.app h d)
theorem Rws.get : ∀ {ps : List Addr} {rs : List D} {i : Nat} {d : D}, Rws K B H ps rs → rs[i]? = some d → ∃ p vs ds, ps[i]? = some p ∧ d = .list ds ∧ H p = some (.lst vs) ∧ DtAll K B H vs ds
  | _, _, i, d, .nil, e => by cases e
  | _, _, 0, d, .cons h d' r, e => by cases e; exact ⟨_, _, _, rfl, rfl, h, d'⟩
  | _, _, i + 1, d, .cons h d' r, e => by
    obtain ⟨p, vs, ds, a1, a2, a3, a4⟩ := r.get (i := i) e
    exact ⟨p, vs, ds, a1, a2, a3, a4⟩
/-- the row at i is changed -/
theorem Rws.set (k : Kp B H B H') : ∀ {ps : List Addr} {rs : List D} {i : Nat} {p : Addr} {vs : List V} {ds : List D}, ps.Nodup → ps[i]? = some p → (∀ q, q ≠ p → H' q = H q) → H' p = some (.lst vs) → DtAll K B H' vs ds → Rws K B H ps rs → Rws K B H' ps (rs.set i (.list ds))
  | _, _, i, p, _, _, _, hi, _, _, _, .nil => by cases hi
  | _, _, 0, p, vs, ds, hn, hi, hq, hp, hd, .cons h d r => by
    cases hi
    exact .cons hp hd (r.mono k fun q hq' => hq q fun z => (List.nodup_cons.mp hn).1 (by rw [← z]; exact hq'))
  | p0 :: _, _, i + 1, p, vs, ds, hn, hi, hq, hp, hd, .cons h d r => by
    refine .cons ?_ (Dt.monoAll k _ _ d) (Rws.set k (i := i) (List.nodup_cons.mp hn).2 hi hq hp hd r)
    rw [hq p0 fun z => (List.nodup_cons.mp hn).1 (by rw [z]; exact List.mem_of_getElem? hi)]
    exact h
theorem Rws.dt (hb : ∀ p, B p → B' p) : ∀ {ps : List Addr} {rs : List D}, (∀ q ∈ ps, B' q) → Rws K B H ps rs → DtAll K B' H (ps.map .ref) rs
  | _, _, _, .nil => .nil
  | p :: _, _, e, .cons h d r => .cons (.lst ⟨e p (.head _), h⟩ (Dt.monoAll (fun q o b z => ⟨hb q b, z⟩) _ _ d)) (Rws.dt hb (fun q hq => e q (.tail _ hq)) r)
/-- a list at a of the lists at ps -/
def rootLL (K : PySem.W.Frag) (a : Addr) (ps : List Addr) (d : D) : Root where
  fp := fun _ => a :: ps
  same := fun _ _ _ => rfl
  P := fun B H => ∃ rs, d = .list rs ∧ H a = some (.lst (ps.map .ref)) ∧ Rws K B H ps rs
  mono := fun k e h => by
    obtain ⟨rs, h1, h2, h3⟩ := h
    exact ⟨rs, h1, by rw [e a (.head _)]; exact h2, h3.mono k fun q hq => e q (.tail _ hq)⟩
  occ := fun h q hq => by
    obtain ⟨rs, h1, h2, h3⟩ := h
    rcases List.mem_cons.mp hq with z | z
    · subst z; exact ⟨_, h2⟩
    · exact h3.occ q z
/-- a row more -/
theorem Wb.row {ps : List Addr} {rs ds : List D} {ys : List V} (w : Wb K O B L (rootLL K a ps (.list rs) :: Z) H) (hp : H p = Option.none) (hd : DtAll K B H ys ds) : Wb K O B L (rootLL K a (ps ++ [p]) (.list (rs ++ [.list ds])) :: Z) (upd (upd H p (.lst ys)) a (.lst (ps.map .ref ++ [.ref p]))) := by
  have s : Same H (upd H p (.lst ys)) := fun b u q => by rw [upd_ne (ne_of_none q hp)]; exact q
  have nb : ¬ B p := fun b => by
    obtain ⟨o, ho⟩ := w.bo p b
    rw [ho] at hp; cases hp
  have w2 := w.newr (x := .list ds) s (fun _ b => b) (fun _ b => .inl b) hp nb ⟨ds, ys, rfl, upd_same, Dt.monoAll (fun q o b e => ⟨b, s q o e⟩) _ _ hd⟩
  have hpa : p ≠ a := fun z => by
    have := w.free hp
    rw [z, fps_cons] at this
    exact this (List.mem_append.mpr (.inl (.head _)))
  obtain ⟨rs', e1, h1, h2⟩ := w2.rt _ (.tail _ (.head _))
  cases e1
  have hfa : a ∉ ps := by
    have := w.nd
    rw [fps_cons] at this
    exact (List.nodup_cons.mp (List.nodup_append.mp this).1).1
  refine Wb.swap (C := [rootL K p (.list ds), rootLL K a ps (.list rs)]) (C' := [rootLL K a (ps ++ [p]) (.list (rs ++ [.list ds]))]) w2 ?_ ?_ ?_ ?_
  · show (p :: (a :: ps ++ [])).Perm (a :: (ps ++ [p]) ++ [])
    rw [List.append_nil, List.append_nil]
    exact (List.Perm.swap _ _ _).trans ((List.perm_append_singleton p ps).symm.cons _)
  · intro q hq
    exact upd_ne fun z => hq (by rw [z]; exact .tail _ (.head _))
  · intro q hq
    by_cases z : q = a
    · subst z; exact ⟨_, upd_same⟩
    · rw [upd_ne z]
      have hq2 : q = p ∨ q ∈ a :: ps := by simpa [fps, rootL, rootLL] using hq
      rcases hq2 with e | e
      · subst e; exact ⟨_, upd_same⟩
      · exact h2.occ q ((List.mem_cons.mp e).resolve_left z)
  · intro k c hc
    rw [List.mem_singleton.mp hc]
    refine ⟨_, rfl, by rw [upd_same, List.map_append]; rfl, ?_⟩
    refine Rws.app (h2.mono k fun q hq => upd_ne fun z => hfa (by rw [← z]; exact hq)) (by rw [upd_ne hpa]; exact upd_same) (Dt.monoAll k _ _ (Dt.monoAll (fun q o b e => ⟨b, s q o e⟩) _ _ hd))
end
namespace SM
end SM
section
open PySem
open PySem.Sem (wp)
abbrev IsZ (h : Heap) (z TI TO : Addr) (f0 : Value) (b : Bool) : Prop :=
  h.get? z = some { cls := .type "zip", dict := none, data := .fields #[f0, .bool b, .bool false, .ref TI, .ref TO], slots := #[] }
abbrev IsTr (h : Heap) (T : Addr) (a b c : Value) : Prop := h.get? T = some { cls := .type "tuple", data := .seq #[a, b, c] }
section
variable {prog : Program} {w : World} {A : Around} {E : Value → Shared → Prop} {s : Shared}
/-- what a zip of a range and two lists has at step k: where it stands -/
structure Z3St (h : Heap) (z TI TO i1 i2 i3 l1 l2 : Addr) (f0 : Value) (b : Bool) (a n : Int) (k : Nat) (xs ys : Array Value) : Prop where
  z : IsZ h z TI TO f0 b
  ti : IsTr h TI (.ref i1) (.ref i2) (.ref i3)
  to : ∃ p q r, IsTr h TO p q r
  r1 : IsRangeIter h i1 (a + (k : Int)) (n - (k : Int)) 1
  r2 : h.IsListIter i2 l1 k
  r3 : h.IsListIter i3 l2 k
  h1 : h.IsList l1 xs
  h2 : h.IsList l2 ys
end
end
section
open PySem PySem.Spec PyProof.Rows
theorem Z3St.keep {h h' : Heap} {z TI TO i1 i2 i3 l1 l2 : Addr} {f0 : Value} {b : Bool} {a n : Int} {k : Nat} {xs ys : Array Value} (st : Z3St h z TI TO i1 i2 i3 l1 l2 f0 b a n k xs ys)
    (hk : ∀ c ∈ [z, TI, TO, i1, i2, i3, l1, l2], ∀ o, h.get? c = some o → h'.get? c = some o) : Z3St h' z TI TO i1 i2 i3 l1 l2 f0 b a n k xs ys := by
  obtain ⟨hz, hTI, ⟨p, q, r, hTO⟩, hr1, hr2, hr3, hl1, hl2⟩ := st
  exact ⟨hk _ (by simp) _ hz, hk _ (by simp) _ hTI, ⟨p, q, r, hk _ (by simp) _ hTO⟩, hk _ (by simp) _ hr1, hr2.at fun o e => hk _ (by simp) o e, hr3.at fun o e => hk _ (by simp) o e, hl1.at fun o e => hk _ (by simp) o e, hl2.at fun o e => hk _ (by simp) o e⟩
theorem Z3St.lt {h : Heap} {z TI TO i1 i2 i3 l1 l2 : Addr} {f0 : Value} {b : Bool} {a n : Int} {k : Nat} {xs ys : Array Value} (st : Z3St h z TI TO i1 i2 i3 l1 l2 f0 b a n k xs ys) : ∀ c ∈ [z, TI, TO, i1, i2, i3], c < h.objs.size := by
  obtain ⟨hz, hTI, ⟨p, q, r, hTO⟩, hr1, hr2, hr3, hl1, hl2⟩ := st
  obtain ⟨_, e2, _⟩ := hr2
  obtain ⟨_, e3, _⟩ := hr3
  intro c hc
  have e' : c = z ∨ c = TI ∨ c = TO ∨ c = i1 ∨ c = i2 ∨ c = i3 := by simpa using hc
  rcases e' with q | q | q | q | q | q
  · rw [q]; exact Heap.lt_size hz
  · rw [q]; exact Heap.lt_size hTI
  · rw [q]; exact Heap.lt_size hTO
  · rw [q]; exact Heap.lt_size hr1
  · rw [q]; exact Heap.lt_size e2
  · rw [q]; exact Heap.lt_size e3
variable {X : Cx} {pins : List (Addr × Obj)} {σ : L2.St}
end
namespace SM
variable {μ : Type}
def z3L : Int → List D → List D → List D
  | a, x :: xs, y :: ys => .tuple [.int a, x, y] :: z3L (a + 1) xs ys
  | _, _, _ => []
def rg2D : List D → Option (Int × Int)
  | [.int i, .int j] => if -(2 ^ 62) ≤ i ∧ i < 2 ^ 62 ∧ -(2 ^ 62) ≤ j ∧ j < 2 ^ 62 then some (i, j) else none
  | _ => none
def lzD (p : Int × Int) (x y : D) : Option D := match x, y with
  | .list xs, .list ys => if (xs.length : Int) = p.2 - p.1 ∧ ys.length = xs.length ∧ 0 < xs.length then some (.list (z3L p.1 xs ys)) else none
  | _, _ => none
def lz (Es : SM μ (List D)) (E3 E4 : SM μ D) : SM μ D := bd Es fun ds => bd (of (rg2D ds)) fun p => bd E3 fun x => bd E4 fun y => of (lzD p x y)
end SM
namespace SM
variable {μ : Type}
def zip2L : List D → List D → List D
  | x :: xs, y :: ys => .tuple [x, y] :: zip2L xs ys
  | _, _ => []
def zip2D : List D → Option (List D)
  | [.list xs, .list ys] => some (zip2L xs ys)
  | _ => none
def itZ (Es : SM μ (List D)) : SM μ (List D) := bd Es fun ds => of (zip2D ds)
end SM
section
open SM RT RZ
variable {X : Cx} {μ τ τ' ρ : Type} {G : Gx} {σ : St} {L : List (V × D)} {C Cp : μ → List Root} {te tb tc : TE} {E E1 E2 E3 E4 : SM μ D}
theorem zip2_get : ∀ {xs ys : List D} {i : Nat} {z : D}, (zip2L xs ys)[i]? = some z → ∃ x y, xs[i]? = some x ∧ ys[i]? = some y ∧ z = .tuple [x, y]
  | x :: xs, y :: ys, 0, z, h => ⟨x, y, rfl, rfl, by simpa [zip2L] using h.symm⟩
  | x :: xs, y :: ys, i + 1, z, h => by
    obtain ⟨a, b, h1, h2, h3⟩ := zip2_get (xs := xs) (ys := ys) (i := i) (z := z) (by simpa [zip2L] using h)
    exact ⟨a, b, by simpa using h1, by simpa using h2, h3⟩
  | [], _, _, z, h => by simp [zip2L] at h
  | _ :: _, [], _, z, h => by simp [zip2L] at h
theorem zip2_len : ∀ (xs ys : List D), (zip2L xs ys).length = min xs.length ys.length
  | x :: xs, y :: ys => by simp [zip2L, zip2_len xs ys]
  | [], _ => by simp [zip2L]
  | _ :: _, [] => by simp [zip2L]
end
namespace SM
end SM
section
open SM
variable {μ : Type} (G : Gx)
def FV (te : TE) (σ : St) (L : List (V × D)) (C : μ → List Root) (E : SM μ D) : Prop :=
  ∀ m F L' H Q, (∀ f ∈ L, f ∈ L') → Wd G.K G.O L' (C m ++ F) H →
    (∀ x m' p H', E m = .ok x m' → p ∉ G.O.fp → Wd G.K G.O L' (C m' ++ (rootL G.K p x :: F)) H' → Q (.ref p) H') → Bk G C F L' (E m) → te σ H Q
end
section
open SM
variable {X : Cx} {μ τ τ' ρ : Type} {G : Gx} {σ : St} {L : List (V × D)} {C Cp : μ → List Root} {te ta tb tc : TE} {tt tu : TT} {t u : TS} {E E1 E2 E3 : SM μ D} {T T1 T2 : SM μ Bool} {Jn : Shp μ τ} {Jl : Shp μ ρ} {i j : Nat} {v : V} {x d : D} {l : Addr} {ps : List Addr}
theorem Wb.rootD {K : PySem.W.Frag} {O : Og} {B : Addr → Prop} {L : List (V × D)} {C : List Root} {H : Hp} {p : Addr} (w : Wb K O B L C H) (hp : H p = Option.none) {vs : List V} {ds : List D} (h : DtAll K B H vs ds) : Wd K O L (rootL K p (.list ds) :: C) (upd H p (.lst vs)) := by
  have s : Same H (upd H p (.lst vs)) := fun b u q => by rw [upd_ne (ne_of_none q hp)]; exact q
  have nb : ¬ B p := fun b => by
    obtain ⟨o, ho⟩ := w.bo p b
    rw [ho] at hp; cases hp
  exact ⟨B, w.newr (x := .list ds) s (fun _ b => b) (fun _ b => .inl b) hp nb ⟨ds, vs, rfl, upd_same, Dt.monoAll (fun q o b e => ⟨b, s q o e⟩) _ _ h⟩⟩
theorem fv_lst {ta : TA} {Es : SM μ (List D)} (h : AV G ta σ L C Es) : FV G (tLst ta) σ L C (opL lstD Es) := by
  intro m F L' H Q s w q b
  refine h m F L' H _ s w (fun xs m1 vs H1 L2 e1 s2 i2 w1 => ?_) b.fst
  have b1 := b.snd e1
  unfold lstD at b1
  split at b1
  · next c =>
    refine ⟨by rw [i2.len]; exact c, fun p hp => ?_⟩
    obtain ⟨B, wb⟩ := id w1
    have w2 : Wd G.K G.O L2 (rootL G.K p (.list xs) :: (C m1 ++ F)) (upd H1 p (.lst vs)) := w1.root hp i2
    refine q (.list xs) m1 p _ ?_ (wb.nofp hp) ((w2.perm List.perm_middle.symm).sub fun f hf => s2 f hf)
    show bd Es _ m = _
    rw [bd_ok e1]
    show of (lstD xs) m1 = _
    unfold lstD
    rw [if_pos c]; rfl
  · exact absurd rfl b1.2
/-- f of a list read: list(x) -/
theorem fv_list {ta : TA} {Es : SM μ (List D)} (h : AV G ta σ L C Es) : FV G (tCB (fun xs H Q => ∃ p ys, xs = [.ref p] ∧ (SqL G.K H p ys ∨ SqT G.K H p ys) ∧ ∀ l, H l = none → Q (.ref l) (upd H l (.lst ys))) ta) σ L C (opL listD Es) := by
  intro m F L' H Q s w q b
  refine h m F L' H _ s w (fun xs m1 vs H1 L2 e1 s2 i2 w1 => ?_) b.fst
  have b1 := b.snd e1
  have go : ∀ z, listD xs = some z → ∃ B p ys ds, Wb G.K G.O B L2 (C m1 ++ F) H1 ∧ vs = [.ref p] ∧ (SqL G.K H1 p ys ∨ SqT G.K H1 p ys) ∧ z = .list ds ∧ DtAll G.K B H1 ys ds := fun z hz => by
    obtain ⟨B, wb⟩ := id w1
    unfold listD at hz
    split at hz
    · cases hz
      obtain ⟨x, rfl, hx⟩ := i2.one
      obtain ⟨p, vs, rfl, hl, ha⟩ := Dt.lst_inv (wb.ft _ hx)
      exact ⟨B, p, vs, _, wb, rfl, .inl hl.sq, rfl, ha⟩
    · cases hz
      obtain ⟨x, rfl, hx⟩ := i2.one
      obtain ⟨p, vs, rfl, hl, ha⟩ := Dt.tup_inv (wb.ft _ hx)
      exact ⟨B, p, vs, _, wb, rfl, .inr hl.sq, rfl, ha⟩
    · cases hz
  cases ef : listD xs with
  | none => rw [ef] at b1; exact absurd rfl b1.2
  | some z =>
    obtain ⟨B, p, ys, ds, wb, rfl, hs, rfl, hd⟩ := go z ef
    refine ⟨p, ys, rfl, hs, fun r hr => q (.list ds) m1 r _ ?_ (wb.nofp hr) (((wb.rootD hr hd).perm List.perm_middle.symm).sub fun f hf => s2 f hf)⟩
    show bd Es _ m = _
    rw [bd_ok e1, ef]; rfl
/-- f(..), f a def that makes a list -/
theorem fv_call {ta : TA} {Es : SM μ (List D)} {mf : List D → SM Unit D} {n : Nat} (hn : ∀ ds, mf ds () ≠ .bad → ds.length = n) (h : AV G ta σ L C Es) : FV G (tCall (SpN G.K n mf) [] E0 ta) σ L C (cP mf Es) := by
  intro m F L' H Q s w q b
  refine h m F L' H _ s w (fun xs m1 vs H1 L2 e1 s2 i2 w1 => ?_) b.fst
  have b1 := b.snd e1
  have er : cP mf Es m = px (mf xs) m1 := bd_ok e1
  rw [List.append_nil]
  obtain ⟨x, ex⟩ := px_nb b1.2
  obtain ⟨B, wb⟩ := w1
  refine ⟨by rw [i2.len]; exact hn xs (by rw [ex]; intro z; cases z), B, xs, x, wb.bo, i2.dt wb.ft, ex, fun a H' B' sm h1 h2 hna hnB hr => ?_⟩
  have w2 : Wd G.K G.O L2 (rootL G.K a x :: (C m1 ++ F)) H' := ⟨B', wb.newr sm h1 h2 hna hnB hr⟩
  exact q x m1 a H' (er.trans (px_ok ex)) (wb.nofp hna) ((w2.perm List.perm_middle.symm).sub fun f hf => s2 f hf)
theorem fv_lcG {wi : TI} {I : SM μ (List D)} {T : D → SM μ Bool} {E : D → SM μ D} {g : TG} {vs : List Nat} (hi : IV G wi σ L C I)
    (ht : ∀ v x m F L' H (Q : St → Hp → Prop), (∀ f ∈ (v, x) :: L, f ∈ L') → Wd G.K G.O L' (C m ++ F) H → T x m ≠ .bad →
      (∀ σ2 L1, (∀ f ∈ L', f ∈ L1) → wipe σ2 vs = wipe σ vs → Wd G.K G.O L1 (C m ++ F) H → TV G tt σ2 L1 C (T x) → EV G te σ2 L1 C (E x) → Q σ2 H) → g v (wipe σ vs) H Q) :
    FV G (tLc wi g tt te vs) σ L C (lc I T E) := by
  intro m F L' H Q s w q bk
  refine hi m F L' H _ s w (fun xs m1 It H1 L1 e1 s1 w1 hit => ?_) bk.fst
  have b1 := bk.snd e1
  have er : lc I T E m = bd (lcS T E xs []) (fun ys => pu (.list ys)) m1 := bd_ok e1
  intro A hA
  refine ⟨fun i n H' => n = xs.length - i ∧ i ≤ xs.length ∧ ∃ m' acc, lcS T E xs [] m1 = lcS T E (xs.drop i) acc m' ∧ Wd G.K G.O L1 (C m' ++ (rootL G.K A (.list acc) :: F)) H', ⟨xs.length, by simp, Nat.zero_le _, m1, [], rfl, w1.acc hA⟩, ?_⟩
  rintro i n H' ⟨rfl, hin, m', acc, ez, wz⟩
  have hI := hit _ _ _ (fun f hf => hf) wz i
  have hAO : A ∉ G.O.fp := by
    obtain ⟨B, wb⟩ := w1
    exact wb.nofp hA
  by_cases hlt : i < xs.length
  · have hx : xs[i]? = some xs[i] := List.getElem?_eq_getElem hlt
    obtain ⟨go, hy⟩ := hI.1 _ hx
    rw [forS_step hx] at ez
    refine .inr ⟨go, fun H'' => ∃ m' acc, lcS T E xs [] m1 = lcS T E (xs.drop (i + 1)) acc m' ∧ Wd G.K G.O L1 (C m' ++ (rootL G.K A (.list acc) :: F)) H'', fun H'' hN => ⟨xs.length - (i + 1), by omega, rfl, hlt, hN⟩, fun v H2 y => ?_⟩
    have w2 := hy v H2 y
    have b2 : Bk G C F L' (lcS T E (xs[i] :: xs.drop (i + 1)) acc m') := by
      have := b1.fst
      rw [ez] at this
      exact this
    have b3 : Bk G C F L' (T xs[i] m') := (show Bk G C F L' (bd (T xs[i]) _ m') from b2).fst
    have toF : ∀ {α : Type} {acc : List D} {r : Rs μ α}, Bk G C F L' r → Bk G C (rootL G.K A (.list acc) :: F) L' r := fun {α acc r} b => ⟨fun e m' cls d H' q w => b.1 e m' cls d H' q (w.subC (((List.Sublist.refl _).append (List.sublist_cons_self _ _)).cons₂ _)), b.2⟩
    refine ht v xs[i] m' (rootL G.K A (.list acc) :: F) ((v, xs[i]) :: L1) H2 _ (fun f hf => ?_) w2 b3.2 (fun σ2 L2 sL2 hw w3 hT hE => ⟨hw, ?_⟩)
    · rcases List.mem_cons.mp hf with e | e
      · rw [e]; exact .head _
      · exact .tail _ (s1 f (s f e))
    · refine hT m' (rootL G.K A (.list acc) :: F) L2 H2 _ (fun f hf => hf) w3 (fun c m3 H3 e3 w4 => ?_) ((toF b3).mono fun f hf => sL2 f (.tail _ (s1 f hf)))
      have e4 : lcS T E (xs[i] :: xs.drop (i + 1)) acc m' = (if c then bd (E xs[i]) fun y => if acc.length < sizeLine then lcS T E (xs.drop (i + 1)) (acc ++ [y]) else bad else lcS T E (xs.drop (i + 1)) acc) m3 := bd_ok e3
      have sb : ∀ {C3 : List Root} {H3 : Hp}, Wd G.K G.O L2 C3 H3 → Wd G.K G.O L1 C3 H3 := fun {C3 H3} w => w.sub fun f hf => sL2 f (.tail _ hf)
      cases c with
      | false =>
        rw [if_neg (by decide)]
        exact ⟨m3, acc, ez.trans e4, sb w4⟩
      | true =>
        rw [if_pos rfl]
        have b4 : Bk G C F L' (bd (E xs[i]) (fun y => if acc.length < sizeLine then lcS T E (xs.drop (i + 1)) (acc ++ [y]) else bad) m3) := by
          rw [e4] at b2
          exact b2
        refine hE m3 (rootL G.K A (.list acc) :: F) L2 H3 _ (fun f hf => hf) w4 (fun y m4 u H4 e5 w5 => ?_) ((toF b4.fst).mono fun f hf => sL2 f (.tail _ (s1 f hf)))
        have b5 := b4.snd e5
        by_cases hz : acc.length < sizeLine
        · have w6 := w5.perm List.perm_middle
          obtain ⟨B, wb⟩ := w6
          obtain ⟨ds, us, e6, hA4, hda⟩ := wb.rt _ (.head _)
          cases e6
          refine ⟨us, hA4, by rw [hda.len]; exact hz, m4, acc ++ [y], ez.trans (e4.trans ?_), ?_⟩
          · show bd (E xs[i]) _ m3 = _
            rw [bd_ok e5, if_pos hz]
          · have w7 : Wd G.K G.O ((u, y) :: L2) (rootL G.K A (.list (acc ++ [y])) :: (C m4 ++ F)) (upd H4 A (.lst (us ++ [u]))) :=
              Wd.put ⟨B, wb⟩ fun B' f hr => by
                obtain ⟨ds', us', e6, hA5, hda5⟩ := hr
                cases e6
                rw [hA4] at hA5
                cases hA5
                exact hda5.app (.cons (f _ (.head _)) .nil)
            exact (w7.perm List.perm_middle.symm).sub fun f hf => .tail _ (sL2 f (.tail _ hf))
        · rw [if_neg hz] at b5
          exact absurd rfl b5.2
  · have e : i = xs.length := by omega
    subst e
    rw [List.drop_length] at ez
    refine .inl ⟨hI.2 (Nat.le_refl _), ?_⟩
    refine q (.list acc) m' A H' ?_ hAO (wz.sub fun f hf => s1 f hf)
    rw [er]
    show bd (lcS T E xs []) _ m1 = _
    rw [bd_ok (show lcS T E xs [] m1 = .ok acc m' from ez)]; rfl
theorem fv_lc1 {wi : TI} {I : SM μ (List D)} {T : D → SM μ Bool} {E : D → SM μ D} {vs : List Nat} {σ2 : V → St} (hi : IV G wi σ L C I) (hσ : ∀ v, (wipe σ vs).set i (some v) = σ2 v) (hw : ∀ v, wipe (σ2 v) vs = wipe σ vs)
    (hT : ∀ v x, TV G tt (σ2 v) ((v, x) :: L) C (T x)) (hE : ∀ v x, EV G te (σ2 v) ((v, x) :: L) C (E x)) : FV G (tLc wi (gName i) tt te vs) σ L C (lc I T E) :=
  fv_lcG hi fun v x m F L' H Q s w _ q => by
    show Q ((wipe σ vs).set i (some v)) H
    rw [hσ]
    exact q (σ2 v) L' (fun f hf => hf) (hw v) w ((hT v x).sub s) ((hE v x).sub s)
end
namespace SM
end SM
section
open SM
variable {X : Cx} {μ τ τ' ρ : Type} {G : Gx} {σ : St} {L : List (V × D)} {C Cp : μ → List Root} {t u : TS} {Jn : Shp μ τ} {Jl : Shp μ ρ} {v : V} {x d : D}
theorem dt_partsL {K : PySem.W.Frag} {O : Og} {L : List (V × D)} {C : List Root} {H : Hp} {v : V} {ds : List D} (w : Wd K O L C H) (h : (v, PyData.list ds) ∈ L) : ∃ p vs, v = .ref p ∧ SqL K H p vs ∧ vs.length = ds.length ∧ Wd K O (vs.zip ds ++ L) C H := by
  obtain ⟨B, wb⟩ := w
  obtain ⟨p, vs, rfl, hl, ha⟩ := Dt.lst_inv (wb.ft _ h)
  refine ⟨p, vs, rfl, hl.sq, ha.len, B, wb.fts fun f hf => ?_⟩
  rcases List.mem_append.mp hf with e | e
  · exact zip_dt ha f e
  · exact wb.ft f e
end
inductive Flds (K : PySem.W.Frag) (B : Addr → Prop) (H : Hp) : List (Option Addr) → List V → List D → Prop
  | nil : Flds K B H [] [] []
  | frz {ks : List (Option Addr)} {vs : List V} {ds : List D} {v : V} {d : D} : Dt K B H v d → Flds K B H ks vs ds → Flds K B H (none :: ks) (v :: vs) (d :: ds)
  | own {ks : List (Option Addr)} {vs : List V} {ds : List D} {l : Addr} {xs : List V} {es : List D} : H l = some (.lst xs) → DtAll K B H xs es → Flds K B H ks vs ds → Flds K B H (some l :: ks) (.ref l :: vs) (.list es :: ds)
def ownA (ks : List (Option Addr)) : List Addr := ks.filterMap id
section
variable {K : PySem.W.Frag} {B B' : Addr → Prop} {H H' : Hp}
theorem Flds.mono (k : Kp B H B' H') : ∀ {ks : List (Option Addr)} {vs : List V} {ds : List D}, (∀ p ∈ ownA ks, H' p = H p) → Flds K B H ks vs ds → Flds K B' H' ks vs ds
  | _, _, _, _, .nil => .nil
  | _, _, _, e, .frz a r => .frz (Dt.mono k _ _ a) (Flds.mono k e r)
  | _, _, _, e, .own a b r => .own (by rw [e _ (.head _)]; exact a) (Dt.monoAll k _ _ b) (Flds.mono k (fun p hp => e p (.tail _ hp)) r)
theorem Flds.occ : ∀ {ks : List (Option Addr)} {vs : List V} {ds : List D}, Flds K B H ks vs ds → ∀ p ∈ ownA ks, ∃ o, H p = some o
  | _, _, _, .nil, _, hp => by cases hp
  | _, _, _, .frz _ r, p, hp => Flds.occ r p hp
  | _, _, _, .own a _ r, p, hp => by
    rcases List.mem_cons.mp hp with e | e
    · subst e; exact ⟨_, a⟩
    · exact Flds.occ r p e
theorem Flds.len : ∀ {ks : List (Option Addr)} {vs : List V} {ds : List D}, Flds K B H ks vs ds → vs.length = ks.length ∧ ds.length = ks.length
  | _, _, _, .nil => ⟨rfl, rfl⟩
  | _, _, _, .frz _ r => by have := Flds.len r; simp [this.1, this.2]
  | _, _, _, .own _ _ r => by have := Flds.len r; simp [this.1, this.2]
theorem Flds.get : ∀ {ks : List (Option Addr)} {vs : List V} {ds : List D} {i : Nat} {d : D}, Flds K B H ks vs ds → ks[i]? = some none → ds[i]? = some d → ∃ v, vs[i]? = some v ∧ Dt K B H v d
  | _, _, _, _, _, .nil, h, _ => by cases h
  | _, _, _, 0, _, .frz a r, _, h => by cases h; exact ⟨_, rfl, a⟩
  | _, _, _, i + 1, _, .frz a r, h1, h2 => Flds.get (i := i) r h1 h2
  | _, _, _, 0, _, .own a b r, h, _ => by cases h
  | _, _, _, i + 1, _, .own a b r, h1, h2 => Flds.get (i := i) r h1 h2
theorem Flds.set {v : V} {d : D} (hd : Dt K B H v d) : ∀ {ks : List (Option Addr)} {vs : List V} {ds : List D} {i : Nat}, Flds K B H ks vs ds → ks[i]? = some none → Flds K B H ks (vs.set i v) (ds.set i d)
  | _, _, _, _, .nil, h => by cases h
  | _, _, _, 0, .frz a r, _ => .frz hd r
  | _, _, _, i + 1, .frz a r, h => .frz a (Flds.set (i := i) hd r h)
  | _, _, _, 0, .own a b r, h => by cases h
  | _, _, _, i + 1, .own a b r, h => .own a b (Flds.set (i := i) hd r h)
theorem Flds.snoc {v : V} {d : D} (hd : Dt K B H v d) : ∀ {ks : List (Option Addr)} {vs : List V} {ds : List D}, Flds K B H ks vs ds → Flds K B H (ks ++ [none]) (vs ++ [v]) (ds ++ [d])
  | _, _, _, .nil => .frz hd .nil
  | _, _, _, .frz a r => .frz a (Flds.snoc hd r)
  | _, _, _, .own a b r => .own a b (Flds.snoc hd r)
end
namespace SM
end SM
namespace SM
end SM
section
open PySem PySem.Spec PyProof.Rows HotX
variable {prog : Program} {w : World} {A : Around} {E : Value → Shared → Prop} {s : Shared}
theorem hot_ne2 {x1 b : Addr} {h : Heap} {o : Obj} {vs : Array Value} (hot : HotAt A x1 h) (hb : h.get? b = some o) (hd : o.data = .fields vs) (hs : vs.size ≤ 2) : x1 ≠ b := fun e => by
  obtain ⟨_, o1, v1, h1, d1, c1⟩ := hot
  rw [e, hb] at h1
  cases h1
  rw [hd] at d1
  cases d1
  have := (Array.getElem?_eq_some_iff.mp c1).1
  omega
theorem hot_keep {x1 : Addr} {h h' : Heap} (hot : HotAt A x1 h) (k : ∀ o, h.get? x1 = some o → h'.get? x1 = some o) : HotAt A x1 h' := by
  obtain ⟨hh, o1, v1, h1, d1, c1⟩ := hot
  exact ⟨hh, o1, v1, k _ h1, d1, c1⟩
/-- the last object pushed is changed -/
theorem ext_upd {it : Addr} {h h1 : Heap} {o3 : Obj} {f : Obj → Obj} (x : Heap.ExtBut it h h1) : Heap.ExtBut it h ((h1.push o3).update h1.objs.size f) := fun b o hb e => by
  have e1 := x b o hb e
  rw [Heap.get?_update_other _ _ (Nat.ne_of_gt (Heap.lt_size e1))]
  exact Heap.get?_push_of_some _ e1
theorem next_tuple_end_hot {it t x1 : Addr} {i : Nat} {items : Array Value} {Q : Option Value → Shared → Prop} (hot : HotAt A x1 s.heap)
    (hit : IsTupIter s.heap it t i) (ht : IsTup s.heap t items) (hx : items[i]? = none)
    (hQ : ∀ h', Heap.ExtBut it s.heap h' → Q none { s with heap := h' }) : wpAny (model prog w) A (pyNext (.ref it)) Q E s := by
  obtain ⟨o, ho, hc, hd⟩ := id hit
  have hne : x1 ≠ it := hot_ne2 hot ho hd (by simp)
  obtain ⟨hh, o1, vs1, h1, d1, c1⟩ := hot
  obtain ⟨ol, hol, _, nl, hdl⟩ := ht
  unfold pyNext
  refine wpAny_bind (wpAny_attempt (wpAny_callSpecial?_slot (name := Str.ofString "__next__") hit.typeIs slot_tupleiter_next
    (wpAny_call_entry slot_tupleiter_next hit.typeIs entry_tupleiter_next ?_ (args_tupleiter_next _))))
  show wpAny _ _ (field (.ref it) 0 >>= _) _ _ s
  refine wpAny_bind (wpAny_field ho hd (x := .ref t) rfl ?_)
  show wpAny _ _ (if (Value.ref t == Value.none) = true then _ else _) _ _ s
  rw [if_neg (show ¬ ((Value.ref t == Value.none) = true) from Bool.false_ne_true)]
  show wpAny _ _ (field (.ref it) 1 >>= _) _ _ s
  refine wpAny_bind (wpAny_field ho hd (x := .int i 0) rfl ?_)
  show wpAny _ _ (seqItems? (.ref t) >>= _) _ _ s
  refine wpAny_bind (wpAny_seqItems hol hdl ?_)
  simp only [Int.toNat_natCast, hx]
  refine wpAny_bind (wpAny_rule (wpAny_bind (wpAny_setField ho hd (by simp) ?_)))
  show wpAny _ _ (newExc (.type "StopIteration") [] >>= _) _ _ _
  refine wpAny_bind ?_
  simp only [newExc, newTuple]
  refine wpAny_bind (wpAny_newObj_type ?_ (by size_fits))
  refine wpAny_bind (m := firstArgMember _ _) (wpAny_of_eq (a := Value.none) (by first | rfl | (simp only [firstArgMember]; rfl)) ?_)
  refine wpAny_newObj_type ?_ (by size_fits)
  have k : ∀ {f : Obj → Obj} {o2 o3 : Obj}, (((s.heap.update it f).push o2).push o3).get? x1 = some o1 := fun {f o2 o3} => Heap.get?_push_of_some _ (Heap.get?_push_of_some _ ((Heap.get?_update_other _ _ (Ne.symm hne)).trans h1))
  refine raiseNew_hot ⟨hh, o1, vs1, k, d1, c1⟩ (Nat.ne_of_lt (Heap.lt_size (Heap.get?_push_of_some _ ((Heap.get?_update_other _ _ (Ne.symm hne)).trans h1)))) (Heap.get?_push_size _ rfl) rfl (by first | (simp; done) | (simp; omega)) ?_
  refine wpAny_bind (wpAny_isInstance (T := "StopIteration") (b := true) ⟨_, Heap.get?_update_self _ (Heap.get?_push_size _ rfl) rfl, rfl⟩ isSubtype_stop ?_)
  exact wpAny_pure (hQ _ (ext_upd ((Heap.SameBut.update ..).extBut.push _)))
theorem unpackItems_tuple_hot {t x1 : Addr} {items : Array Value} {Q : List Value → Shared → Prop} (hot : HotAt A x1 s.heap) (ht : IsTup s.heap t items)
    (hQ : ∀ h', Heap.ExtBut s.heap.objs.size s.heap h' → Q items.toList { s with heap := h' }) : wpAny (model prog w) A (unpackItems (.ref t) items.size none) Q E s := by
  have hlt : t ≠ s.heap.objs.size := by obtain ⟨o, ho, _⟩ := ht; exact Nat.ne_of_lt (Heap.lt_size ho)
  unfold unpackItems
  refine wpAny_bind ?_
  · unfold notIterableAtAll
    refine wpAny_bind (wpAny_specialOf ht.typeIs slot_tuple_iter.lookup ?_)
    refine wpAny_pure ?_
    simp only [Bool.false_eq_true, if_false]
    refine wpAny_bind (wpAny_holding (iter_tuple ht ?_))
    refine wpAny_bind (wpAny_holding (draw_tuple hlt items.size 0 _ _ ⟨_, Heap.get?_push_size _ rfl, rfl, rfl⟩ (ht.push _) (by omega) fun h₁ hit₁ hs₁ => ?_))
    have hall : List.take items.size (List.drop 0 items.toList) = items.toList := by
      rw [List.drop_zero]; exact List.take_of_length_le (by simp)
    rw [hall]
    rw [if_neg (by simp)]
    have ht₁ : IsTup h₁ t items := (ht.push _).extBut hs₁.extBut hlt
    have hot1 : HotAt A x1 h₁ := hot_keep hot fun o e => hs₁.extBut x1 o (Nat.ne_of_lt (Heap.lt_size e)) (Heap.get?_push_of_some _ e)
    refine wpAny_bind (wpAny_holding (next_tuple_end_hot hot1 hit₁ ht₁ (by simp) fun h₂ he₂ => ?_))
    simp only [Option.isSome_none, Bool.false_eq_true, if_false]
    refine wpAny_pure (hQ h₂ fun b o hb e => he₂ b o hb (hs₁.extBut b o hb (Heap.get?_push_of_some _ e)))
theorem unpack_tuple_hot {t x1 : Addr} {items : Array Value} {targets : List (Bool × (Value → Sem Unit))} {Q : Unit → Shared → Prop} (hot : HotAt A x1 s.heap) (ht : IsTup s.heap t items)
    (hn : targets.length = items.size) (hstar : targets.findIdx? (·.1) = none)
    (h : ∀ h', Heap.ExtBut s.heap.objs.size s.heap h' → wpAny (model prog w) A (assignInOrder (targets.map (·.2)) items.toList) Q E { s with heap := h' }) :
    wpAny (model prog w) A (unpack (.ref t) targets) Q E s := by
  unfold unpack
  rw [hn, hstar]
  exact wpAny_bind (wpAny_holding (unpackItems_tuple_hot hot ht h))
theorem assign_Tuple_tuple_hot {env : Env} {elts : List Expr} {k1} {pos : Pos} {t x1 : Addr} {items : Array Value} {Q : Unit → Shared → Prop} (hot : HotAt A x1 s.heap) (ht : IsTup s.heap t items)
    (hn : (assignEach elts env).length = items.size) (hstar : (assignEach elts env).findIdx? (·.1) = none)
    (h : ∀ h', Heap.ExtBut s.heap.objs.size s.heap h' → wpAny (model prog w) A (assignInOrder ((assignEach elts env).map (·.2)) items.toList) Q E { s with heap := h' }) :
    wpAny (model prog w) A (assign (.Tuple elts k1 pos) env (.ref t)) Q E s := by
  rw [assign_Tuple]
  exact wpAny_bind (wpAny_standAt (unpack_tuple_hot hot ht hn hstar h))
theorem nextOf_list_end_hot {it l x1 : Addr} {i : Nat} {items : Array Value} {Q : Value → Shared → Prop} (hot : HotAt A x1 s.heap)
    (hit : s.heap.IsListIter it l i) (hl : s.heap.IsList l items) (hx : items[i]? = none)
    (hE : ∀ h' e, Heap.ExtBut it s.heap h' → (∃ o, h'.get? e = some o ∧ o.cls = .type "StopIteration") → E (.ref e) { s with heap := h' }) :
    wpAny (model prog w) A (Builtin.SmallTypes.nextOf (.ref it)) Q E s := by
  obtain ⟨o, ho, hc, hd⟩ := id hit
  have hne : x1 ≠ it := hot_ne2 hot ho hd (by simp)
  obtain ⟨hh, o1, vs1, h1, d1, c1⟩ := hot
  obtain ⟨ol, hol, _, nl, hdl⟩ := hl
  unfold Builtin.SmallTypes.nextOf
  refine wpAny_bind (wpAny_callSpecial?_slot (name := Str.ofString "__next__") hit.typeIs slot_listiter_next
    (wpAny_call_entry slot_listiter_next hit.typeIs entry_listiter_next ?_ (args_listiter_next _)))
  show wpAny _ _ (field (.ref it) 0 >>= _) _ _ s
  refine wpAny_bind (wpAny_field ho hd (x := .ref l) rfl ?_)
  show wpAny _ _ (if (Value.ref l == Value.none) = true then _ else _) _ _ s
  rw [if_neg (show ¬ ((Value.ref l == Value.none) = true) from Bool.false_ne_true)]
  show wpAny _ _ (field (.ref it) 1 >>= _) _ _ s
  refine wpAny_bind (wpAny_field ho hd (x := .int i 0) rfl ?_)
  show wpAny _ _ (seqItems? (.ref l) >>= _) _ _ s
  refine wpAny_bind (wpAny_seqItems hol hdl ?_)
  simp only [Int.toNat_natCast, hx]
  refine wpAny_bind (wpAny_rule (wpAny_bind (wpAny_setField ho hd (by simp) ?_)))
  show wpAny _ _ (newExc (.type "StopIteration") [] >>= _) _ _ _
  refine wpAny_bind ?_
  simp only [newExc, newTuple]
  refine wpAny_bind (wpAny_newObj_type ?_ (by size_fits))
  refine wpAny_bind (m := firstArgMember _ _) (wpAny_of_eq (a := Value.none) (by first | rfl | (simp only [firstArgMember]; rfl)) ?_)
  refine wpAny_newObj_type ?_ (by size_fits)
  have k : ∀ {f : Obj → Obj} {o2 o3 : Obj}, (((s.heap.update it f).push o2).push o3).get? x1 = some o1 := fun {f o2 o3} => Heap.get?_push_of_some _ (Heap.get?_push_of_some _ ((Heap.get?_update_other _ _ (Ne.symm hne)).trans h1))
  refine raiseNew_hot ⟨hh, o1, vs1, k, d1, c1⟩ (Nat.ne_of_lt (Heap.lt_size (Heap.get?_push_of_some _ ((Heap.get?_update_other _ _ (Ne.symm hne)).trans h1)))) (Heap.get?_push_size _ rfl) rfl (by first | (simp; done) | (simp; omega)) ?_
  exact hE _ _ (ext_upd ((Heap.SameBut.update ..).extBut.push _)) ⟨_, Heap.get?_update_self _ (Heap.get?_push_size _ rfl) rfl, rfl⟩
theorem hot_zip {x1 z TI TO : Addr} {f0 : Value} {h : Heap} (hot : HotAt A x1 h) (hz : IsZip h z TI TO f0) : x1 ≠ z := fun e => by
  obtain ⟨_, o1, v1, h1, d1, c1⟩ := hot
  rw [e, hz] at h1
  cases h1
  cases d1
  cases c1
theorem hot_pair {x1 T : Addr} {a b : Value} {h : Heap} (hot : HotAt A x1 h) (hz : IsPair h T a b) : x1 ≠ T := fun e => by
  obtain ⟨_, o1, v1, h1, d1, c1⟩ := hot
  rw [e, hz] at h1
  cases h1
  cases d1
theorem zip_next_end_hot {z TI TO i1 i2 l1 l2 x1 : Addr} {k1 k2 : Nat} {xs ys : Array Value} {a b : Value} {Q : Fin → Shared → Prop} (hot : HotAt A x1 s.heap) (D : ZipApart z TI TO i1 i2 l1 l2)
    (hz : IsZip s.heap z TI TO .none) (hTI : IsPair s.heap TI (.ref i1) (.ref i2)) (hTO : IsPair s.heap TO a b)
    (h1 : s.heap.IsListIter i1 l1 k1) (h2 : s.heap.IsListIter i2 l2 k2) (hl1 : s.heap.IsList l1 xs) (hl2 : s.heap.IsList l2 ys) (hend : xs[k1]? = none ∨ ys[k2]? = none)
    (hE : ∀ h' e, (∀ c o, c ≠ z → c ≠ TO → c ≠ i1 → c ≠ i2 → s.heap.get? c = some o → h'.get? c = some o) → (∃ o, h'.get? e = some o ∧ o.cls = .type "StopIteration") → E (.ref e) { s with heap := h' }) :
    wpAny (model prog w) A (Builtin.«zip.__next__» ⟨[.ref z], []⟩) Q E s := by
  have nz : x1 ≠ z := hot_zip hot hz
  have nTO : x1 ≠ TO := hot_pair hot hTO
  have n1 : x1 ≠ i1 := by obtain ⟨o, ho, _, hd⟩ := id h1; exact hot_ne2 hot ho hd (by simp)
  have n2 : x1 ≠ i2 := by obtain ⟨o, ho, _, hd⟩ := id h2; exact hot_ne2 hot ho hd (by simp)
  show wpAny _ _ (field (.ref z) 2 >>= _) _ _ _
  refine wpAny_bind (wpAny_field hz rfl (x := .bool false) rfl ?_)
  show wpAny _ _ (field (.ref z) 3 >>= _) _ _ _
  refine wpAny_bind (wpAny_field hz rfl (x := .ref TI) rfl ?_)
  refine wpAny_bind (wpAny_seqItems hTI rfl ?_)
  show wpAny _ _ (Builtin.SmallTypes.ownedTupleIsFree (.ref z) >>= _) _ _ _
  refine wpAny_bind ?_
  unfold Builtin.SmallTypes.ownedTupleIsFree
  refine wpAny_bind (wpAny_field hz rfl (x := .none) rfl (wpAny_pure ?_))
  simp only [if_true]
  refine wpAny_bind (wpAny_rule ?_)
  refine wpAny_bind (wpAny_field hz rfl (x := .ref TO) rfl ?_)
  refine wpAny_bind (wpAny_setField_rec hz (by simp) fun h₁ hz₁ hs₁ => ?_)
  replace hz₁ : IsZip h₁ z TI TO .ellipsis := hz₁
  have hot1 : HotAt A x1 h₁ := hot_keep hot fun o e => hs₁.extBut _ _ nz e
  refine wpAny_bind ?_
  simp only [List.zipIdx_cons, List.zipIdx_nil, List.forIn_cons, List.forIn_nil]
  refine wpAny_bind (wpAny_bind (wpAny_onRaise ?_))
  show wpAny _ _ (Builtin.SmallTypes.nextOf (.ref i1) >>= _) _ _ _
  cases hx : xs[k1]? with
  | none =>
    refine wpAny_bind (nextOf_list_end_hot hot1 (h1.extBut hs₁.extBut D.i1z) (hl1.extBut hs₁.extBut D.l1z) hx fun h₂ e hs₂ he => ?_)
    obtain ⟨oe, hoe, hce⟩ := he
    have hz₂ : IsZip h₂ z TI TO .ellipsis := hs₂ _ _ D.i1z.symm hz₁
    have hez : e ≠ z := fun x => by subst x; rw [hz₂] at hoe; cases hoe; simp at hce
    refine wpAny_setField_rec hz₂ (by simp) fun h₃ _ hs₃ => hE h₃ e (fun c o c1 _ c3 _ x => hs₃.extBut _ _ c1 (hs₂ _ _ c3 (hs₁.extBut _ _ c1 x))) ⟨oe, hs₃.extBut _ _ hez hoe, hce⟩
  | some x =>
    have hy : ys[k2]? = none := by rcases hend with h | h; rw [hx] at h; cases h; exact h
    refine wpAny_bind (wpAny_nextOf_list_item (h1.extBut hs₁.extBut D.i1z) (hl1.extBut hs₁.extBut D.l1z) hx fun h₂ h1₂ hs₂ => wpAny_pure ?_)
    have hTO₂ : IsPair h₂ TO a b := hs₂.extBut _ _ D.TOi1 (hs₁.extBut _ _ D.TOz hTO)
    have hot2 : HotAt A x1 h₂ := hot_keep hot1 fun o e => hs₂.extBut _ _ n1 e
    refine wpAny_bind (wpAny_seqItems hTO₂ rfl ?_)
    refine wpAny_bind (wpAny_updateSeq_pair hTO₂ fun h₃ hTO₃ hs₃ => ?_)
    have hot3 : HotAt A x1 h₃ := hot_keep hot2 fun o e => hs₃.extBut _ _ nTO e
    refine wpAny_bind (wpAny_letGo (wpAny_pure ?_))
    refine wpAny_bind (wpAny_bind (wpAny_onRaise ?_))
    show wpAny _ _ (Builtin.SmallTypes.nextOf (.ref i2) >>= _) _ _ _
    refine wpAny_bind (nextOf_list_end_hot hot3 (((h2.extBut hs₁.extBut D.i2z).extBut hs₂.extBut D.i12.symm).extBut hs₃.extBut D.TOi2.symm)
      (((hl2.extBut hs₁.extBut D.l2z).extBut hs₂.extBut D.l2i1).extBut hs₃.extBut D.l2TO) hy fun h₄ e hs₄ he => ?_)
    obtain ⟨oe, hoe, hce⟩ := he
    have hz₄ : IsZip h₄ z TI TO .ellipsis := hs₄ _ _ D.i2z.symm (hs₃.extBut _ _ D.TOz.symm (hs₂.extBut _ _ D.i1z.symm hz₁))
    have hez : e ≠ z := fun x => by subst x; rw [hz₄] at hoe; cases hoe; simp at hce
    refine wpAny_setField_rec hz₄ (by simp) fun h₅ _ hs₅ => hE h₅ e (fun c o c1 c2 c3 c4 x => hs₅.extBut _ _ c1 (hs₄ _ _ c4 (hs₃.extBut _ _ c2 (hs₂.extBut _ _ c3 (hs₁.extBut _ _ c1 x))))) ⟨oe, hs₅.extBut _ _ hez hoe, hce⟩
theorem pyNext_zip_end_hot {z TI TO i1 i2 l1 l2 x1 : Addr} {k1 k2 : Nat} {xs ys : Array Value} {a b : Value} {Q : Option Value → Shared → Prop} (hot : HotAt A x1 s.heap) (D : ZipApart z TI TO i1 i2 l1 l2)
    (hz : IsZip s.heap z TI TO .none) (hTI : IsPair s.heap TI (.ref i1) (.ref i2)) (hTO : IsPair s.heap TO a b)
    (h1 : s.heap.IsListIter i1 l1 k1) (h2 : s.heap.IsListIter i2 l2 k2) (hl1 : s.heap.IsList l1 xs) (hl2 : s.heap.IsList l2 ys) (hend : xs[k1]? = none ∨ ys[k2]? = none)
    (hQ : ∀ h', (∀ c o, c ≠ z → c ≠ TO → c ≠ i1 → c ≠ i2 → s.heap.get? c = some o → h'.get? c = some o) → Q none { s with heap := h' }) : wpAny (model prog w) A (pyNext (.ref z)) Q E s := by
  have hT : s.TypeIs (.ref z) "zip" := ⟨_, hz, rfl⟩
  unfold pyNext
  refine wpAny_bind (wpAny_attempt (wpAny_callSpecial?_slot (name := Str.ofString "__next__") hT F.slot_zip_next
    (wpAny_call_entry F.slot_zip_next hT F.entry_zip_next (zip_next_end_hot hot D hz hTI hTO h1 h2 hl1 hl2 hend fun h' e hk he => ?_) (F.args_zip_next_1 _))))
  obtain ⟨o, ho, hc⟩ := he
  refine wpAny_bind (wpAny_isInstance (T := "StopIteration") (b := true) ⟨o, ho, hc⟩ isSubtype_stop ?_)
  exact wpAny_pure (hQ _ hk)
end
section
open PySem PySem.Spec PyProof.Rows HotX L2H
/-- an exception is handled, and stands in every state of X -/
def HotS (X : Cx) : Prop := ∃ p : Addr × Obj, Hot1 X.A p ∧ ∀ (pins : List (Addr × Obj)) (σ : L2.St) (H : Hp) (s : Shared), Inv X pins σ H s → s.heap.get? p.1 = some p.2
theorem HotS.of {X : Cx} (h : HotC X) : HotS X := by
  obtain ⟨p, h1, hp⟩ := h
  exact ⟨p, h1, fun pins σ H s I => (I.pin p (List.mem_append_left _ hp)).1⟩
theorem HotS.at {X : Cx} {pins : List (Addr × Obj)} {σ : L2.St} {H : Hp} {s : Shared} (c : HotS X) (I : Inv X pins σ H s) : ∃ x1, HotAt X.A x1 s.heap := by
  obtain ⟨p, ⟨hh, v1, e1, c1⟩, hp⟩ := c
  exact ⟨p.1, hh, p.2, v1, hp _ _ _ _ I, e1, c1⟩
theorem HotS.blk {X : Cx} {pins : List (Addr × Obj)} {σ : L2.St} {H : Hp} {s : Shared} {scope : Scope} {ce : Env} {fp : List Addr} (h : HotC X) (I : Inv X pins σ H s) (hf : ∀ b ∈ fp, FpOk X pins H b) : HotS (X.blk s H scope ce fp) := by
  obtain ⟨p, h1, hp⟩ := h
  obtain ⟨g1, g2, g3, g4, g5⟩ := I.pin p (List.mem_append_left _ hp)
  refine ⟨p, h1, fun pins' σ' H' s' J => J.base.keep p.1 p.2 g1 g2 (fun hm => ?_) (fun hm => ?_)⟩
  · exact (List.mem_cons.mp (I.stkSub p.1 hm)).elim g3 g4
  · obtain ⟨_, _, _, _, _, f5⟩ := hf p.1 hm
    exact f5 p (List.mem_append_left _ hp) rfl
/-- a, b, .. = a tuple, while an exception is handled -/
theorem pg_tupS {X : Cx} {es : List Expr} {k : Nat} {pos : Pos} {t : TGs} {n : Nat} (hc : HotS X) (h : PGs X es t)
    (hn : (assignEach es X.env).length = n := by rfl) (hst : (assignEach es X.env).findIdx? (·.1) = none := by rfl) : PG X (.Tuple es k pos) (gTup X.K n t) := by
  refine ⟨fun pins s σ H v u Q I r hw => ?_⟩
  obtain ⟨a, xs, e1, hq, hl, hw⟩ := hw
  subst e1
  cases r
  obtain ⟨its, rv, ht, hz⟩ := I.tuple hq
  obtain ⟨x1, hot⟩ := hc.at I
  refine assign_Tuple_tuple_hot hot ht (by simp [hn, ← hl, rv.length]) hst fun h' hx => ?_
  have I1 : Inv X pins σ H { s with heap := h' } := I.kept (t' := s.toks) fun b o e => hx b o (Nat.ne_of_lt (Heap.lt_size e)) e
  exact h.run pins _ σ H xs _ Q I1 (by simpa using rv) hw
structure TurnS (P : Program) (w : World) (K : PySem.W.Frag) (tg : Expr) (J : It) (fp : List Addr) (it : Addr) (tn : Nat → Heap → Prop) : Prop where
  mem : it ∈ fp
  obj : ∀ i h, tn i h → ∀ b ∈ fp, ∃ o, h.get? b = some o ∧ ∀ v, o.data ≠ .cell v
  keep : ∀ i h h', tn i h → (∀ b ∈ fp, ∀ o, h.get? b = some o → h'.get? b = some o) → tn i h'
  item : ∀ (X : Cx), X.prog = P → X.w = w → X.K = K → HotS X → ∀ (i : Nat) (pins : List (Addr × Obj)) (s : Shared) (σ : L2.St) (H : Hp) (E : Value → Shared → Prop), Inv X pins σ H s → (∀ b ∈ fp, FpOk X pins H b) → tn i s.heap → J.go i H →
    wpAny (model P w) X.A (pyNext (.ref it)) (fun r s1 => ∃ u, r = some u ∧
      wpAny (model P w) X.A (letOwnedTupleGo tg (.ref it) u) (fun _ s2 => ∃ x H', Inv X pins σ H' s2 ∧ RelV x u ∧ J.yld i H x H' ∧ tn (i + 1) s2.heap ∧ ∀ b ∈ fp, H' b = none) E s1) E s
  done : ∀ (X : Cx), X.prog = P → X.w = w → X.K = K → HotS X → ∀ (i : Nat) (pins : List (Addr × Obj)) (s : Shared) (σ : L2.St) (H : Hp) (E : Value → Shared → Prop), Inv X pins σ H s → (∀ b ∈ fp, FpOk X pins H b) → tn i s.heap → J.stop i H →
    wpAny (model P w) X.A (pyNext (.ref it)) (fun r s1 => r = none ∧ Inv X pins σ H s1) E s
  self : ∀ (A : Around) (i : Nat) (s : Shared) (Q : Value → Shared → Prop) (E : Value → Shared → Prop), tn i s.heap → Q (.ref it) s → wpAny (model P w) A (pyIter (.ref it)) Q E s
theorem turn_zipS {P : Program} {w : World} {K : PySem.W.Frag} {elts : List Expr} {kk : Nat} {tpos : Pos} {a b z TI TO i1 i2 : Addr} (D : ZipApart z TI TO i1 i2 a b) :
    TurnS P w K (.Tuple elts kk tpos) (Itz K a b) [z, TI, TO, i1, i2] z (fun i h => IsZip h z TI TO .none ∧ IsPair h TI (.ref i1) (.ref i2) ∧ (∃ x y, IsPair h TO x y) ∧ h.IsListIter i1 a i ∧ h.IsListIter i2 b i) where
  mem := by simp
  obj := fun i h st c hc => by
    obtain ⟨hz, hTI, ⟨x, y, hTO⟩, ⟨o1, e1, _, d1⟩, ⟨o2, e2, _, d2⟩⟩ := st
    have e' : c = z ∨ c = TI ∨ c = TO ∨ c = i1 ∨ c = i2 := by simpa using hc
    rcases e' with q | q | q | q | q
    · rw [q]; exact ⟨_, hz, fun v q => nomatch q⟩
    · rw [q]; exact ⟨_, hTI, fun v q => nomatch q⟩
    · rw [q]; exact ⟨_, hTO, fun v q => nomatch q⟩
    · rw [q]; exact ⟨o1, e1, fun v q => by rw [d1] at q; cases q⟩
    · rw [q]; exact ⟨o2, e2, fun v q => by rw [d2] at q; cases q⟩
  keep := fun i h h' st k => by
    obtain ⟨hz, hTI, ⟨x, y, hTO⟩, h1, h2⟩ := st
    exact ⟨k z (by simp) _ hz, k TI (by simp) _ hTI, ⟨x, y, k TO (by simp) _ hTO⟩, h1.at fun o q => k i1 (by simp) o q, h2.at fun o q => k i2 (by simp) o q⟩
  item := by
    intro X hP hw hK hc i pins s σ H E I hf st hg
    subst hP hw hK
    obtain ⟨hz, hTI, ⟨x0, y0, hTO⟩, h1, h2⟩ := st
    obtain ⟨xs, ys, x, y, hqx, hqy, hx, hy⟩ := hg
    obtain ⟨its, rv, p, _⟩ := I.list hqx
    obtain ⟨its2, rv2, p2, _⟩ := I.list hqy
    obtain ⟨u, hu, ru⟩ := rv.get hx
    obtain ⟨u2, hu2, ru2⟩ := rv2.get hy
    have hzl : z < s.heap.objs.size := Heap.lt_size hz
    refine wpAny_pyNext_zip_item D hz hTI hTO h1 h2 p.isList p2.isList (x := u) (y := u2) (by simpa using hu) (by simpa using hu2) fun h' z' TO' h1' h2' hT hsz hk => ?_
    refine ⟨_, rfl, wpAny_letOwnedTupleGo_zip (s := { s with heap := h' }) z' fun h'' z'' sb => ?_⟩
    have hT2 : h''.get? s.heap.objs.size = some { cls := .type "tuple", data := .seq #[u, u2] } := (sb.2 _ (Nat.ne_of_gt hzl)).trans hT
    have new : ObjOk X.prog X.w (upd H s.heap.objs.size (.tup [x, y])) h'' s.heap.objs.size (.tup [x, y]) :=
      ⟨by show 2 ≤ sizeLine; decide, [u, u2], .cons ru (.cons ru2 .nil), ⟨_, hT2, rfl, _, rfl⟩⟩
    have I1 : Inv X pins σ (upd H s.heap.objs.size (.tup [x, y])) { s with heap := h'' } :=
      I.turnedNew (t' := s.toks) (ch := [z, TI, TO, i1, i2]) (fun c o hb q => (sb.2 c (fun q' => hb (by simp [q']))).trans (hk c o (fun q' => hb (by simp [q'])) (fun q' => hb (by simp [q'])) (fun q' => hb (by simp [q'])) (fun q' => hb (by simp [q'])) q)) hf (Nat.le_refl _) new
    refine ⟨.ref s.heap.objs.size, _, I1, rfl, ⟨_, x, y, rfl, I.hok.fresh (Nat.le_refl _), rfl, fun l hl => by rw [I.list_inj hl hqx]; exact hx, fun l hl => by rw [I.list_inj hl hqy]; exact hy⟩, ⟨z'', ?_, ⟨u, u2, ?_⟩, ?_, ?_⟩, fun c hcm => ?_⟩
    · exact (sb.2 _ D.TIz).trans (hk _ _ D.TIz D.TITO D.TIi1 D.TIi2 hTI)
    · exact (sb.2 _ D.TOz).trans TO'
    · exact h1'.at fun o q => (sb.2 _ D.i1z).trans q
    · exact h2'.at fun o q => (sb.2 _ D.i2z).trans q
    · have hlt : c < s.heap.objs.size := by
        have e' : c = z ∨ c = TI ∨ c = TO ∨ c = i1 ∨ c = i2 := by simpa using hcm
        rcases e' with q | q | q | q | q
        · rw [q]; exact hzl
        · rw [q]; exact Heap.lt_size hTI
        · rw [q]; exact Heap.lt_size hTO
        · rw [q]; obtain ⟨_, e1, _⟩ := h1; exact Heap.lt_size e1
        · rw [q]; obtain ⟨_, e2, _⟩ := h2; exact Heap.lt_size e2
      rw [upd_ne (Nat.ne_of_lt hlt)]
      exact (hf c hcm).1
  done := by
    intro X hP hw hK hc i pins s σ H E I hf st hg
    subst hP hw hK
    obtain ⟨hz, hTI, ⟨x0, y0, hTO⟩, h1, h2⟩ := st
    obtain ⟨xs, ys, hqx, hqy, hend⟩ := hg
    obtain ⟨its, rv, p, _⟩ := I.list hqx
    obtain ⟨its2, rv2, p2, _⟩ := I.list hqy
    have l1 := rv.length
    have l2 := rv2.length
    have he : its.toArray[i]? = none ∨ its2.toArray[i]? = none := by
      rcases hend with q | q
      · exact .inl (by simp; omega)
      · exact .inr (by simp; omega)
    obtain ⟨x1, hot⟩ := hc.at I
    exact pyNext_zip_end_hot hot D hz hTI hTO h1 h2 p.isList p2.isList he fun h' hk => ⟨rfl, I.turnedL (t' := s.toks) (ch := [z, TI, TO, i1, i2]) (fun c o hb q =>
      hk c o (fun q' => hb (by simp [q'])) (fun q' => hb (by simp [q'])) (fun q' => hb (by simp [q'])) (fun q' => hb (by simp [q'])) q) hf⟩
  self := fun A i s Q E st h => wpAny_pyIter_zip st.1 h
def PIES (X : Cx) (pins : List (Addr × Obj)) (σ : L2.St) (tg : Expr) (R : It → Hp → Prop) (itv : Value) (s2 : Shared) : Prop :=
  ∃ (it : Addr) (fp : List Addr) (tn : Nat → Heap → Prop) (J : It) (H' : Hp), itv = .ref it ∧ Inv X pins σ H' s2 ∧ TurnS X.prog X.w X.K tg J fp it tn ∧ tn 0 s2.heap ∧ (∀ b ∈ fp, FpOk X pins H' b) ∧ R J H'
structure PIS (X : Cx) (tg iter : Expr) (wi : TI) : Prop where
  run : ∀ (pins : List (Addr × Obj)) (s : Shared) (σ : L2.St) (H : Hp) (R : It → Hp → Prop), Inv X pins σ H s → wi σ H R →
    wpAny (model X.prog X.w) X.A (eval iter X.env) (fun v s1 => wpAny (model X.prog X.w) X.A (pyIter v) (PIES X pins σ tg R) X.xe s1) X.xe s
theorem pi_zipS {X : Cx} {e e2 : Expr} {ta : TA} {p pos tpos : Pos} {elts : List Expr} {kk : Nat} (hg : Gl X "zip") (hm : X.mg "zip" = none) (ha : PA X [e, e2] ta)
    (hs : starEach [e, e2] X.env = (false, eval e X.env) :: starEach [e2] X.env := by rfl) (hpl : (backTo pos (starEach [e2] X.env)).any (·.1) = false := by rfl) :
    PIS X (.Tuple elts kk tpos) (.Call (.Name "zip" p) [e, e2] [] pos) (iZip X.K ta) := by
  refine ⟨fun pins s σ H R I h => ?_⟩
  refine Call_ (ld_blt I hg hm PyProof.Rows.boot_zip (PyProof.Rows.callWith_type1 (thn (ha.run pos pins s σ H _ I h) fun us s1 ⟨vs, H1, I1, r1, q1⟩ => ?_) hs hpl))
  obtain ⟨a, b, xs, ys, ex, hqx, hqy, q⟩ := q1
  subst ex
  cases r1 with
  | cons r rr =>
    cases rr with
    | cons r' rr =>
      cases rr
      cases r
      cases r'
      obtain ⟨its, rv, p1, _⟩ := I1.list hqx
      obtain ⟨its2, rv2, p2, _⟩ := I1.list hqy
      have la : a < s1.heap.objs.size := p1.lt
      have lb : b < s1.heap.objs.size := p2.lt
      refine call_zip_2 p1.isList p2.isList fun h' hz hTI hTO h1 h2 hsz hk => wpAny_pyIter_zip hz ?_
      have I2 : Inv X pins σ H1 { s1 with heap := h' } := I1.kept (t' := s1.toks) hk
      refine ⟨s1.heap.objs.size + 4, [s1.heap.objs.size + 4, s1.heap.objs.size + 2, s1.heap.objs.size + 3, s1.heap.objs.size, s1.heap.objs.size + 1], _, _, H1, rfl, I2, turn_zipS (PySem.W.ktu_apart s1.heap.objs.size a b la lb), ⟨hz, hTI, ⟨_, _, hTO⟩, h1, h2⟩, fun c hcm => ?_, q⟩
      have e' : c = s1.heap.objs.size + 4 ∨ c = s1.heap.objs.size + 2 ∨ c = s1.heap.objs.size + 3 ∨ c = s1.heap.objs.size ∨ c = s1.heap.objs.size + 1 := by simpa using hcm
      have hle : s1.heap.objs.size ≤ c := by
        rcases e' with z | z | z | z | z
        · rw [z]; exact Nat.le_add_right _ _
        · rw [z]; exact Nat.le_add_right _ _
        · rw [z]; exact Nat.le_add_right _ _
        · rw [z]; exact Nat.le_refl _
        · rw [z]; exact Nat.le_add_right _ _
      exact I1.fpOk hle (I1.hok.fresh hle)
section
variable {X : Cx}
/-- [elt for target in iter if ..] while an exception is handled (as L2.lc_core) -/
theorem pe_lcS {elt tg iter : Expr} {ifs : List Expr} {scope : Scope} {own : List (Str × Nat)} {pos : Pos} {wi : TI} {g : TG} {tt : TT} {te : TE} (hc : HotC X) (hN : X.N.Nodup) (hi : PIS X tg iter wi) (ok : BlkOk X.N X.env.scope scope own)
    (hg : ∀ (s : Shared) (H : Hp) (C : Addr) (cl : List (Str × Addr)) (fp : List Addr), HotS (X.blk s H scope (compEnvC scope cl C X.env) fp) → PG (X.blk s H scope (compEnvC scope cl C X.env) fp) tg g) (ht : ∀ (s : Shared) (H : Hp) (C : Addr) (cl : List (Str × Addr)) (fp : List Addr), PTs (X.blk s H scope (compEnvC scope cl C X.env) fp) ifs tt)
    (he : ∀ (s : Shared) (H : Hp) (C : Addr) (cl : List (Str × Addr)) (fp : List Addr), PE (X.blk s H scope (compEnvC scope cl C X.env) fp) elt te) (hs : ∀ x, foldedSetIterable iter X.env x = pure x := by intro _; rfl) :
    PE X (.ListComp elt [⟨tg, iter, ifs, 0⟩] scope pos) (tLc wi g tt te (own.map (·.2))) := by
  refine ⟨fun pins s σ H Q I h => ?_⟩
  rw [eval_ListComp]
  have hfree : ∀ y ∈ scope.names, y.2 = .free → ∃ c, X.env.cells.lookup y.1 = some c := fun y hy e => by
    rcases ok.free y hy e with k | k
    · exact I.ok.has _ (.inl k)
    · exact I.ok.has _ (.inr k)
  refine wpAny_comprehension_free rfl hs (closure_ok hfree) ok.kind (fun y hy e => by rw [ok.uniq y hy, e])
    (thn (hi.run pins s σ H _ I h) fun xv s1 hx => thn hx fun itv s2 h2 => ?_)
  obtain ⟨it, fp, tn, J, H2, e, I2, T, st2, f2, q⟩ := h2
  subst e
  refine wpAny_newObj_type (newEnv_comp ?_) (by show 0 ≤ sizeLine; decide)
  generalize hD : s2.heap.objs.size = D
  have hDn : H2 D = none := I2.hok.fresh (Nat.le_of_eq hD)
  obtain ⟨W, ⟨m0, w0⟩, turn⟩ := q D hDn
  generalize hs3 : ({ s2 with heap := s2.heap.push { cls := .type "list", data := .seq ([] : List Value).toArray } } : Shared) = s3
  have I3 : Inv X pins σ (upd H2 D (.lst [])) s3 := by
    rw [← hs3]
    refine I2.laid (t' := s2.toks) (fun b o e => Heap.get?_push_of_some _ e) (Nat.le_of_eq hD) ⟨Nat.zero_le _, [], 0, .nil, ?_⟩
    rw [← hD]
    exact Heap.get?_push_size _ rfl
  have h3 : s3.heap = s2.heap.push { cls := .type "list", data := .seq ([] : List Value).toArray } := by rw [← hs3]
  have sz : ∀ b ∈ fp, b < s2.heap.objs.size := fun b hb => by
    obtain ⟨o, e, _⟩ := T.obj _ _ st2 b hb
    exact Heap.lt_size e
  have f3 : ∀ b ∈ fp, FpOk X pins (upd H2 D (.lst [])) b ∧ b < s3.heap.objs.size := fun b hb => by
    have hlt := sz b hb
    refine ⟨⟨?_, (f2 b hb).2⟩, by rw [h3, Heap.size_push]; exact Nat.lt_succ_of_lt hlt⟩
    rw [upd_ne (by rw [← hD]; exact Nat.ne_of_lt hlt)]
    exact (f2 b hb).1
  have st3 : tn 0 s3.heap := T.keep _ _ _ st2 fun b _ o e => by rw [h3]; exact Heap.get?_push_of_some _ e
  have I4 := block_start I3 ok hN f3
  have hotB : HotS (X.blk s3 (upd H2 D (.lst [])) scope (compEnvC scope (cellsFrom (s3.heap.objs.size + 1) scope.names (cloFrom X.env.cells scope.names [])) s3.heap.objs.size X.env) fp) := HotS.blk hc I3 fun b hb => (f3 b hb).1
  have pg := hg s3 (upd H2 D (.lst [])) s3.heap.objs.size (cellsFrom (s3.heap.objs.size + 1) scope.names (cloFrom X.env.cells scope.names [])) fp hotB
  have pt := ht s3 (upd H2 D (.lst [])) s3.heap.objs.size (cellsFrom (s3.heap.objs.size + 1) scope.names (cloFrom X.env.cells scope.names [])) fp
  have pe := he s3 (upd H2 D (.lst [])) s3.heap.objs.size (cellsFrom (s3.heap.objs.size + 1) scope.names (cloFrom X.env.cells scope.names [])) fp
  have hRR : ∀ m H', Inv X pins σ H' m → Q (.ref D) H' → ∀ mm, m.heap.Ns s3.heap.objs.size mm → FpOk X pins H' s3.heap.objs.size → compPost (model X.prog X.w) X.A X.xe none (EP X pins σ Q) (.ref D) s3.heap.objs.size (.ok .next) m := fun s' H' I' q mm hn f => ⟨mm, hn, fun h'' sb => by
    obtain ⟨f0, f1, f2, f3, f4, f5⟩ := f
    exact ⟨.ref D, H', I'.turned (t' := s'.toks) (fun b o hb e => (sb.2 b hb).trans e) f0 f1 f3 f4 f5, rfl, q⟩⟩
  show codeAny _ _ (.compStart (.ListComp elt [⟨tg, iter, ifs, 0⟩] scope pos) 0 (.ref it) (.ref D) (compEnvC scope (cellsFrom (s3.heap.objs.size + 1) scope.names (cloFrom X.env.cells scope.names [])) s3.heap.objs.size X.env)) (compPost (model X.prog X.w) X.A X.xe none (EP X pins σ Q) (.ref D) s3.heap.objs.size) { s3 with heap := pushCells (s3.heap.push { cls := .type "dict", data := .dict #[] }) scope.names }
  have nfp : ∀ b ∈ fp, (upd H2 D (.lst [])) b = none := fun b hb => (f3 b hb).1.1
  generalize hce : compEnvC scope (cellsFrom (s3.heap.objs.size + 1) scope.names (cloFrom X.env.cells scope.names [])) s3.heap.objs.size X.env = ce at I4 hotB pg pt pe ⊢
  have cL : ce.locals = s3.heap.objs.size := by subst hce; rfl
  generalize hH3 : upd H2 D (.lst []) = H3 at I3 I4 hotB pg pt pe w0 nfp f3
  generalize hs4 : ({ s3 with heap := pushCells (s3.heap.push { cls := .type "dict", data := .dict #[] }) scope.names } : Shared) = s4 at I4 ⊢
  have st4 : tn 0 s4.heap := T.keep _ _ _ st3 fun b _ o e => by rw [← hs4]; exact pushCells_keeps _ _ _ _ (Heap.get?_push_of_some _ e)
  have stat : ∀ {σ' : L2.St} {H' : Hp} {s' : Shared}, Inv (X.blk s3 H3 scope ce fp) [] σ' H' s' → (∀ b ∈ fp, H' b = none) → ∀ b ∈ fp, FpOk (X.blk s3 H3 scope ce fp) [] H' b := fun {σ' H' s'} I' hn b hb =>
    ⟨hn b hb, (I'.ok.exf b hb).1, I'.ok.exfs b hb, .inl hb, fun x c e => (I'.ok.exf b hb).2 x c e, fun p hp => absurd (show p ∈ ([] : List (Addr × Obj)) ++ [] from hp) (by simp)⟩
  have loop : codeAny (model X.prog X.w) X.A (.compLoop (.ListComp elt [⟨tg, iter, ifs, 0⟩] scope pos) 0 (.ref it) (.ref D) ce) (compPost (model X.prog X.w) X.A X.xe none (EP X pins σ Q) (.ref D) s3.heap.objs.size) s4 := by
    refine compLoop_any (fun n s' => ∃ i H', Inv (X.blk s3 H3 scope ce fp) [] (wipe σ (own.map (·.2))) H' s' ∧ tn i s'.heap ∧ (∀ b ∈ fp, H' b = none) ∧ W i n H') ?_ m0 ⟨0, H3, I4, st4, nfp, w0⟩
    rintro n s5 ⟨i, H5, I5, st5, n5, w5⟩
    rcases turn i n H5 w5 with ⟨stop, qq⟩ | ⟨go, Nx, hNx, step⟩
    · have td := T.done (X.blk s3 H3 scope ce fp) rfl rfl rfl hotB i [] s5 _ H5 (fun _ _ => False) I5 (stat I5 n5) st5 stop
      refine thnF td fun r s6 ⟨hr, I6⟩ => ?_
      subst hr
      have I7 : Inv X pins σ H5 s6 := I3.call' (ch := fp) I6.os I6.base I6.hok I6.bare fun b hb => ⟨(f3 b hb).1.2.2.2.1, (f3 b hb).1.2.1, (f3 b hb).1.2.2.2.2.1, (f3 b hb).1.2.2.2.2.2⟩
      have nC : H5 s3.heap.objs.size = none := by
        have z : H5 ce.locals = none := I6.free
        rw [cL] at z
        exact z
      obtain ⟨m, hn, _⟩ := I6.loc
      have hn : s6.heap.Ns ce.locals m := hn
      rw [cL] at hn
      exact hRR s6 H5 I7 qq m hn (I3.fpOk (Nat.le_refl _) nC)
    · have ti := T.item (X.blk s3 H3 scope ce fp) rfl rfl rfl hotB i [] s5 _ H5 (fun _ _ => False) I5 (stat I5 n5) st5 go
      refine thnF ti fun r s6 ⟨u, hr, h6⟩ => ?_
      subst hr
      refine thnF h6 fun _ s7 ⟨x, H7, I7, r7, y7, st7, n7⟩ => ?_
      have I7' := I7.pinned (stat I7 n7) (T.obj _ _ st7)
      refine thnF (pg.run _ s7 _ H7 x u _ I7' r7 (step x H7 y7)) fun _ s8 ⟨σ8, H8, I8, hw8, q8⟩ => ?_
      refine thnF (pt.run _ s8 σ8 H8 _ I8 q8) fun b s9 ⟨H9, I9, q9⟩ => ?_
      have fin : ∀ {s' : Shared} {H' : Hp}, Inv (X.blk s3 H3 scope ce fp) ([] ++ pinsAt fp s7.heap) σ8 H' s' → Nx H' → ∃ m, m < n ∧ ∃ i H', Inv (X.blk s3 H3 scope ce fp) [] (wipe σ (own.map (·.2))) H' s' ∧ tn i s'.heap ∧ (∀ b ∈ fp, H' b = none) ∧ W i m H' := fun {s' H'} I' nx => by
        obtain ⟨m', hm, w'⟩ := hNx H' nx
        have pin' : ∀ b ∈ fp, ∀ o, s7.heap.get? b = some o → s'.heap.get? b = some o ∧ H' b = none := fun b hb o e =>
          let z := I'.pin (b, o) (List.mem_append_right _ (List.mem_append_right _ (mem_pinsAt hb e)))
          ⟨z.1, z.2.1⟩
        have hl : (wipe σ (own.map (·.2))).length = σ8.length := by rw [← hw8, wipe_length]
        refine ⟨m', hm, i + 1, H', (I'.unpinned (pins := [])).weak hl (fun j v e => ?_), T.keep _ _ _ st7 fun b hb o e => (pin' b hb o e).1, fun b hb => ?_, w'⟩
        · rw [← hw8] at e
          exact (wipe_some e).1
        · obtain ⟨o, e, _⟩ := T.obj _ _ st7 b hb
          exact (pin' b hb o e).2
      cases b with
      | false =>
        simp only [Bool.false_eq_true, if_false] at q9 ⊢
        exact fin I9 q9
      | true =>
        simp only [if_true] at q9 ⊢
        refine thnF (pe.run _ s9 σ8 H9 _ I9 q9) fun z s10 ⟨yv, H10, I10, r10, acc, hD10, hz10, nx⟩ => ?_
        exact app_ok (X := X.blk s3 H3 scope ce fp) I10 hD10 hz10 r10 fun s11 I11 => fin I11 nx
  exact codeAny_compStart_list loop (T.self X.A 0 _ _ _ st4 loop)
end
end
section
open PySem PySem.Spec PyProof.Rows HotX L2H
/-- as Fun.okX, exceptions with no context -/
theorem okN {P : Program} {w : World} {K : PySem.W.Frag} {mg : Str → Option Value} {base : Heap} {x qual : Str} {st : Stmt} {f : Addr} {fd : FuncData} {N ps : List Str} {k : Nat} {sp : Sp} (F : Fun K x qual st f fd) (S : FnScope N ps (defScope st)) (len : ∀ vs H Q E, sp vs H Q E → vs.length = ps.length)
    (hbody : ∀ (cdv : Value) (A : Around) (outer : List Env) (s : Shared) (H : Hp) (vs : List V) (Q : VK) (E : XK), Room k (A.deeper (envOfC qual (defScope st) s.heap.objs.size f cdv)) → sp vs H Q E →
      ∃ t, PSs (cxOf (L2N.CX P w) P w K mg base N qual (defScope st) f cdv A outer s H E) (defBody st) t ∧ t { nx := fun _ H' => Q .non H', rt := Q } (start N vs) H) : FnOk P w K mg base (L2N.CX P w) (k + 1) f fd ps sp := by
  obtain ⟨oc, od, kV, doc, pm, an, cdv, ct, osl, rfl, lk, hcd⟩ := F.ex
  exact fn_of lk hcd S len fun A outer s H vs Q E hr hsp => hbody cdv A outer s H vs Q E hr hsp
/-- what a callee lets out at the slots σ, where a try stands around -/
theorem passAtN {X : Cx} {W : WX} (tk : L2N.Takes X W) (σ : L2.St) : PassesAt (L2N.CX X.prog X.w) X σ (WE W σ) := fun _ _ _ e s' I c => tk e s' (L2N.XE.of_call I (fun _ _ _ h => h) c)
theorem takes0N {X : Cx} : L2N.Takes X (fun _ _ _ _ => False) := fun _ _ x => by
  obtain ⟨_, _, _, _, _, _, _, _, _, _, _, _, _, _, _, _, z⟩ := x
  exact z.elim
/-- the reading of a try, its parts by name -/
def tTryA (K : PySem.W.Frag) (c : Value) (i : Nat) (ts : Addr → Value → Option Addr → TS) (Wout : WX) (tb : WX → TS) : TS := fun D σ H => tb (wAs K c i ts Wout D) D σ H
theorem ps_tryA {X : Cx} {x n : Str} {c : Value} {i : Nat} {body suite : List Stmt} {b₀ : Stmt} {np pos pos' : Pos} {tb : WX → TS} {ts : Addr → Value → Option Addr → TS} {Wout : WX} (hs : X.stack = X.env :: X.outer) (hf : X.env.frame = some X.env.locals) (hN : X.N.Nodup) (hi : X.N[i]? = some n) (hln : X.env.kindOf n = some .local) (hc : Names X x c) (tk : L2N.Takes X Wout)
    (hb : ∀ (W : WX) (pn : List (Addr × Obj)) (xe : Value → Shared → Prop), L2N.Takes (X.tr pn xe) W → PassesOwn (model X.prog X.w) X.A X.env xe → PSs (X.tr pn xe) body (tb W))
    (hsu : ∀ (a : Addr) (oe : Obj) (cls : Value) (d : Option Addr) (pn : List (Addr × Obj)), L2N.Zn cls d oe → (∃ vs, oe.data = .fields vs) → PSs (X.suite a ((a, oe) :: pn)) (b₀ :: suite) (ts a cls d)) :
    PS X (.Try body [.ExceptHandler (some (.Name x np)) (some n) (b₀ :: suite) pos'] [] [] pos) (tTryA X.K c i ts Wout tb) := L2N.ps_try_as hs hf hN hi hln hc tk hb hsu
section
variable {X : Cx} {e : Expr} {es : List Expr} {ta : TA}
/-- isinstance(e, c), e the exception that is handled, with its dict or without -/
def rIsX (K : PySem.W.Frag) (cls : Value) (d : Option Addr) (a : Addr) : List V → Hp → VK → Prop := fun xs H Q => ∃ (D : Addr) (c : V) (cv : Value) (b : Bool), cls = .ref D ∧ ExcC K D ∧ xs = [.ref a, c] ∧ (∀ u, RelV c u → u = cv) ∧ PySem.W.kitOne K (.ref D) cv = some b ∧ (∀ dx, d = some dx → ∃ fs, H dx = some (.xd fs)) ∧ Q (.bl b) H
theorem call_isX {pa : Addr} {po : Obj} {cls : Value} {d : Option Addr} (hp : (pa, po) ∈ X.pn) (hz : Zc cls d po) (hf : ∃ vs, po.data = .fields vs) : CallR X (.builtin "isinstance") (rIsX X.K cls d pa) := by
  obtain ⟨p, ep⟩ : ∃ p : Addr × Obj, p = (pa, po) := ⟨_, rfl⟩
  have e1 : pa = p.1 := by rw [ep]
  have e2 : po = p.2 := by rw [ep]
  subst e1 e2
  clear ep
  intro pins s σ H xs us Q I r h
  obtain ⟨D, c, cv, b, ec, C, rfl, hcv, e, hd, q⟩ := h
  subst ec
  cases r with
  | cons rx rr =>
    cases rr with
    | cons rt rr =>
      cases rr
      cases rx
      have ec := hcv _ rt
      subst ec
      obtain ⟨hget, _⟩ := I.pin p (List.mem_append_left _ hp)
      obtain ⟨vs, hv⟩ := hf
      have hcl : (PySem.W.clsIn X.K D).isSome = true := by obtain ⟨cd, hc, _⟩ := PySem.W.any_some C.hd; rw [hc]; rfl
      obtain ⟨a, oe⟩ := p
      cases hd2 : d with
      | none =>
        subst hd2
        have J : PySem.W.InstAt s.heap a oe D none := by
          obtain ⟨oc, od, oda, osl⟩ := oe
          obtain ⟨h1, h2⟩ := hz
          dsimp only at h1 h2 hv
          subst h1 h2 hv
          exact ⟨hget, rfl, rfl, trivial⟩
        exact PySem.W.kia_one (PySem.W.kitx_exc hcl C.hg C.hk C.hs C.ha C.hn C.ht C.hm) I.kIn J e (fun z => nomatch z) fun tk => ⟨.bl b, H, I.kept (t' := tk) fun _ _ z => z, rfl, q⟩
      | some dx =>
        subst hd2
        obtain ⟨fs, hdx⟩ := hd dx rfl
        have hx : ObjOk X.prog X.w H s.heap dx (.xd fs) := I.hok dx _ hdx
        obtain ⟨mA, ⟨od, es, ep, ho, hr'⟩, hr⟩ := hx
        have J : PySem.W.InstAt s.heap a oe D (some od) := by
          obtain ⟨oc, od', oda, osl⟩ := oe
          obtain ⟨h1, h2⟩ := hz
          dsimp only at h1 h2 hv
          subst h1 h2 hv
          exact ⟨hget, rfl, rfl, ho⟩
        exact PySem.W.kia_one (PySem.W.kitx_exc hcl C.hg C.hk C.hs C.ha C.hn C.ht C.hm) I.kIn J e (fun z => nomatch z) fun tk => ⟨.bl b, H, I.kept (t' := tk) fun _ _ z => z, rfl, q⟩
end
/-- a promise that speaks of the exception: its place, its class, its dict -/
structure FnX (P : Program) (w : World) (K : PySem.W.Frag) (mg : Str → Option Value) (base : Heap) (CX : CXT) (k : Nat) (f : Addr) (fd : FuncData) (ps : List Str) (sp : Addr → Value → Option Addr → Sp) : Prop where
  len : ∀ a cls d vs H Q E, sp a cls d vs H Q E → vs.length = ps.length
  run : ∀ (A : Around) (outer : List Env) (s : Shared) (H : Hp) (args : Args) (us : List Value) (vs : List V) (Q : VK) (E : XK) (p : Addr × Obj) (cls : Value) (d : Option Addr), RoomH k A → Hot1 A p → Zc cls d p.2 → PinOk outer H s p → Env0 P w K mg base A outer s H → BindsTo s fd args (ps.zip us) → Vals vs us → sp p.1 cls d vs H Q E →
    codeAny (model P w) A (.call (.ref f) args) (CR CX outer P w H s Q E) s
theorem okFX {CX : CXT} {P : Program} {w : World} {K : PySem.W.Frag} {mg : Str → Option Value} {base : Heap} {k : Nat} {x qual : Str} {st : Stmt} {f : Addr} {fd : FuncData} {N ps : List Str} {sp : Addr → Value → Option Addr → Sp} (F : Fun K x qual st f fd) (S : FnScope N ps (defScope st))
    (len : ∀ a cls d vs H Q E, sp a cls d vs H Q E → vs.length = ps.length)
    (hbody : ∀ (cdv : Value) (A : Around) (outer : List Env) (s : Shared) (H : Hp) (vs : List V) (Q : VK) (E : XK) (p : Addr × Obj) (cls : Value) (d : Option Addr), Hot1 A p → Zc cls d p.2 → RoomH k (A.deeper (envOfC qual (defScope st) s.heap.objs.size f cdv)) → sp p.1 cls d vs H Q E →
      ∃ t, PSs (cxH CX P w K mg base N qual (defScope st) f cdv A outer s H E p) (defBody st) t ∧ t { nx := fun _ H' => Q .non H', rt := Q } (L2.start N vs) H) :
    FnX P w K mg base CX (k + 1) f fd ps sp := by
  obtain ⟨oc, od, kV, doc, pm, an, cdv, ct, osl, rfl, lk, hcd⟩ := F.ex
  refine ⟨len, fun A outer s H args us vs Q E p cls d hr hot hz hpin e0 hb r hsp => ?_⟩
  have hl := len _ _ _ _ _ _ _ hsp
  have KX : K.In s.heap := e0.mod.kin.keeps fun b o e => (e0.bs b o e).1
  have lim : s.heap.NoLimit := e0.mod.nolimit.keeps fun b o e => (e0.bs b o e).1
  have hkind : ∀ y ∈ ps.zip us, (defScope st).names.lookup y.1 = some .local ∨ ((defScope st).names.lookup y.1 = some .cell ∧ ((cellsFrom (s.heap.objs.size + 1) (defScope st).names []).lookup y.1).isSome = true) := fun ⟨n, v⟩ hy => by
    rcases S.par n (List.of_mem_zip hy).1 with q | q
    · exact .inl q
    · exact .inr ⟨q, PySem.W.cellsFrom_some _ _ _ (.inl q)⟩
  refine codeAny_call_function hr.depth (KX _ _ lk) rfl S.co S.gen rfl (PySem.W.codeRec_of KX hcd) (hb _ _ _ _ ?_)
  refine wpAny_newFunctionEnv_cells S.kind hkind fun env he s1 x => ?_
  subst he
  refine ⟨lim.keeps x.toInCall.keep, codeAny_func ?_⟩
  obtain ⟨t, ht, hq⟩ := hbody cdv A outer s H vs Q E p cls d hot hz (hr.deeper _) hsp
  have I : Inv (cxH CX P w K mg base N qual (defScope st) f cdv A outer s H E p) [] (L2.start N vs) H s1 := inv_startH S hpin e0 hl r x
  refine wpAny_mono (ht.run [] s1 (L2.start N vs) H _ I hq) (fun fl s' hs => ?_) fun e s' hs => hs
  have fin : ∀ {σ' : L2.St} {H' : Hp} {v : V} {u : Value}, Inv (cxH CX P w K mg base N qual (defScope st) f cdv A outer s H E p) [] σ' H' s' → RelV v u → Q v H' → CE outer P w H s Q u s' :=
    fun {σ' H' v u} J rv q => ⟨v, H', J.os, J.bare, J.base, J.hok, rv, q⟩
  cases fl with
  | ret u =>
    obtain ⟨v, σ', H', J, rv, q⟩ := hs
    exact fin J rv q
  | next =>
    obtain ⟨σ', H', J, q⟩ := hs
    exact fin (v := V.non) (u := Value.none) J rfl q
  | brk =>
    obtain ⟨_, _, _, q⟩ := hs
    exact False.elim q
  | cont =>
    obtain ⟨_, _, _, q⟩ := hs
    exact False.elim q
section
variable {X : Cx} {CX : CXT} {k : Nat} {f : Addr} {fd : FuncData} {ps : List Str} {sp : Addr → Value → Option Addr → Sp} {E : L2.St → XK} {x : Str} {q pos : Pos} {e : Expr} {es : List Expr} {t : TA}
theorem pe_callX {pa : Addr} {po : Obj} {cls : Value} {d : Option Addr} (hot : Hot1 X.A (pa, po)) (hp : (pa, po) ∈ X.pn) (hz : Zc cls d po) (F : FnX X.prog X.w X.K X.mg X.base CX k f fd ps sp) (hr : RoomH k X.A) (hg : Gl X x) (hm : X.mg x = some (.ref f)) (hk : PySem.W.keepIn X.K (.ref f) = true) (hb : Binds X.K fd ps []) (hx : ∀ σ, PassesAt CX X σ (E σ))
    (ha : PA X (e :: es) t) (hdb : (x == ("__debug__" : Str)) = false := by decide) (he : starEach (e :: es) X.env = (false, eval e X.env) :: starEach es X.env := by rfl) (hpl : (backTo pos (starEach es X.env)).any (·.1) = false := by rfl) :
    PE X (.Call (.Name x q) (e :: es) [] pos) (tCallS (sp pa cls d) E t) := by
  obtain ⟨p, ep⟩ : ∃ p : Addr × Obj, p = (pa, po) := ⟨_, rfl⟩
  have e1 : pa = p.1 := by rw [ep]
  have e2 : po = p.2 := by rw [ep]
  subst e1 e2
  clear ep
  refine ⟨fun pins s σ H Q I h => ?_⟩
  refine wpAny_Call_Name_kw (ld_glob I hg hm ?_ hdb)
  refine PySem.W.callWith_K (h₀ := X.base) I.ok.mod.kin hk (thn (ha.run pos pins s σ H _ I h) fun us s1 ⟨vs, H1, I1, r, q⟩ => ⟨I1.kIn, ?_⟩) he hpl
  have hl : us.length = ps.length := by rw [← r.length]; exact F.len _ _ _ _ _ _ _ q
  have b := hb s1 us I1.kIn (by rw [List.append_nil]; exact hl)
  rw [List.append_nil] at b
  have P1 := I1.pin p (List.mem_append_left _ hp)
  have hpin : PinOk X.stack H1 s1 p := ⟨P1.1, P1.2.1, fun hm => (List.mem_cons.mp (I1.stkSub p.1 hm)).elim P1.2.2.1 P1.2.2.2.1, P1.2.2.2.2⟩
  refine wpAny_call (codeAny_mono (F.run X.A X.stack s1 H1 ⟨us, []⟩ us vs Q (E σ) p cls d hr hot hz hpin I1.env0 b r q) fun r s' hq => ?_)
  cases r with
  | error e => exact hx σ pins H1 s1 e s' I1 hq
  | ok fl =>
    cases fl with
    | ret u => exact I1.after hq
    | next => exact False.elim hq
    | brk => exact False.elim hq
    | cont => exact False.elim hq
/-- nothing is let out -/
theorem passS0 {X : Cx} : ∀ σ : L2.St, PassesAt CX0 X σ E0 := fun _ _ _ _ _ _ _ h => h.elim
end
end
namespace SM
variable {μ τ ρ α : Type}
/-- an exception: its class, its numbers -/
def exD (n : Str) (is : List Int) : D := .tuple (.str n :: is.map .int)
/-- the fields that an exception's class stores -/
def fldsX (n : Str) : List Str := if n = "Spoilt" then ["step"] else if n = "NoTable" then ["top", "look"] else if n = "NoDeed" then ["number"] else []
def nmX : D → Str
  | .tuple (.str n :: _) => n
  | _ => Str.empty
def tryS (mt : D → Bool) (R : SM μ (Fl τ ρ)) (hnd : D → SM μ (Fl τ ρ)) : SM μ (Fl τ ρ) := fun m => match R m with
  | .exc e m' => if mt e then hnd e m' else .exc e m'
  | .ok a m' => .ok a m'
  | .bad => .bad
theorem tryS_ok {mt : D → Bool} {R : SM μ (Fl τ ρ)} {hnd : D → SM μ (Fl τ ρ)} {m m' : μ} {a : Fl τ ρ} (h : R m = .ok a m') : tryS mt R hnd m = .ok a m' := by unfold tryS; rw [h]
theorem tryS_bad {mt : D → Bool} {R : SM μ (Fl τ ρ)} {hnd : D → SM μ (Fl τ ρ)} {m : μ} (h : R m = .bad) : tryS mt R hnd m = .bad := by unfold tryS; rw [h]
theorem tryS_exc {mt : D → Bool} {R : SM μ (Fl τ ρ)} {hnd : D → SM μ (Fl τ ρ)} {m m' : μ} {e : D} (h : R m = .exc e m') : tryS mt R hnd m = if mt e then hnd e m' else .exc e m' := by unfold tryS; rw [h]
end SM
section
open SM
/-- an exception's data, its class and its dict: of the classes cl -/
def rootX (cl : List (Str × Addr)) (e : D) (cls : Value) (d : Option Addr) : Root where
  fp := fun _ => d.toList
  same := fun _ _ _ => rfl
  P := fun _ H => ∃ (n : Str) (is : List Int) (C : Addr), (n, C) ∈ cl ∧ e = exD n is ∧ cls = .ref C ∧ is.length = (fldsX n).length ∧ ((d = none ∧ is = []) ∨ ∃ (dx : Addr) (fs : List (Str × V)), d = some dx ∧ H dx = some (.xd fs) ∧ ∀ (k : Nat) (f : Str) (i : Int), (fldsX n)[k]? = some f → is[k]? = some i → fs.lookup f = some (.int i))
  mono := fun k e h => by
    obtain ⟨n, is, C, h1, h2, h3, h4, h5⟩ := h
    refine ⟨n, is, C, h1, h2, h3, h4, h5.imp id fun ⟨dx, fs, e1, e2, e3⟩ => ⟨dx, fs, e1, ?_, e3⟩⟩
    rw [e dx (by rw [e1]; exact .head _)]; exact e2
  occ := fun h p hp => by
    obtain ⟨n, is, C, h1, h2, h3, h4, h5⟩ := h
    rcases h5 with ⟨rfl, _⟩ | ⟨dx, fs, rfl, e2, _⟩
    · cases hp
    · rw [List.mem_singleton.mp hp]; exact ⟨_, e2⟩
theorem rootX_iff {cl : List (Str × Addr)} {e : D} {cls : Value} {d : Option Addr} {B : Addr → Prop} {H : Hp} : (rootX cl e cls d).P B H ↔ ∃ (n : Str) (is : List Int) (C : Addr), (n, C) ∈ cl ∧ e = exD n is ∧ cls = .ref C ∧ is.length = (fldsX n).length ∧ ((d = none ∧ is = []) ∨ ∃ (dx : Addr) (fs : List (Str × V)), d = some dx ∧ H dx = some (.xd fs) ∧ ∀ (k : Nat) (f : Str) (i : Int), (fldsX n)[k]? = some f → is[k]? = some i → fs.lookup f = some (.int i)) := Iff.rfl
variable {X : Cx} {μ τ τ' ρ : Type} {G : Gx} {σ : St} {L : List (V × D)} {C Cp : μ → List Root} {te ta tb tc : TE} {tt tu : TT} {t u : TS} {E E1 E2 E3 : SM μ D} {Jn : Shp μ τ} {Jl : Shp μ ρ} {i j : Nat}
/-- raise X('..') -/
theorem sv_raise0 {Cc : Addr} {n : Str} {cl : List (Str × Addr)} (hc : Sub Cp C) (hX : G.XR = rootX cl) (hm : (n, Cc) ∈ cl) (hf : fldsX n = []) : SV G Cp (tSeq (fun _ _ H => G.Xk (.ref Cc) none H) u) σ L C (raise (exD n [])) Jn Jl := by
  intro m F L' H d s w _ _ _ _ b
  refine b.1 (exD n []) m _ _ H rfl ?_
  obtain ⟨B, wb⟩ := (w.subC ((hc m).append_right F) : Wd G.K G.O L' (Cp m ++ F) H)
  rw [hX]
  refine ⟨B, wb.addR (r := rootX cl (exD n []) (.ref Cc) none) (rootX_iff.mpr ⟨n, [], Cc, hm, rfl, rfl, by rw [hf]; rfl, .inl ⟨rfl, rfl⟩⟩) (fun p hp => by have hp' : p ∈ ([] : List Addr) := hp; cases hp') List.nodup_nil⟩
/-- try: .. except c as n: .. -/
theorem sv_try {cl : List (Str × Addr)} {mt : D → Bool} {R : SM μ (Fl τ ρ)} {hnd : D → SM μ (Fl τ ρ)} {tb : WX → TS} {ts : Addr → Value → Option Addr → TS} {c : Value} (hc : Sub Cp C) (hX : G.XR = rootX cl ∨ G.XR = noX)
    (hm : ∀ n D is, (n, D) ∈ cl → PySem.W.exmOne G.K (.ref D) c = some (mt (exD n is)))
    (hb : ∀ (W : WX), SV ⟨G.K, G.O, fun cls d H => W cls d σ H, rootX cl, G.rf⟩ C (tb W) σ L C R Jn Jl)
    (hs : ∀ a cls d e, mt e = true → SV G Cp (ts a cls d) (σ.set i (some (.ref a))) L (fun m => rootX cl e cls d :: C m) (hnd e) (fun s σ' L2 C2 => Jn s (σ'.set i none) L2 C2) (fun s σ' L2 C2 => Jl s (σ'.set i none) L2 C2)) :
    SV G Cp (tTryA G.K c i ts (fun cls d _ H => G.Xk cls d H) tb) σ L C (tryS mt R hnd) Jn Jl := by
  intro m F L' H D s w q1 q2 q3 q4 b
  refine hb (wAs G.K c i ts (fun cls d _ H => G.Xk cls d H) D) m F L' H D s w (fun s m' σ' L2 C2 H' e => q1 s m' σ' L2 C2 H' (tryS_ok e)) (fun s m' σ' L2 C2 H' e => q2 s m' σ' L2 C2 H' (tryS_ok e)) (fun s m' σ' L2 C2 H' e => q3 s m' σ' L2 C2 H' (tryS_ok e)) (fun x m' v H' L1 C1 e r w' => q4 x m' v H' L1 C1 (tryS_ok e) r (w'.subC ((List.Sublist.refl _).append ((hc m').append_right F)))) ⟨fun e m' cls d H' ex w' => ?_, fun z => b.2 (tryS_bad z)⟩
  have hP : ∃ n is C0, (n, C0) ∈ cl ∧ e = exD n is ∧ cls = .ref C0 := by
    obtain ⟨B, wb⟩ := w'
    obtain ⟨n, is, C0, h1, h2, h3, _⟩ := rootX_iff.mp (wb.rt _ (.head _))
    exact ⟨n, is, C0, h1, h2, h3⟩
  obtain ⟨n, is, C0, hin, ee, ec⟩ := hP
  show wAs G.K c i ts (fun cls d _ H => G.Xk cls d H) D cls d σ H'
  refine ⟨mt e, by rw [ec, ee]; exact hm n C0 is hin, fun hmt a ha => ?_, fun hmt => ?_⟩
  · have ex2 : tryS mt R hnd m = hnd e m' := by rw [tryS_exc ex, if_pos hmt]
    refine hs a cls d e hmt m' F L' H' _ s w' (fun s2 m2 σ2 L2 C2 H2 e2 j2 w2 => ?_) (fun s2 m2 σ2 L2 C2 H2 e2 j2 w2 => ?_) (fun s2 m2 σ2 L2 C2 H2 e2 j2 w2 => ?_) (fun x m2 v H2 L1 C1 e2 r2 w2 => ?_) ?_
    · exact q1 s2 m2 (σ2.set i none) L2 C2 H2 (ex2.trans e2) j2 w2
    · exact q2 s2 m2 (σ2.set i none) L2 C2 H2 (ex2.trans e2) j2 w2
    · exact q3 s2 m2 (σ2.set i none) L2 C2 H2 (ex2.trans e2) j2 w2
    · exact q4 x m2 v H2 L1 C1 (ex2.trans e2) r2 w2
    · rw [ex2] at b
      exact b
  · have ex2 : tryS mt R hnd m = .exc e m' := by rw [tryS_exc ex, hmt]; rfl
    refine b.1 e m' cls d H' ex2 ?_
    have w3 : Wd G.K G.O L' (rootX cl e cls d :: (Cp m' ++ F)) H' := w'.subC (List.Sublist.cons₂ _ ((hc m').append_right F))
    rcases hX with h | h
    · rw [h]; exact w3
    · rw [h]
      obtain ⟨B, w3⟩ := w3
      have hs : (fps (Cp m' ++ F) H').Sublist (fps (rootX cl e cls d :: (Cp m' ++ F)) H') := fps_sub (List.sublist_cons_self _ _)
      have w4 : Wb G.K G.O B L' (Cp m' ++ F) H' := ⟨w3.lo, w3.hi, hs.nodup w3.nd, fun p hp => w3.nb p (hs.mem hp), fun p hp => w3.fr p (hs.mem hp), fun c hc => w3.rt c (.tail _ hc), w3.ft, w3.kp, w3.oc, w3.bo⟩
      exact ⟨B, w4.addR (r := noX e cls d) trivial (fun p hp => by cases hp) List.nodup_nil⟩
/-- the first root was changed, its places are the same -/
theorem Wb.chgR {K : PySem.W.Frag} {O : Og} {B B' : Addr → Prop} {L : List (V × D)} {Z : List Root} {H H' : Hp} {r : Root} (hst : r.fp H' = r.fp H) (wb : Wb K O B L (r :: Z) H) (hk : ∀ p o, p ∉ r.fp H → H p = some o → H' p = some o)
    (h1 : ∀ p, B p → B' p) (h2 : ∀ p, B' p → B p ∨ (H p = Option.none ∧ ∃ o, H' p = some o)) (hr : r.P B' H') : Wb K O B' L (r :: Z) H' := by
  have hm : ∀ p ∈ r.fp H, p ∈ fps (r :: Z) H := fun p hp => by rw [fps_cons]; exact List.mem_append.mpr (.inl hp)
  have hnd := wb.nd
  rw [fps_cons] at hnd
  have hdis := (List.nodup_append.mp hnd).2.2
  have k : Kp B H B' H' := fun p o b e => ⟨h1 p b, hk p o (fun z => wb.nb p (hm p z) b) e⟩
  have es : fps (r :: Z) H' = fps (r :: Z) H := by
    rw [fps_cons, fps_cons, hst, fps_same k (fun c hc => wb.rt c (.tail _ hc)) fun p hp => ?_]
    obtain ⟨c, hc, hp2⟩ := List.mem_flatMap.mp hp
    obtain ⟨o, ho⟩ := c.occ (wb.rt c (.tail _ hc)) p hp2
    rw [ho]
    exact hk p o (fun z => hdis p z p hp rfl) ho
  refine ⟨fun p b => h1 p (wb.lo p b), fun p b => ?_, by rw [es]; exact wb.nd, fun p hp b => ?_, fun p hp => wb.fr p (by rw [← es]; exact hp), fun c hc => ?_, fun f hf => Dt.mono k _ _ (wb.ft f hf), fun p o hp e => ?_, fun p hp => ?_, fun p b => ?_⟩
  · rcases h2 p b with b | n
    · exact wb.hi p b
    · exact .inr (wb.none n.1)
  · rw [es] at hp
    rcases h2 p b with b | n
    · exact wb.nb p hp b
    · exact wb.free n.1 hp
  · rcases List.mem_cons.mp hc with e | e
    · subst e; exact hr
    · refine c.mono k (fun p hp => ?_) (wb.rt c (.tail _ e))
      obtain ⟨o, ho⟩ := c.occ (wb.rt c (.tail _ e)) p hp
      rw [ho]
      exact hk p o (fun z => hdis p z p (mem_fps e hp) rfl) ho
  · by_cases z : p ∈ r.fp H
    · rcases wb.fr p (hm p z) with y | y
      · exact absurd y hp
      · rw [y] at e; cases e
    · exact hk p o z (wb.kp p o hp e)
  · by_cases z : p ∈ r.fp H
    · exact r.occ hr p (by rw [hst]; exact z)
    · obtain ⟨o, ho⟩ := wb.oc p hp
      exact ⟨o, hk p o z ho⟩
  · rcases h2 p b with b | n
    · obtain ⟨o, ho⟩ := wb.bo p b
      exact ⟨o, hk p o (fun z => wb.nb p (hm p z) b) ho⟩
    · exact n.2
/-- isinstance(e, T) -/
theorem ev_isX {Z : μ → List Root} {cl : List (Str × Addr)} {a : Addr} {cls : Value} {d : Option Addr} {e : D} {cv : Value} {cw : V} {q : Str → Bool} (hv : σ[i]? = some (some (.ref a))) (hcv : ∀ u, RelV cw u → u = cv)
    (hC : ∀ n D, (n, D) ∈ cl → ExcC G.K D ∧ PySem.W.kitOne G.K (.ref D) cv = some (q n)) : EV G (tCB (rIsX G.K cls d a) (tCons (tVar i) (tCons (tC cw) tNil))) σ L (fun m => rootX cl e cls d :: Z m) (pu (.bool (q (nmX e)))) := by
  intro m F L' H Q s w qq b
  refine ⟨.ref a, hv, ?_⟩
  obtain ⟨B, wb⟩ := w
  obtain ⟨n, is, D, h1, rfl, rfl, h4, h5⟩ := rootX_iff.mp (wb.rt _ (.head _))
  obtain ⟨c1, c2⟩ := hC n D h1
  refine ⟨D, cw, cv, q n, rfl, c1, rfl, hcv, c2, fun dx hdx => ?_, qq _ m _ H rfl ⟨B, wb.fact (.bl _)⟩⟩
  rcases h5 with ⟨z, _⟩ | ⟨dx', fs, z, e2, _⟩
  · rw [z] at hdx; cases hdx
  · rw [z] at hdx; cases hdx
    exact ⟨fs, e2⟩
/-- a def that is handed the exception that is handled -/
def SpE (K : PySem.W.Frag) (XR : D → Value → Option Addr → Root) (mf : D → SM Unit D) : Addr → Value → Option Addr → Sp := fun a cls d vs H Q _ => vs.length = 1 ∧ vs = [.ref a] ∧ ∃ (B : Addr → Prop) (e x : D), (∀ p, B p → ∃ o, H p = some o) ∧ (XR e cls d).P B H ∧ (∀ p ∈ (XR e cls d).fp H, ¬ B p) ∧ ((XR e cls d).fp H).Nodup ∧ mf e () = .ok x () ∧
  (∀ v H' B', (∀ p o, p ∉ (XR e cls d).fp H → H p = some o → H' p = some o) → (∀ p, B p → B' p) → (∀ p, B' p → B p ∨ (H p = none ∧ ∃ o, H' p = some o)) → (XR e cls d).P B' H' → Dt K B' H' v x → Q v H')
theorem ev_cE {Z : μ → List Root} {XR : D → Value → Option Addr → Root} {a : Addr} {cls : Value} {d : Option Addr} {e : D} {mf : D → SM Unit D} (hv : σ[i]? = some (some (.ref a))) (hst : ∀ H H', (XR e cls d).fp H = (XR e cls d).fp H' := by intros; rfl) : EV G (tCallS (SpE G.K XR mf a cls d) (fun _ => E0) (tCons (tVar i) tNil)) σ L (fun m => XR e cls d :: Z m) (px (mf e)) := by
  intro m F L' H Q s w qq b
  refine ⟨.ref a, hv, ?_⟩
  obtain ⟨x, ex⟩ := px_nb b.2
  obtain ⟨B, wb⟩ := w
  have hm : ∀ p ∈ (XR e cls d).fp H, p ∈ fps ((XR e cls d :: Z m) ++ F) H := fun p hp => by rw [List.cons_append, fps_cons]; exact List.mem_append.mpr (.inl hp)
  have hnd := wb.nd
  rw [List.cons_append, fps_cons] at hnd
  refine ⟨rfl, rfl, B, e, x, wb.bo, wb.rt _ (.head _), fun p hp => wb.nb p (hm p hp), (List.nodup_append.mp hnd).1, ex, fun v H' B' hk h1 h2 hr hd => ?_⟩
  have w2 := Wb.chgR (Z := Z m ++ F) (hst _ _) wb hk h1 h2 hr
  exact qq x m v H' (px_ok ex) ⟨B', w2.fact hd⟩
theorem body_E {K : PySem.W.Frag} {XR : D → Value → Option Addr → Root} {mf : D → SM Unit D} {ts : TS} {N : List Str} {H : Hp} {a : Addr} {cls : Value} {d : Option Addr} {vs : List V} {Q : VK} {E : XK} (hsp : SpE K XR mf a cls d vs H Q E)
    (h : ∀ (e : D) (O : Og), ∃ (R : SM Unit (Fl Unit Empty)), mf e = fin R ∧ SV ⟨K, O, E0, noX, rfF⟩ (fun _ => [XR e cls d]) ts (start N [.ref a]) [] (fun _ => [XR e cls d]) R (fun _ _ _ _ => False) (fun z _ _ _ => z.elim)) : ts { nx := fun _ H' => Q .non H', rt := Q } (start N vs) H := by
  obtain ⟨_, rfl, B, e, x0, hb, hr, hnB, hnd, ex, q⟩ := hsp
  obtain ⟨R, hR, hS⟩ := h e ⟨B, H, (XR e cls d).fp H⟩
  have ef : fps ([XR e cls d] ++ []) H = (XR e cls d).fp H := by rw [List.append_nil, fps_cons]; exact List.append_nil _
  have w0 : Wd K ⟨B, H, (XR e cls d).fp H⟩ [] ([XR e cls d] ++ []) H := by
    refine ⟨B, fun p b => b, fun p b => .inl b, by rw [ef]; exact hnd, fun p hp => hnB p (by rw [← ef]; exact hp), fun p hp => .inl (by rw [← ef]; exact hp), fun c hc => ?_, fun f hf => (by cases hf), fun p o _ e => e, (XR e cls d).occ hr, hb⟩
    have : c = XR e cls d := by simpa using hc
    subst this; exact hr
  rw [hR] at ex
  refine hS () [] [] H _ (fun f hf => hf) w0 ?_ ?_ ?_ ?_ ?_
  · intro s m' σ' L2 C2 H' e z w
    exact z.elim
  · intro s; exact s.elim
  · intro s; exact s.elim
  · rintro x m' v H' _ _ e1 ⟨rfl, rfl⟩ w
    have e2 : fin R () = .ok x m' := bd_ok e1
    rw [e2] at ex
    cases ex
    obtain ⟨B', wb⟩ := w
    refine q v H' B' (fun p o hp e => wb.kp p o hp e) wb.lo (fun p b => ?_) (wb.rt _ (.head _)) (wb.ft _ (.head _))
    rcases wb.hi p b with z | z
    · exact .inl z
    · exact .inr ⟨z, wb.bo p b⟩
  · refine ⟨fun e m' cls d H' z => ?_, fun z => ?_⟩
    · have e2 : fin R () = .exc e m' := bd_exc z
      rw [e2] at ex
      cases ex
    · have e2 : fin R () = .bad := bd_bad z
      rw [e2] at ex
      cases ex
end
namespace SM
variable {μ : Type}
/-- an own class, by name -/
def isq (t n : Str) : Bool := n == t
/-- a class above all own ones -/
def isa (_ : Str) : Bool := true
def strsD : List D → Option (List Str)
  | [] => some []
  | .str x :: r => (strsD r).map (x :: ·)
  | _ => none
def joinS (a : Str) (ys : List Str) : Str := Txt.join a ys
def strO : D → Option Str
  | .str a => some a
  | _ => none
def joinD (a : Str) : D → Option D
  | .list ds => match strsD ds with
    | some ys => if (ys.map (·.length)).sum + ys.length * a.length ≤ 16777216 then some (.str (joinS a ys)) else none
    | none => none
  | _ => none
def join (E1 E2 : SM μ D) : SM μ D := bd E1 fun x => bd (of (strO x)) fun a => bd E2 fun y => of (joinD a y)
end SM
section
open SM PySem.Spec
variable {X : Cx} {μ : Type} {G : Gx} {σ : L2.St} {L : List (V × D)} {C : μ → List Root} {te to : TE} {E E1 E2 : SM μ D} {i : Nat} {K : PySem.W.Frag} {H : Hp}
theorem strsD_map : ∀ {ds : List D} {ys : List Str}, strsD ds = some ys → ds = ys.map .str
  | [], _, h => by cases h; rfl
  | d :: ds, ys, h => by
    cases d <;> simp only [strsD] at h <;> (try cases h)
    rename_i x
    cases e : strsD ds with
    | none => rw [e] at h; cases h
    | some r => rw [e] at h; cases h; rw [strsD_map e]; rfl
theorem DtAll.strs_inv {B : Addr → Prop} : ∀ {ys : List Str} {vs : List V}, DtAll K B H vs (ys.map PyData.str) → vs = ys.map V.str
  | [], _, h => by cases h; rfl
  | n :: ns, _, h => by
    cases h with
    | cons a b => rw [a.str_inv, DtAll.strs_inv b]; rfl
/-- sep.join(..) -/
theorem ev_join (h1 : EV G to σ L C E1) (h2 : EV G te σ L C E2) : EV G (tM1 (fun x xs H Q => ∃ (a : Str) (p : Addr), ∃ ys : List Str, x = .str a ∧ xs = [.ref p] ∧ (SqL G.K H p (ys.map V.str) ∨ SqT G.K H p (ys.map V.str)) ∧
      (ys.map (·.length)).sum + ys.length * a.length ≤ 16777216 ∧ Q (.str (Txt.join a ys)) H) to te) σ L C (SM.join E1 E2) := by
  intro m F L' H Q s w q b
  refine h1 m F L' H _ s w (fun x m1 v H1 e1 w1 => ?_) b.fst
  have b1 := b.snd e1
  cases x with
  | str a =>
    have w1' := w1
    obtain ⟨B, wb⟩ := w1'
    have hva : v = .str a := (wb.ft _ (.head _)).str_inv
    subst hva
    have er1 : SM.join E1 E2 m = bd E2 (fun y => of (joinD a y)) m1 := bd_ok e1
    have b1' : Bk G C F L' (bd E2 (fun y => of (joinD a y)) m1) := b1
    refine ⟨⟨a, rfl⟩, h2 m1 F ((.str a, .str a) :: L') H1 _ (fun f hf => .tail _ (s f hf)) w1 (fun y m2 u H2 e2 w2 => ?_) (b1'.fst.mono fun f hf => .tail _ hf)⟩
    have b2 := b1'.snd e2
    have er2 : SM.join E1 E2 m = of (joinD a y) m2 := by rw [er1, bd_ok e2]
    cases y with
    | list ds =>
      cases es : strsD ds with
      | none =>
        have : joinD a (.list ds) = none := by simp only [joinD, es]
        rw [this] at b2
        exact absurd rfl b2.2
      | some ys =>
        by_cases c : (ys.map (·.length)).sum + ys.length * a.length ≤ 16777216
        · have ej : joinD a (.list ds) = some (.str (joinS a ys)) := by simp only [joinD, es]; rw [if_pos c]
          obtain ⟨B2, wb2⟩ := w2
          obtain ⟨p, xs, rfl, hl, ha⟩ := Dt.lst_inv (wb2.ft _ (.head _))
          rw [strsD_map es] at ha
          have := DtAll.strs_inv ha
          subst this
          refine ⟨a, p, ys, rfl, rfl, .inl hl.sq, c, q (.str (joinS a ys)) m2 (.str (Txt.join a ys)) H2 (by rw [er2, ej]; rfl) ⟨B2, wb2.fts fun f hf => ?_⟩⟩
          rcases List.mem_cons.mp hf with e | e
          · rw [e]; exact .str _
          · exact wb2.ft f (.tail _ (.tail _ e))
        · have : joinD a (.list ds) = none := by simp only [joinD, es]; rw [if_neg c]
          rw [this] at b2
          exact absurd rfl b2.2
    | _ => exact absurd rfl b2.2
  | _ => exact absurd rfl b1.2
/-- a walk over two lists -/
theorem iv_zipL {ta : TA} {Es : SM μ (List D)} (h : AV G ta σ L C Es) : IV G (iZip G.K ta) σ L C (itZ Es) := by
  intro m F L' H R s w q b
  refine h m F L' H _ s w (fun ds m1 vs H1 L2 e1 s2 i2 w1 => ?_) b.fst
  have b1 := b.snd e1
  cases er : zip2D ds with
  | none => rw [er] at b1; exact absurd rfl b1.2
  | some zs =>
    have hd : ∃ xs ys, ds = [.list xs, .list ys] ∧ zs = zip2L xs ys := by
      unfold zip2D at er
      split at er
      · cases er; exact ⟨_, _, rfl, rfl⟩
      · cases er
    obtain ⟨xs, ys, rfl, rfl⟩ := hd
    obtain ⟨v1, v2, rfl, hv1, hv2⟩ := i2.two
    have w1' := w1
    obtain ⟨B, wb⟩ := w1'
    obtain ⟨p1, us1, rfl, hl1, ha1⟩ := Dt.lst_inv (wb.ft _ hv1)
    obtain ⟨p2, us2, rfl, hl2, ha2⟩ := Dt.lst_inv (wb.ft _ hv2)
    refine ⟨p1, p2, us1, us2, rfl, hl1.sq, hl2.sq, q (zip2L xs ys) m1 _ H1 L2 ?_ s2 w1 ?_⟩
    · show bd Es _ m = _
      rw [bd_ok e1, er]; rfl
    · intro L3 C3 H3 s3 w3 i
      have w3' := w3
      obtain ⟨B3, wb3⟩ := w3'
      obtain ⟨p1', us1', e1', hl1', ha1'⟩ := Dt.lst_inv (wb3.ft _ (s3 _ hv1))
      obtain ⟨p2', us2', e2', hl2', ha2'⟩ := Dt.lst_inv (wb3.ft _ (s3 _ hv2))
      cases e1'
      cases e2'
      have el1 := ha1'.len
      have el2 := ha2'.len
      refine ⟨fun z hz => ?_, fun hi => ?_⟩
      · obtain ⟨x, y, hx, hy, rfl⟩ := zip2_get hz
        obtain ⟨a, ha, hda⟩ := ha1'.get hx
        obtain ⟨c, hc, hdc⟩ := ha2'.get hy
        refine ⟨⟨us1', us2', a, c, hl1'.sq, hl2'.sq, ha, hc⟩, fun u H' y => ?_⟩
        obtain ⟨T, a', c', rfl, hT, rfl, f1, f2⟩ := y
        have q1 := f1 _ hl1'.sq
        have q2 := f2 _ hl2'.sq
        rw [ha] at q1
        rw [hc] at q2
        cases q1
        cases q2
        exact Wb.tupD wb3 hT (.cons hda (.cons hdc .nil))
      · rw [zip2_len] at hi
        exact ⟨us1', us2', hl1'.sq, hl2'.sq, by omega⟩
end
theorem roomH_mk {j k : Nat} {A : Around} {h : Option Value} (r : Room k A) (hj : j ≤ k) : L2H.RoomH j (A.mark h) := L2H.RoomH.mono (⟨r.dp, r.un⟩ : L2H.RoomH k (A.mark h)) hj
/-- isinstance's answer for own classes -/
theorem kit_ref {K : PySem.W.Frag} {C T : Addr} {b : Bool} (hd : PySem.W.hasDictIn K T = true) (ht : PySem.W.typeIn K (.ref T) = some (.type "type")) (hs : PySem.W.subIn K (.ref C) (.ref C) = some true) (h : PySem.W.subIn K (.ref C) (.ref T) = some b) : PySem.W.kitOne K (.ref C) (.ref T) = some b := by
  unfold PySem.W.kitOne
  by_cases e : C = T
  · subst e
    rw [if_pos (beq_self_eq_true _), ← hs, h]
  · rw [if_neg (by simpa using e)]
    obtain ⟨cd, hc, _⟩ := PySem.W.any_some hd
    have e2 : ((PySem.W.clsIn K T).isSome && PySem.W.typeIn K (.ref T) == some (.type "type")) = true := by rw [hc, ht] <;> rfl
    show (if ((PySem.W.clsIn K T).isSome && PySem.W.typeIn K (.ref T) == some (.type "type")) = true then PySem.W.subIn K (.ref C) (.ref T) else none) = some b
    rw [if_pos e2]
    exact h
theorem kit_VE {K : PySem.W.Frag} {C : Addr} (h : PySem.W.subIn K (.ref C) (.type "ValueError") = some true) : PySem.W.kitOne K (.ref C) (.type "ValueError") = some true := by
  unfold PySem.W.kitOne
  rw [if_neg (show ¬ ((Value.ref C == Value.type "ValueError") = true) from Bool.false_ne_true)]
  show (if PySem.W.kitMeta "ValueError" = true then PySem.W.subIn K (.ref C) (.type "ValueError") else none) = some true
  rw [if_pos (by decide +kernel)]
  exact h
namespace SM
end SM
namespace SM
end SM
namespace SM
def inDD (neg : Bool) (x y : D) : Option D := match y with
  | .list ds => if SeqAt.shaped x && SeqAt.shaped (.list ds) then some (.bool (if neg then !ds.any fun z => PyData.eqv z x else ds.any fun z => PyData.eqv z x)) else none
  | _ => none
end SM
section
open SM
variable {X : Cx} {μ τ τ' ρ : Type} {G : Gx} {σ : St} {L : List (V × D)} {C Cp : μ → List Root} {te ta tb tc : TE} {tt tu : TT} {t u : TS} {i j : Nat} {E1 E2 : SM μ D}
theorem units65 {k : Nat} {A : Around} (h : Room k A) : A.units + 65 < cLine := by have := h.un; omega
theorem os_inD : OpS G (rInD G.K) (inDD false) := by
  intro L C H x y d e z Q w hx hy hf q
  obtain ⟨B, wb⟩ := w
  have h1 := wb.ft _ hx
  have h2 := wb.ft _ hy
  cases e with
  | list ds =>
    unfold inDD at hf
    simp only at hf
    split at hf
    · next c =>
      rw [Bool.and_eq_true] at c
      cases hf
      exact ⟨d, ds, Dt.dp _ _ (SeqAt.canLay_of_shaped c.1) h1, Dt.dp _ _ (SeqAt.canLay_of_shaped c.2) h2, c.1, c.2, q _ _ ⟨B, wb.fact (.bl _)⟩⟩
    · cases hf
  | _ => cases hf
end
inductive Nk where
  | obj (C : Addr) (ns : List Str)
  | lst
  | rc (ks : List Str)
inductive Ty where
  | fr
  | pt (u : V) (t : Ty)
  | op (t : Ty)
  | ls (t : Ty)
  | tp (ts : List Ty)
  | nd (k : Nk) (ts : List Ty)
  | lp (i : Nat) (u : V) (t : Ty)
  | dk
  | dt (P : Program) (w : World)
  | dn (P : Program) (w : World)
  | al (t u : Ty)
/-- what stands at a node -/
def Nk.at (k : Nk) (o : HO) (vs : List V) : Prop := match k with
  | .obj C ns => ns.length = vs.length ∧ ∃ dx, o = .ins C dx (ns.zip vs)
  | .lst => o = .lst vs
  | .rc ks => ks.length = vs.length ∧ o = .dK ((ks.map Sum.inr).zip vs)
def ndD (k : Nk) (ds : List D) : D := match k with
  | .lst => .list ds
  | _ => .tuple ds
def kD : Key → D
  | .inl i => .int i
  | .inr x => .str x
/-- a tuple that was made here -/
def FzU (B : Addr → Prop) (H : Hp) (p : Addr) (xs : List V) : Prop := B p ∧ H p = some (.tup xs)
theorem FzU.fz {K : PySem.W.Frag} {B : Addr → Prop} {H : Hp} {p : Addr} {xs : List V} (h : FzU B H p xs) : FzT K B H p xs := .inl ⟨h.1, .inl h.2⟩
theorem FzU.sq {K : PySem.W.Frag} {B : Addr → Prop} {H : Hp} {p : Addr} {xs : List V} (h : FzU B H p xs) : SqT K H p xs := (h.fz (K := K)).sq
theorem FzU.mono {B B' : Addr → Prop} {H H' : Hp} {p : Addr} {xs : List V} (k : Kp B H B' H') (h : FzU B H p xs) : FzU B' H' p xs := k _ _ h.1 h.2
/-- entries of a dict, their values frozen -/
inductive KvZ (K : PySem.W.Frag) (B : Addr → Prop) (H : Hp) {κ : Type} : List (κ × V) → List (κ × D) → Prop
  | nil : KvZ K B H [] []
  | cons {k : κ} {v : V} {d : D} {vs : List (κ × V)} {ds : List (κ × D)} : Dt K B H v d → KvZ K B H vs ds → KvZ K B H ((k, v) :: vs) ((k, d) :: ds)
theorem KvZ.mono {K : PySem.W.Frag} {B B' : Addr → Prop} {H H' : Hp} {κ : Type} {vs : List (κ × V)} {ds : List (κ × D)} (k : Kp B H B' H') (h : KvZ K B H vs ds) : KvZ K B' H' vs ds := by
  induction h with
  | nil => exact .nil
  | cons a _ ih => exact .cons (Dt.mono k _ _ a) ih
/-- a dict whose keys are tuples (written ones, too): what is known of its object -/
def DxE (P : Program) (w : World) (a : Addr) (xs : List (List Key × Addr × Value)) : Heap → Prop := fun h => (a == sysModules) = false ∧ xs.length ≤ sizeLine ∧ (xs.map (·.1)).Nodup ∧ ∃ o es ep, h.get? a = some o ∧ o.ExactDict ∧ o.data = .dict es ep ∧ es.toList = xs.map (entryOfKey (tupleKind (mixKind P w)))
inductive KvT (K : PySem.W.Frag) (B : Addr → Prop) (H : Hp) : List (List Key × Addr × Value) → List (List Key × D) → Prop
  | nil : KvT K B H [] []
  | cons {k : List Key} {b : Addr} {r : Value} {v : V} {d : D} {xs : List (List Key × Addr × Value)} {es : List (List Key × D)} : FzT K B H b (k.map kV) → RelV v r → Dt K B H v d → KvT K B H xs es → KvT K B H ((k, b, r) :: xs) ((k, d) :: es)
theorem KvT.mono {K : PySem.W.Frag} {B B' : Addr → Prop} {H H' : Hp} {xs : List (List Key × Addr × Value)} {es : List (List Key × D)} (k : Kp B H B' H') (h : KvT K B H xs es) : KvT K B' H' xs es := by
  induction h with
  | nil => exact .nil
  | cons a b c _ ih => exact .cons (a.mono k) b (Dt.mono k _ _ c) ih
/-- a dict whose keys are an int and a pair of ints, its values True -/
abbrev T3 := Int × Int × Int
def nk3 (k : T3) : NestedKey := .tup [.num k.1, .tup [.num k.2.1, .num k.2.2]]
def DnE (P : Program) (w : World) (a : Addr) (xs : List (T3 × Addr)) : Heap → Prop := fun h => (a == sysModules) = false ∧ xs.length ≤ sizeLine ∧ (xs.map fun x => nk3 x.1).Nodup ∧ ∃ o es ep, h.get? a = some o ∧ o.ExactDict ∧ o.data = .dict es ep ∧ es.toList = xs.map fun x => entryOfKey (nestedKind P w) (nk3 x.1, x.2, .bool true)
def KvN (K : PySem.W.Frag) (B : Addr → Prop) (H : Hp) (xs : List (T3 × Addr)) : Prop := ∀ x ∈ xs, ∃ q, FzT K B H x.2 [.int x.1.1, .ref q] ∧ FzT K B H q [.int x.1.2.1, .int x.1.2.2]
theorem KvN.mono {K : PySem.W.Frag} {B B' : Addr → Prop} {H H' : Hp} {xs : List (T3 × Addr)} (k : Kp B H B' H') (h : KvN K B H xs) : KvN K B' H' xs := fun x hx => by
  obtain ⟨q, h1, h2⟩ := h x hx
  exact ⟨q, h1.mono k, h2.mono k⟩
def n3D (k : T3) : D := .tuple [.int k.1, .tuple [.int k.2.1, .int k.2.2]]
def dcN (ks : List T3) : D := .list (ks.map n3D)
def dcK (es : List (Key × D)) : D := .dict (es.map fun e => (kD e.1, e.2))
def dcT (es : List (List Key × D)) : D := .dict (es.map fun e => (.tuple (e.1.map kD), e.2))
mutual
inductive Own (K : PySem.W.Frag) (B : Addr → Prop) (H : Hp) : Ty → V → D → List Addr → Prop
  | fr {v : V} {d : D} : Dt K B H v d → Own K B H .fr v d []
  | pt {t : Ty} {v : V} {d : D} {f : List Addr} : Own K B H t v d f → Own K B H (.pt v t) v d f
  | non {t : Ty} : Own K B H (.op t) .non .none []
  | som {t : Ty} {v : V} {d : D} {f : List Addr} : Own K B H t v d f → Own K B H (.op t) v d f
  | ls {t : Ty} {p : Addr} {vs : List V} {ds : List D} {f : List Addr} : H p = some (.lst vs) → OwnZ K B H (List.replicate ds.length t) vs ds f → Own K B H (.ls t) (.ref p) (.list ds) (p :: f)
  | lp {i : Nat} {u : V} {t : Ty} {p : Addr} {vs : List V} {ds : List D} {f : List Addr} : H p = some (.lst vs) → OwnZ K B H (List.replicate ds.length t) vs ds f → vs[i]? = some u → Own K B H (.lp i u t) (.ref p) (.list ds) (p :: f)
  | tp {ts : List Ty} {p : Addr} {vs : List V} {ds : List D} {f : List Addr} : FzU B H p vs → OwnZ K B H ts vs ds f → Own K B H (.tp ts) (.ref p) (.tuple ds) f
  | nd {k : Nk} {ts : List Ty} {p : Addr} {o : HO} {vs : List V} {ds : List D} {f : List Addr} : H p = some o → k.at o vs → OwnZ K B H ts vs ds f → Own K B H (.nd k ts) (.ref p) (ndD k ds) (p :: f)
  | dk {p : Addr} {kvs : List (Key × V)} {es : List (Key × D)} : H p = some (.dK kvs) → KvZ K B H kvs es → Own K B H .dk (.ref p) (dcK es) [p]
  | dt {P : Program} {w : World} {p : Addr} {xs : List (List Key × Addr × Value)} {es : List (List Key × D)} : H p = some (.ext (DxE P w p xs)) → KvT K B H xs es → Own K B H (.dt P w) (.ref p) (dcT es) [p]
  | dn {P : Program} {w : World} {p : Addr} {xs : List (T3 × Addr)} : H p = some (.ext (DnE P w p xs)) → KvN K B H xs → Own K B H (.dn P w) (.ref p) (dcN (xs.map (·.1))) [p]
  | al0 {t u : Ty} {v : V} {d : D} {f : List Addr} : Own K B H t v d f → Own K B H (.al t u) v (.tuple [.int 0, d]) f
  | al1 {t u : Ty} {v : V} {d : D} {f : List Addr} : Own K B H u v d f → Own K B H (.al t u) v (.tuple [.int 1, d]) f
inductive OwnZ (K : PySem.W.Frag) (B : Addr → Prop) (H : Hp) : List Ty → List V → List D → List Addr → Prop
  | nil : OwnZ K B H [] [] [] []
  | cons {t : Ty} {v : V} {d : D} {f : List Addr} {ts : List Ty} {vs : List V} {ds : List D} {g : List Addr} : Own K B H t v d f → OwnZ K B H ts vs ds g → OwnZ K B H (t :: ts) (v :: vs) (d :: ds) (f ++ g)
end
mutual
/-- types of what is plain data: lists and tuples -/
def Ty.dat : Ty → Bool
  | .fr => true
  | .op t => t.dat
  | .ls t => t.dat
  | .tp ts => datAll ts
  | .nd .lst ts => datAll ts
  | _ => false
def datAll : List Ty → Bool
  | [] => true
  | t :: ts => t.dat && datAll ts
end
/-- objects that are changed -/
def Chg : HO → Bool
  | .lst _ => true
  | .ins _ _ _ => true
  | .dK _ => true
  | .dT _ => true
  | .ext _ => true
  | _ => false
theorem Nk.chg {k : Nk} {o : HO} {vs : List V} (h : k.at o vs) : Chg o = true := by
  cases k with
  | obj C ns => obtain ⟨_, dx, rfl⟩ := h; rfl
  | lst => cases h; rfl
  | rc ks => obtain ⟨_, rfl⟩ := h; rfl
theorem zip_inj {α β : Type} {ns : List α} {vs vs' : List β} (h1 : ns.length = vs.length) (h2 : ns.length = vs'.length) (e : ns.zip vs = ns.zip vs') : vs = vs' := by
  rw [← List.map_snd_zip (l₁ := ns) (l₂ := vs) (Nat.le_of_eq h1.symm), e, List.map_snd_zip (l₁ := ns) (l₂ := vs') (Nat.le_of_eq h2.symm)]
theorem Nk.inj {k : Nk} {o : HO} {vs vs' : List V} (h : k.at o vs) (h' : k.at o vs') : vs = vs' := by
  cases k with
  | obj C ns =>
    obtain ⟨l, dx, rfl⟩ := h
    obtain ⟨l', dx', e⟩ := h'
    injection e with _ _ e
    exact zip_inj l l' e
  | lst => cases h; cases h'; rfl
  | rc ks =>
    obtain ⟨l, rfl⟩ := h
    obtain ⟨l', e⟩ := h'
    injection e with e
    exact zip_inj (by rw [List.length_map]; exact l) (by rw [List.length_map]; exact l') e
section
variable {K : PySem.W.Frag} {B B' : Addr → Prop} {H H' : Hp} {t tk : Ty} {ts : List Ty} {v u : V} {d dk : D} {vs : List V} {ds : List D} {f g : List Addr} {p : Addr} {n : Nat}
theorem Own.mono (k : Kp B H B' H') (h : Own K B H t v d f) : (∀ q ∈ f, H' q = H q) → Own K B' H' t v d f :=
  Own.rec (motive_1 := fun t v d f _ => (∀ q ∈ f, H' q = H q) → Own K B' H' t v d f) (motive_2 := fun ts vs ds f _ => (∀ q ∈ f, H' q = H q) → OwnZ K B' H' ts vs ds f)
    (fun h _ => .fr (Dt.mono k _ _ h)) (fun _ ih e => .pt (ih e)) (fun _ => .non) (fun _ ih e => .som (ih e)) (fun h _ ih e => .ls (by rw [e _ (.head _)]; exact h) (ih fun q hq => e q (.tail _ hq)))
    (fun h _ hu ih e => .lp (by rw [e _ (.head _)]; exact h) (ih fun q hq => e q (.tail _ hq)) hu)
    (fun h _ ih e => .tp (h.mono k) (ih e)) (fun h ha _ ih e => .nd (by rw [e _ (.head _)]; exact h) ha (ih fun q hq => e q (.tail _ hq)))
    (fun h hz e => .dk (by rw [e _ (.head _)]; exact h) (hz.mono k)) (fun h hz e => .dt (by rw [e _ (.head _)]; exact h) (hz.mono k)) (fun h hz e => .dn (by rw [e _ (.head _)]; exact h) (hz.mono k)) (fun _ ih e => .al0 (ih e)) (fun _ ih e => .al1 (ih e))
    (fun _ => .nil) (fun _ _ i1 i2 e => .cons (i1 fun q hq => e q (List.mem_append.mpr (.inl hq))) (i2 fun q hq => e q (List.mem_append.mpr (.inr hq)))) h
theorem OwnZ.mono (k : Kp B H B' H') : ∀ {ts : List Ty} {vs : List V} {ds : List D} {f : List Addr}, OwnZ K B H ts vs ds f → (∀ q ∈ f, H' q = H q) → OwnZ K B' H' ts vs ds f
  | [], _, _, _, h, _ => by cases h; exact .nil
  | _ :: _, _, _, _, h, e => by
    cases h with
    | cons a b => exact .cons (a.mono k fun q hq => e q (List.mem_append.mpr (.inl hq))) (OwnZ.mono k b fun q hq => e q (List.mem_append.mpr (.inr hq)))
/-- at each place stands what may be changed -/
theorem Own.occ (h : Own K B H t v d f) : ∀ q ∈ f, ∃ o, H q = some o ∧ Chg o = true :=
  Own.rec (motive_1 := fun t v d f _ => ∀ q ∈ f, ∃ o, H q = some o ∧ Chg o = true) (motive_2 := fun ts vs ds f _ => ∀ q ∈ f, ∃ o, H q = some o ∧ Chg o = true)
    (fun _ q hq => by cases hq) (fun _ ih => ih) (fun q hq => by cases hq) (fun _ ih => ih) (fun h _ ih q hq => by
      rcases List.mem_cons.mp hq with e | e
      · subst e; exact ⟨_, h, rfl⟩
      · exact ih q e)
    (fun h _ _ ih q hq => by
      rcases List.mem_cons.mp hq with e | e
      · subst e; exact ⟨_, h, rfl⟩
      · exact ih q e)
    (fun _ _ ih => ih) (fun h ha _ ih q hq => by
      rcases List.mem_cons.mp hq with e | e
      · subst e; exact ⟨_, h, Nk.chg ha⟩
      · exact ih q e)
    (fun h _ q hq => by rw [List.mem_singleton.mp hq]; exact ⟨_, h, rfl⟩) (fun h _ q hq => by rw [List.mem_singleton.mp hq]; exact ⟨_, h, rfl⟩) (fun h _ q hq => by rw [List.mem_singleton.mp hq]; exact ⟨_, h, rfl⟩) (fun _ ih => ih) (fun _ ih => ih)
    (fun q hq => by cases hq) (fun _ _ i1 i2 q hq => (List.mem_append.mp hq).elim (i1 q) (i2 q)) h
/-- taken as data that nobody changes -/
theorem datAll_rep {t : Ty} (h : t.dat = true) : ∀ n, datAll (List.replicate n t) = true
  | 0 => rfl
  | n + 1 => by rw [List.replicate_succ]; show (t.dat && datAll _) = true; rw [datAll_rep h n, h]; rfl
theorem Own.dt' (hB : ∀ q, B q → B' q) (h : Own K B H t v d f) : t.dat = true → (∀ q ∈ f, B' q) → Dt K B' H v d :=
  Own.rec (motive_1 := fun t v d f _ => t.dat = true → (∀ q ∈ f, B' q) → Dt K B' H v d) (motive_2 := fun ts vs ds f _ => datAll ts = true → (∀ q ∈ f, B' q) → DtAll K B' H vs ds)
    (fun h _ _ => Dt.mono (fun q o b e => ⟨hB q b, e⟩) _ _ h) (fun _ _ ht => by cases ht) (fun _ _ => .non) (fun _ ih t e => ih t e)
    (fun h _ ih ht e => .lst ⟨e _ (.head _), h⟩ (ih (datAll_rep (by exact ht) _) fun q hq => e q (.tail _ hq)))
    (fun _ _ _ _ ht => by cases ht)
    (fun h _ ih ht e => .tup (h.mono (fun q o b e => ⟨hB q b, e⟩)).fz (ih ht e))
    (fun {k ts p o vs ds f} h ha _ ih ht e => by
      cases k with
      | lst => cases ha; exact .lst ⟨e _ (.head _), h⟩ (ih ht fun q hq => e q (.tail _ hq))
      | obj C ns => cases ht
      | rc ks => cases ht)
    (fun _ _ ht => by cases ht) (fun _ _ ht => by cases ht) (fun _ _ ht => by cases ht) (fun _ _ ht => by cases ht) (fun _ _ ht => by cases ht)
    (fun _ _ => .nil) (fun {t v d f ts vs ds g} _ _ i1 i2 ht e => by
      have h2 : t.dat = true ∧ datAll ts = true := by
        have : (t.dat && datAll ts) = true := ht
        rwa [Bool.and_eq_true] at this
      exact .cons (i1 h2.1 fun q hq => e q (List.mem_append.mpr (.inl hq))) (i2 h2.2 fun q hq => e q (List.mem_append.mpr (.inr hq)))) h
theorem OwnZ.len : ∀ {ts : List Ty} {vs : List V} {ds : List D} {f : List Addr}, OwnZ K B H ts vs ds f → vs.length = ds.length ∧ ts.length = ds.length
  | [], _, _, _, h => by cases h; exact ⟨rfl, rfl⟩
  | _ :: _, _, _, _, h => by
    cases h with
    | cons a b => have := OwnZ.len b; simp [this.1, this.2]
theorem Own.nonf (h : Own K B H t v d f) : v = .non → d = .none → f = [] :=
  Own.rec (motive_1 := fun t v d f _ => v = .non → d = .none → f = []) (motive_2 := fun _ _ _ _ _ => True)
    (fun _ _ _ => rfl) (fun _ ih => ih) (fun _ _ => rfl) (fun _ ih => ih) (fun _ _ _ e => by cases e) (fun _ _ _ _ e => by cases e) (fun _ _ _ e => by cases e) (fun _ _ _ _ e => by cases e) (fun _ _ e => by cases e) (fun _ _ e => by cases e) (fun _ _ e => by cases e) (fun _ _ _ e => by cases e) (fun _ _ _ e => by cases e) trivial (fun _ _ _ _ => trivial) h
/-- the places of a tree are told by the heap -/
theorem Own.uniq (h : Own K B H t v d f) : ∀ B' f', Own K B' H t v d f' → f = f' :=
  Own.rec (motive_1 := fun t v d f _ => ∀ B' f', Own K B' H t v d f' → f = f') (motive_2 := fun ts vs ds f _ => ∀ B' f', OwnZ K B' H ts vs ds f' → f = f')
    (fun _ B' f' h => by cases h; rfl)
    (fun _ ih B' f' h => by
      cases h with
      | pt h => exact ih B' f' h)
    (fun B' f' h => by
      cases h with
      | non => rfl
      | som h => exact (h.nonf rfl rfl).symm)
    (fun h0 ih B' f' h => by
      cases h with
      | non => exact h0.nonf rfl rfl
      | som h => exact ih B' f' h)
    (fun {t p vs ds f} hp _ ih B' f' h => by
      cases h with
      | @ls _ _ vs' _ g hp' hz =>
        rw [hp] at hp'; cases hp'
        rw [ih B' g hz])
    (fun {i u t p vs ds f} hp _ hu ih B' f' h => by
      cases h with
      | @lp _ _ _ _ vs' _ g hp' hz _ =>
        rw [hp] at hp'; cases hp'
        rw [ih B' g hz])
    (fun {ts p vs ds f} hp _ ih B' f' h => by
      cases h with
      | @tp _ _ vs' _ _ hp' hz =>
        have e := hp.2.symm.trans hp'.2
        cases e
        exact ih B' f' hz)
    (fun {k ts p o vs ds f} hp ha hz0 ih B' f' h => by
      generalize e : ndD k ds = d' at h
      cases h with
      | @nd _ _ _ o' vs' ds' g hp' ha' hz =>
        rw [hp] at hp'; cases hp'
        have e3 := Nk.inj ha ha'
        subst e3
        have e4 : ds = ds' := by
          cases k <;> · injection e
        subst e4
        rw [ih B' g hz])
    (fun {p kvs es} hp hz B' f' h => by
      generalize e : dcK es = d' at h
      cases h; rfl)
    (fun {P w p kvs es} hp hz B' f' h => by
      generalize e : dcT es = d' at h
      cases h; rfl)
    (fun {P w p xs} hp hz B' f' h => by
      generalize e : dcN (xs.map (·.1)) = d' at h
      cases h; rfl)
    (fun _ ih B' f' h => by
      cases h with
      | al0 h => exact ih B' f' h)
    (fun _ ih B' f' h => by
      cases h with
      | al1 h => exact ih B' f' h)
    (fun B' f' h => by cases h; rfl)
    (fun _ _ i1 i2 B' f' h => by
      cases h with
      | cons a b => rw [i1 B' _ a, i2 B' _ b]) h
open Classical in
/-- the places of a tree -/
noncomputable def foot (K : PySem.W.Frag) (t : Ty) (v : V) (d : D) (H : Hp) : List Addr := if h : ∃ f B, Own K B H t v d f then choose h else []
theorem foot_eq (h : Own K B H t v d f) : foot K t v d H = f := by
  have e : ∃ f B, Own K B H t v d f := ⟨f, B, h⟩
  unfold foot
  rw [dif_pos e]
  obtain ⟨B', h'⟩ := Classical.choose_spec e
  exact h'.uniq B f h
/-- a tree of type t at v, of places of which N is true -/
noncomputable def rootS (K : PySem.W.Frag) (N : Addr → Prop) (t : Ty) (v : V) (d : D) : Root where
  fp := foot K t v d
  P := fun B H => ∃ f, Own K B H t v d f ∧ ∀ q ∈ f, N q
  mono := fun k e h => by
    obtain ⟨f, ho, hn⟩ := h
    rw [foot_eq ho] at e
    exact ⟨f, ho.mono k e, hn⟩
  same := fun k e h => by
    obtain ⟨f, ho, hn⟩ := h
    rw [foot_eq ho] at e
    rw [foot_eq ho, foot_eq (ho.mono k e)]
  occ := fun h q hq => by
    obtain ⟨f, ho, hn⟩ := h
    rw [foot_eq ho] at hq
    obtain ⟨o, h1, _⟩ := ho.occ q hq
    exact ⟨o, h1⟩
/-- the tree of type t at v, of which the subtree at u, of type tk, is away; pl puts it back -/
def rootH (K : PySem.W.Frag) (N : Addr → Prop) (tk : Ty) (u : V) (t : Ty) (v : V) (pl : D → D) (g : List Addr) : Root where
  fp := fun _ => g
  same := fun _ _ _ => rfl
  P := fun B H => (∀ q ∈ g, (∃ o, H q = some o) ∧ N q) ∧ ∀ B' H' d' fk, Kp B H B' H' → (∀ q ∈ g, H' q = H q) → Own K B' H' tk u d' fk → ∃ f2, f2.Perm (fk ++ g) ∧ Own K B' H' t v (pl d') f2
  mono := fun k e h => by
    refine ⟨fun q hq => by rw [e q hq]; exact h.1 q hq, fun B2 H2 d' fk k2 e2 ho => ?_⟩
    exact h.2 B2 H2 d' fk (k.trans k2) (fun q hq => (e2 q hq).trans (e q hq)) ho
  occ := fun h q hq => (h.1 q hq).1
end
def kidD : D → Nat → Option D
  | .list ds, n => ds[n]?
  | .tuple ds, n => ds[n]?
  | _, _ => none
def setkD (d : D) (n : Nat) (y : D) : D := match d with
  | .list ds => .list (ds.set n y)
  | .tuple ds => .tuple (ds.set n y)
  | _ => d
def getP : D → List Nat → Option D
  | d, [] => some d
  | d, n :: p => match kidD d n with
    | some x => getP x p
    | none => none
def setP : D → List Nat → D → D
  | _, [], y => y
  | d, n :: p, y => match kidD d n with
    | some x => setkD d n (setP x p y)
    | none => d
section
variable {K : PySem.W.Frag} {O : Og} {L : List (V × D)} {C C' Z : List Root} {B B' : Addr → Prop} {H H' : Hp} {N : Addr → Prop} {t tk : Ty} {ts : List Ty} {v u : V} {d dk : D} {vs : List V} {ds : List D} {f g : List Addr} {p : Addr} {n : Nat}
/-- roots told otherwise, over the same places -/
theorem Wd.imp {Q : Prop} (w : Wd K O L (C ++ Z) H) (h : ∀ B, (∀ f ∈ L, Dt K B H f.1 f.2) → (∀ c ∈ C, c.P B H) → ∃ C', (fps C H).Perm (fps C' H) ∧ (∀ c ∈ C', c.P B H) ∧ (Wd K O L (C' ++ Z) H → Q)) : Q := by
  obtain ⟨B, wb⟩ := w
  obtain ⟨C', h1, h2, h3⟩ := h B wb.ft fun c hc => wb.rt c (List.mem_append.mpr (.inl hc))
  exact h3 ⟨B, wb.swap h1 (fun _ _ => rfl) (fun q hq => by
    obtain ⟨c, hc, hq2⟩ := List.mem_flatMap.mp hq
    exact c.occ (wb.rt c (List.mem_append.mpr (.inl hc))) q hq2) fun _ => h2⟩
theorem fps_one (c : Root) (H : Hp) : fps [c] H = c.fp H := List.append_nil _
theorem fps_two (c e : Root) (H : Hp) : fps [c, e] H = c.fp H ++ e.fp H := by rw [fps_cons, fps_one]
theorem rootS_fp (h : Own K B H t v d f) : (rootS K N t v d).fp H = f := foot_eq h
theorem mem1 {c e : Root} (h : c ∈ [e]) : c = e := List.mem_singleton.mp h
theorem mem2 {c e e' : Root} (h : c ∈ [e, e']) : c = e ∨ c = e' := by simpa using h
theorem Wd.unzoomS {pl : D → D} (w : Wd K O L (rootS K N tk u dk :: rootH K N tk u t v pl g :: Z) H) : Wd K O L (rootS K N t v (pl dk) :: Z) H := by
  refine Wd.imp (C := [rootS K N tk u dk, rootH K N tk u t v pl g]) w fun B _ hr => ?_
  obtain ⟨fk, ho, hn⟩ := hr _ (.head _)
  obtain ⟨hg, hh⟩ := hr _ (.tail _ (.head _))
  obtain ⟨f3, hp3, ho3⟩ := hh B H dk fk .refl (fun _ _ => rfl) ho
  refine ⟨[rootS K N t v (pl dk)], ?_, fun c hc => ?_, fun w' => w'⟩
  · rw [fps_two, fps_one, rootS_fp ho, rootS_fp ho3]
    exact hp3.symm
  · rw [mem1 hc]
    refine ⟨f3, ho3, fun q hq => ?_⟩
    rcases List.mem_append.mp (hp3.mem_iff.mp hq) with z | z
    · exact hn q z
    · exact (hg q z).2
theorem Wd.hole0S (w : Wd K O L (rootS K N t v d :: Z) H) : Wd K O L (rootS K N t v d :: rootH K N t v t v (fun y => y) [] :: Z) H := by
  refine Wd.imp (C := [rootS K N t v d]) w fun B _ hr => ⟨[rootS K N t v d, rootH K N t v t v (fun y => y) []], ?_, fun c hc => ?_, fun w' => w'⟩
  · rw [fps_one, fps_two, show (rootH K N t v t v (fun y => y) []).fp H = [] from rfl, List.append_nil]
  · rcases mem2 hc with e | e
    · rw [e]; exact hr _ (.head _)
    · rw [e]
      exact ⟨fun q hq => (by cases hq), fun B' H' d' fk _ _ ho => ⟨fk, by rw [List.append_nil], ho⟩⟩
/-- a frozen thing, as a tree and back -/
theorem Wd.ofFS (w : Wd K O L Z H) (h : (v, d) ∈ L) : Wd K O L (rootS K N .fr v d :: Z) H := by
  refine Wd.imp (C := []) w fun B hf _ => ⟨[rootS K N .fr v d], ?_, fun c hc => ?_, fun w' => w'⟩
  · rw [fps_one, rootS_fp (.fr (hf _ h))]; exact .refl _
  · rw [mem1 hc]; exact ⟨[], .fr (hf _ h), fun q hq => by cases hq⟩
/-- other places are let, too -/
theorem Wd.weakS {N' : Addr → Prop} (w : Wd K O L (rootS K N t v d :: Z) H) (h : ∀ q, N q → N' q) : Wd K O L (rootS K N' t v d :: Z) H := by
  refine Wd.imp (C := [rootS K N t v d]) w fun B _ hr => ⟨[rootS K N' t v d], .refl _, fun c hc => ?_, fun w' => w'⟩
  obtain ⟨f, ho, hn⟩ := hr _ (.head _)
  rw [mem1 hc]
  exact ⟨f, ho, fun q hq => h q (hn q hq)⟩
end
/-- what the def was not handed -/
def nw (G : Gx) : Addr → Prop := fun q => q ∉ G.O.fp
def tr_ : Addr → Prop := fun _ => True
section
variable {μ : Type} (G : Gx)
/-- a place within the tree at v: its value u; E tells its path -/
def PLs (te : TE) (σ : St) (L : List (V × D)) (C Z : μ → List Root) (N : Addr → Prop) (t : Ty) (v : V) (get : μ → D) (tk : Ty) (E : SM μ (List Nat)) : Prop :=
  ∀ m F L' H Q p m', E m = .ok p m' → (∀ x ∈ L, x ∈ L') → Wd G.K G.O L' (C m ++ F) H →
    (∀ u g r H', getP (get m') p = some r → Wd G.K G.O L' (rootS G.K N tk u r :: rootH G.K N tk u t v (setP (get m') p) g :: (Z m' ++ F)) H' → Q u H') → te σ H Q
/-- a tree that is made, or handed on -/
def FTs (N : Addr → Prop) (te : TE) (σ : St) (L : List (V × D)) (C C' : μ → List Root) (t : Ty) (E : SM μ D) : Prop :=
  ∀ m F L' H Q, (∀ x ∈ L, x ∈ L') → Wd G.K G.O L' (C m ++ F) H →
    (∀ x m' v H', E m = .ok x m' → Wd G.K G.O L' (rootS G.K N t v x :: (C' m' ++ F)) H' → Q v H') → Bk G C' F L' (E m) → te σ H Q
end
namespace SM
variable {μ : Type}
/-- the data at a place -/
def rdP (get : μ → D) (p : List Nat) : SM μ D := fun m => match getP (get m) p with
  | some r => .ok r m
  | none => .bad
/-- the data at a place gets other data -/
def mdP (get : μ → D) (put : D → μ → μ) (p : List Nat) (f : D → Option D) : SM μ Unit := fun m => match getP (get m) p with
  | some r => match f r with
    | some y => .ok () (put (setP (get m) p y) m)
    | none => .bad
  | none => .bad
/-- the index of an item -/
def ixD (d : D) (i : Int) : Option Nat := match d with
  | .list ds => ixN ds.length i
  | .tuple ds => ixN ds.length i
  | _ => none
/-- a thing that is not to raise -/
def nr1 {α : Type} (x : SM μ α) : SM μ α := fun m => match x m with
  | .ok a m' => .ok a m'
  | _ => .bad
theorem nr1_ok {α : Type} {x : SM μ α} {m m' : μ} {a : α} (h : x m = .ok a m') : nr1 x m = .ok a m' := by unfold nr1; rw [h]
end SM
section
open SM
variable {X : Cx} {μ τ τ' ρ : Type} {G : Gx} {σ : St} {L : List (V × D)} {C C' C1 C2 Cp Z Z1 : μ → List Root} {te ta tb tc ti : TE} {tt tu : TT} {s0 t1 u1 : TS} {E E1 E2 E3 : SM μ D} {Jn : Shp μ τ} {Jl : Shp μ ρ} {i j n : Nat} {v u vy : V} {x d y : D} {t tk tm : Ty} {W : SM μ (List Nat)} {N N' : Addr → Prop} {get : μ → D} {put : D → μ → μ} {Ca : Addr} {ns : List Str} {ts : List Ty} {nm : Str}
theorem mdP_nb {p : List Nat} {f : D → Option D} {m : μ} {r : D} (e : getP (get m) p = some r) (h : mdP get put p f m ≠ .bad) : ∃ y, f r = some y := by
  unfold mdP at h
  rw [e] at h
  cases e2 : f r with
  | some y => exact ⟨y, rfl⟩
  | none => simp only [e2] at h; exact absurd rfl h
theorem mdP_ok {p : List Nat} {f : D → Option D} {m : μ} {r y : D} (e : getP (get m) p = some r) (h : f r = some y) : mdP get put p f m = .ok () (put (setP (get m) p y) m) := by unfold mdP; rw [e]; simp only [h]
theorem setP_nil (d : D) : setP d [] = fun y => y := by funext y; cases d <;> rfl
theorem pls_var (hv : σ[i]? = some (some v)) (hC : ∀ m, (C m).Perm (rootS G.K N t v (get m) :: Z m)) : PLs G (tVar i) σ L C Z N t v get t (pu []) := by
  intro m F L' H Q p m' e s w q
  cases e
  refine ⟨v, hv, q v [] (get m) H rfl ?_⟩
  rw [setP_nil]
  exact Wd.hole0S (w.perm ((hC m).append_right F))
theorem ok_inv {α β : Type} {x : SM μ α} {f : α → SM μ β} {m m' : μ} {y : β} (h : bd x f m = .ok y m') : ∃ a m1, x m = .ok a m1 ∧ f a m1 = .ok y m' := by
  unfold bd at h
  cases e : x m with
  | ok a m1 => rw [e] at h; exact ⟨a, m1, rfl, h⟩
  | exc e' m1 => rw [e] at h; cases h
  | bad => rw [e] at h; cases h
theorem nr1_nb {α : Type} {x : SM μ α} {m : μ} (h : nr1 x m ≠ .bad) : ∃ a m', x m = .ok a m' := by
  unfold nr1 at h
  cases e : x m with
  | ok a m' => exact ⟨a, m', rfl⟩
  | exc e' m' => rw [e] at h; exact absurd rfl h
  | bad => rw [e] at h; exact absurd rfl h
theorem Wb.swapSub {K : PySem.W.Frag} {O : Og} {B : Addr → Prop} {C C' Z : List Root} {H H' : Hp} (w : Wb K O B L (C ++ Z) H) (hm : ∀ q ∈ fps C' H', q ∈ fps C H) (hnd2 : (fps C' H').Nodup) (hk : ∀ q, q ∉ fps C H → H' q = H q) (hoc : ∀ q ∈ fps C H, ∃ o, H' q = some o) (hr : Kp B H B H' → ∀ c ∈ C', c.P B H') : Wb K O B L (C' ++ Z) H' := by
  have hnd := w.nd
  rw [fps_app] at hnd
  obtain ⟨n1, n2, n3⟩ := List.nodup_append.mp hnd
  have hC : ∀ q ∈ fps C H, q ∈ fps (C ++ Z) H := fun q hq => by rw [fps_app]; exact List.mem_append.mpr (.inl hq)
  have hZ : ∀ q ∈ fps Z H, q ∈ fps (C ++ Z) H := fun q hq => by rw [fps_app]; exact List.mem_append.mpr (.inr hq)
  have k : Kp B H B H' := fun q o b e => ⟨b, by rw [hk q fun z => w.nb q (hC q z) b]; exact e⟩
  have es : fps Z H' = fps Z H := fps_same k (fun c hc => w.rt c (List.mem_append.mpr (.inr hc))) fun q hq => hk q fun z => n3 q z q hq rfl
  have hm2 : ∀ q ∈ fps (C' ++ Z) H', q ∈ fps (C ++ Z) H := fun q hq => by
    rw [fps_app, es] at hq
    rcases List.mem_append.mp hq with e | e
    · exact hC q (hm q e)
    · exact hZ q e
  refine ⟨w.lo, w.hi, ?_, fun q hq => w.nb q (hm2 q hq), fun q hq => w.fr q (hm2 q hq), fun c hc => ?_, fun f hf => Dt.mono k _ _ (w.ft f hf), fun q o hq e => ?_, fun q hq => ?_, fun q b => ?_⟩
  · rw [fps_app, es]
    exact List.nodup_append.mpr ⟨hnd2, n2, fun x hx y hy => n3 x (hm x hx) y hy⟩
  · rcases List.mem_append.mp hc with e | e
    · exact hr k c e
    · refine c.mono k (fun q hq => hk q fun z => n3 q z q (mem_fps e hq) rfl) (w.rt c (List.mem_append.mpr (.inr e)))
  · by_cases z : q ∈ fps C H
    · rcases w.fr q (hC q z) with y | y
      · exact absurd y hq
      · rw [y] at e; cases e
    · rw [hk q z]; exact w.kp q o hq e
  · by_cases z : q ∈ fps C H
    · exact hoc q z
    · rw [hk q z]; exact w.oc q hq
  · rw [hk q fun z => w.nb q (hC q z) b]; exact w.bo q b
/-- a tree behind those of a list -/
theorem OwnZ.snoc {K : PySem.W.Frag} {B : Addr → Prop} {H : Hp} {fu : List Addr} : ∀ {ts : List Ty} {vs : List V} {ds : List D} {f : List Addr}, OwnZ K B H ts vs ds f → Own K B H t u y fu → OwnZ K B H (ts ++ [t]) (vs ++ [u]) (ds ++ [y]) (f ++ fu)
  | [], _, _, _, h, o => by
    cases h
    have := OwnZ.cons (K := K) o .nil
    rw [List.append_nil] at this
    exact this
  | _ :: _, _, _, _, h, o => by
    cases h with
    | cons a b =>
      rw [List.append_assoc]
      exact .cons a (OwnZ.snoc b o)
theorem Wd.appT {K : PySem.W.Frag} {O : Og} {Z : List Root} {H : Hp} (w : Wd K O L (rootS K N (.ls t) v d :: rootS K N t vy y :: Z) H) : ∃ p vs ds, v = .ref p ∧ d = .list ds ∧ H p = some (.lst vs) ∧ vs.length = ds.length ∧ Wd K O L (rootS K N (.ls t) v (.list (ds ++ [y])) :: Z) (upd H p (.lst (vs ++ [vy]))) := by
  obtain ⟨B, wb⟩ := w
  obtain ⟨f, ho, hn⟩ := wb.rt _ (.head _)
  obtain ⟨fy, hy, hny⟩ := wb.rt _ (.tail _ (.head _))
  cases ho with
  | @ls _ p vs ds f hp hz =>
    refine ⟨p, vs, ds, rfl, rfl, hp, hz.len.1, ?_⟩
    have e0 : fps [rootS K N (.ls t) (.ref p) (.list ds), rootS K N t vy y] H = (p :: f) ++ fy := by
      rw [fps_two, rootS_fp (.ls hp hz), rootS_fp hy]
    have hnd := wb.nd
    rw [show (rootS K N (.ls t) (.ref p) (.list ds) :: rootS K N t vy y :: Z) = [rootS K N (.ls t) (.ref p) (.list ds), rootS K N t vy y] ++ Z from rfl, fps_app, e0] at hnd
    have hnd1 := (List.nodup_append.mp hnd).1
    have hpn : p ∉ f ++ fy := (List.nodup_cons.mp hnd1).1
    have hpB : ¬ B p := wb.nb p (by
      rw [show (rootS K N (.ls t) (.ref p) (.list ds) :: rootS K N t vy y :: Z) = [rootS K N (.ls t) (.ref p) (.list ds), rootS K N t vy y] ++ Z from rfl, fps_app, e0]
      exact List.mem_append.mpr (.inl (.head _)))
    have kk : Kp B H B (upd H p (.lst (vs ++ [vy]))) := fun q o b e => ⟨b, by rw [upd_ne fun z => hpB (by rw [← z]; exact b)]; exact e⟩
    have hnew : Own K B (upd H p (.lst (vs ++ [vy]))) (.ls t) (.ref p) (.list (ds ++ [y])) (p :: (f ++ fy)) := by
      refine .ls upd_same ?_
      rw [List.length_append, List.length_singleton, List.replicate_succ']
      exact (hz.mono kk fun q hq => upd_ne fun z => hpn (by rw [← z]; exact List.mem_append.mpr (.inl hq))).snoc (hy.mono kk fun q hq => upd_ne fun z => hpn (by rw [← z]; exact List.mem_append.mpr (.inr hq)))
    refine ⟨B, Wb.swapSub (C := [rootS K N (.ls t) (.ref p) (.list ds), rootS K N t vy y]) (C' := [rootS K N (.ls t) (.ref p) (.list (ds ++ [y]))]) wb ?_ ?_ ?_ ?_ ?_⟩
    · intro q hq
      rw [fps_one, rootS_fp hnew] at hq
      rw [e0]
      exact hq
    · rw [fps_one, rootS_fp hnew]
      exact hnd1
    · intro q hq
      rw [e0] at hq
      exact upd_ne fun z => hq (by rw [z]; exact .head _)
    · intro q hq
      by_cases z : q = p
      · rw [z]; exact ⟨_, upd_same⟩
      · rw [upd_ne z]
        obtain ⟨c, hc, hq2⟩ := List.mem_flatMap.mp hq
        refine c.occ (wb.rt c ?_) q hq2
        rcases mem2 hc with e | e
        · rw [e]; exact .head _
        · rw [e]; exact .tail _ (.head _)
    · intro _ c hc
      rw [mem1 hc]
      refine ⟨_, hnew, fun q hq => ?_⟩
      rcases List.mem_append.mp (show q ∈ (p :: f) ++ fy from hq) with z | z
      · exact hn q z
      · exact hny q z
end
namespace SM
variable {μ : Type}
def getG (get : μ → D) : SM μ D := fun m => .ok (get m) m
def putG (put : D → μ → μ) (x : D) : SM μ Unit := fun m => .ok () (put x m)
/-- data that holds no list -/
def lfr : D → Bool
  | .none => true
  | .bool _ => true
  | .int _ => true
  | .str _ => true
  | .tuple ds => lfrA ds
  | _ => false
where lfrA : List D → Bool
  | [] => true
  | d :: ds => lfr d && lfrA ds
end SM
section
variable {K : PySem.W.Frag} {O : Og} {L : List (V × D)} {C C' Z : List Root} {B B' : Addr → Prop} {H H' : Hp} {N : Addr → Prop} {t tk : Ty} {ts : List Ty} {v u vy : V} {d dk y : D} {vs : List V} {ds : List D} {f g : List Addr} {p : Addr} {i n : Nat}
theorem own_lsfr : Own K B H (.ls .fr) v d f ↔ ∃ p ds vs, v = .ref p ∧ d = .list ds ∧ f = [p] ∧ H p = some (.lst vs) ∧ DtAll K B H vs ds := by
  have zf : ∀ {vs : List V} {ds : List D} {f : List Addr}, OwnZ K B H (List.replicate ds.length .fr) vs ds f → f = [] ∧ DtAll K B H vs ds := by
    intro vs ds
    induction ds generalizing vs with
    | nil => intro f h; cases h; exact ⟨rfl, .nil⟩
    | cons x xs ih =>
      intro f h
      rw [List.length_cons, List.replicate_succ] at h
      cases h with
      | cons a b =>
        obtain ⟨e1, e2⟩ := ih b
        cases a with
        | fr a => exact ⟨by rw [e1]; rfl, .cons a e2⟩
  have fz : ∀ {vs : List V} {ds : List D}, DtAll K B H vs ds → OwnZ K B H (List.replicate ds.length .fr) vs ds [] := by
    intro vs ds h
    induction ds generalizing vs with
    | nil => cases h; exact .nil
    | cons x xs ih =>
      cases h with
      | cons a b =>
        rw [List.length_cons, List.replicate_succ]
        exact .cons (f := []) (.fr a) (ih b)
  constructor
  · intro h
    cases h with
    | ls hp hz =>
      obtain ⟨e1, e2⟩ := zf hz
      exact ⟨_, _, _, rfl, rfl, by rw [e1], hp, e2⟩
  · rintro ⟨p, ds, vs, rfl, rfl, rfl, hp, ha⟩
    exact .ls hp (fz ha)
theorem Wd.ofLS (w : Wd K O L (rootL K p d :: Z) H) (hN : N p) : Wd K O L (rootS K N (.ls .fr) (.ref p) d :: Z) H := by
  refine Wd.imp (C := [rootL K p d]) w fun B _ hr => ?_
  obtain ⟨ds, vs, rfl, h1, h2⟩ := hr _ (.head _)
  have ho : Own K B H (.ls .fr) (.ref p) (.list ds) [p] := own_lsfr.mpr ⟨p, ds, vs, rfl, rfl, rfl, h1, h2⟩
  refine ⟨[rootS K N (.ls .fr) (.ref p) (.list ds)], ?_, fun c hc => ?_, fun w' => w'⟩
  · rw [fps_one, fps_one, rootS_fp ho]; exact .refl _
  · rw [mem1 hc]; exact ⟨[p], ho, fun q hq => by rw [List.mem_singleton.mp hq]; exact hN⟩
theorem Wd.toLS (w : Wd K O L (rootS K N (.ls .fr) v d :: Z) H) : ∃ p, v = .ref p ∧ N p ∧ Wd K O L (rootL K p d :: Z) H := by
  refine Wd.imp (C := [rootS K N (.ls .fr) v d]) w fun B _ hr => ?_
  obtain ⟨f, ho, hn⟩ := hr _ (.head _)
  obtain ⟨p, ds, vs, rfl, rfl, rfl, h1, h2⟩ := own_lsfr.mp ho
  refine ⟨[rootL K p (.list ds)], ?_, fun c hc => ?_, fun w' => ⟨p, rfl, hn p (.head _), w'⟩⟩
  · rw [fps_one, fps_one, rootS_fp ho]; exact .refl _
  · rw [mem1 hc]; exact ⟨ds, vs, rfl, h1, h2⟩
/-- a new tree of plain data is frozen -/
theorem Wd.freezeS (w : Wd K O L (rootS K (fun q => q ∉ O.fp) t v d :: C) H) (ht : t.dat = true) : Wd K O ((v, d) :: L) C H := by
  obtain ⟨B, w⟩ := w
  obtain ⟨f, ho, ha⟩ := w.rt _ (.head _)
  have hnd := w.nd
  rw [fps_cons, rootS_fp ho] at hnd
  obtain ⟨n1, n2, n3⟩ := List.nodup_append.mp hnd
  have inF : ∀ p ∈ f, p ∈ fps (rootS K (fun q => q ∉ O.fp) t v d :: C) H := fun p hp => by rw [fps_cons, rootS_fp ho]; exact List.mem_append.mpr (.inl hp)
  have inC : ∀ p ∈ fps C H, p ∈ fps (rootS K (fun q => q ∉ O.fp) t v d :: C) H := fun p hp => by rw [fps_cons]; exact List.mem_append.mpr (.inr hp)
  have k : Kp B H (fun q => B q ∨ q ∈ f) H := fun q o b e => ⟨.inl b, e⟩
  have w2 : Wb K O (fun q => B q ∨ q ∈ f) L C H := by
    refine ⟨fun p b => .inl (w.lo p b), fun p b => ?_, n2, fun p hq b => ?_, fun p hq => w.fr p (inC p hq), fun c hc => c.mono k (fun _ _ => rfl) (w.rt c (.tail _ hc)), fun f hf => Dt.mono k _ _ (w.ft f hf), w.kp, w.oc, fun p b => ?_⟩
    · rcases b with b | e
      · exact w.hi p b
      · exact .inr ((w.fr p (inF p e)).resolve_left (ha p e))
    · rcases b with b | e
      · exact w.nb p (inC p hq) b
      · exact n3 p e p hq rfl
    · rcases b with b | e
      · exact w.bo p b
      · obtain ⟨o, h1, _⟩ := ho.occ p e
        exact ⟨o, h1⟩
  exact ⟨_, w2.fact (ho.dt' (fun q b => .inl b) ht fun q hq => .inr hq)⟩
end
/-- what is returned: a new tree -/
def rfS (K : PySem.W.Frag) (O : Og) (t : Ty) : V → D → List (V × D) → List Root → Prop := fun v x L1 C1 => L1 = [] ∧ C1 = [rootS K (fun q => q ∉ O.fp) t v x]
section
open SM
variable {X : Cx} {μ τ τ' ρ : Type} {G : Gx} {σ : St} {L : List (V × D)} {C C' C1 C2 Cp Z Z1 : μ → List Root} {te ta tb tc ti : TE} {tt tu : TT} {s0 t1 u1 : TS} {E E1 E2 E3 : SM μ D} {Jn : Shp μ τ} {Jl : Shp μ ρ} {i j n : Nat} {v u vy : V} {x d y : D} {t tk tm : Ty} {W : SM μ (List Nat)} {N N' : Addr → Prop} {get : μ → D} {put : D → μ → μ} {Ca : Addr} {ns : List Str} {ts : List Ty} {nm : Str}
theorem fts_fr (h : EV G te σ L C E) : FTs G N te σ L C C .fr E := fun m F L' H Q s w q b => h m F L' H Q s w (fun x m1 v H1 e1 w1 => q x m1 v H1 e1 ((Wd.ofFS w1 (.head _)).sub fun f hf => .tail _ hf)) b
theorem fts_fv (h : FV G te σ L C E) : FTs G (nw G) te σ L C C (.ls .fr) E := fun m F L' H Q s w q b => h m F L' H Q s w (fun x m1 p H1 e1 hp w1 => q x m1 (.ref p) H1 e1 (Wd.ofLS (w1.perm List.perm_middle) hp)) b
theorem fts_drop (h : FTs G N te σ L C C1 t E) (hs : Sub C2 C1) : FTs G N te σ L C C2 t E := fun m F L' H Q s w q b => h m F L' H Q s w (fun x m1 v H1 e1 w1 => q x m1 v H1 e1 (w1.subC (List.Sublist.cons₂ _ ((hs m1).append_right F)))) (b.subC hs)
theorem fts_mv (hv : σ[i]? = some (some v)) (hC : ∀ m, (C m).Perm (rootS G.K N t v (get m) :: Z m)) : FTs G N (tVar i) σ L C Z t (getG get) := fun m F L' H Q s w q _ => ⟨v, hv, q (get m) m v H rfl (w.perm ((hC m).append_right F))⟩
theorem Wd.opS {K : PySem.W.Frag} {O : Og} {Z : List Root} {H : Hp} (w : Wd K O L (rootS K N t v d :: Z) H) : Wd K O L (rootS K N (.op t) v d :: Z) H := by
  refine Wd.imp (C := [rootS K N t v d]) w fun B _ hr => ?_
  obtain ⟨f, ho, hn⟩ := hr _ (.head _)
  refine ⟨[rootS K N (.op t) v d], ?_, fun c hc => by rw [mem1 hc]; exact ⟨f, .som ho, hn⟩, fun w' => w'⟩
  rw [fps_one, fps_one, rootS_fp ho, rootS_fp (.som ho)]
theorem fts_op (h : FTs G N te σ L C C1 t E) : FTs G N te σ L C C1 (.op t) E := fun m F L' H Q s w q b => h m F L' H Q s w (fun x m1 v H1 e1 w1 => q x m1 v H1 e1 (Wd.opS w1)) b
theorem ev_fts (ht : t.dat = true) (h : FTs G (nw G) te σ L C C t E) : EV G te σ L C E := fun m F L' H Q s w q b => h m F L' H Q s w (fun x m1 v H1 e1 w1 => q x m1 v H1 e1 (Wd.freezeS w1 ht)) b
/-- what is done first, then what follows; what is kept at a refusal -/
theorem sv_bd1 {α : Type} {xx : SM μ α} {k : α → SM μ (Fl τ ρ)}
    (h1 : ∀ m F L' H (d : Ends), (∀ f ∈ L, f ∈ L') → Wd G.K G.O L' (C m ++ F) H →
      (∀ a m' σ' L2 C2 H', xx m = .ok a m' → Wd G.K G.O (L2 ++ L') (C2 m' ++ F) H' → SV G Cp u1 σ' (L2 ++ L) C2 (k a) Jn Jl → u1 d σ' H') → Bk G Cp F L' (xx m) → t1 { d with nx := u1 d } σ H) :
    SV G Cp (tSeq t1 u1) σ L C (bd xx k) Jn Jl := by
  intro m F L' H d s w q1 q2 q3 q4 b
  refine h1 m F L' H d s w (fun a m' σ' L2 C2 H' e1 w1 h2 => ?_) b.fst
  have er : bd xx k m = k a m' := bd_ok e1
  rw [er] at b
  have sb : ∀ {L3 : List (V × D)} {C3 : List Root} {H3 : Hp}, Wd G.K G.O (L3 ++ (L2 ++ L')) C3 H3 → Wd G.K G.O (L3 ++ L') C3 H3 := fun {L3 C3 H3} w3 => w3.sub fun f hf => by
    rcases List.mem_append.mp hf with e | e
    · exact List.mem_append.mpr (.inl e)
    · exact List.mem_append.mpr (.inr (List.mem_append.mpr (.inr e)))
  refine h2 m' F (L2 ++ L') H' d (fun f hf => ?_) w1 (fun z2 m2 σ2 L3 C3 H2 e2 j2 w2 => q1 z2 m2 σ2 L3 C3 H2 (er.trans e2) j2 (sb w2)) (fun z2 m2 σ2 L3 C3 H2 e2 j2 w2 => q2 z2 m2 σ2 L3 C3 H2 (er.trans e2) j2 (sb w2))
    (fun z2 m2 σ2 L3 C3 H2 e2 j2 w2 => q3 z2 m2 σ2 L3 C3 H2 (er.trans e2) j2 (sb w2)) (fun x m2 v H2 L4 C4 e2 r2 w2 => q4 x m2 v H2 L4 C4 (er.trans e2) r2 (sb w2)) (b.mono fun f hf => List.mem_append.mpr (.inr hf))
  rcases List.mem_append.mp hf with e | e
  · exact List.mem_append.mpr (.inl e)
  · exact List.mem_append.mpr (.inr (s f e))
theorem sv_asgS {C2 : V → μ → List Root} {σ' : V → St} {k : SM μ (Fl τ ρ)} (hz : Sub Cp C1) (h : FTs G N te σ L C C1 t E) (hσ : ∀ v, σ.set i (some v) = σ' v) (hC' : ∀ v x m, (rootS G.K N t v x :: C1 m).Perm (C2 v (put x m))) (hk : ∀ v, SV G Cp s0 (σ' v) L (C2 v) k Jn Jl) : SV G Cp (tSeq (tAsg te (gName i)) s0) σ L C (bd (bd E fun x => putG put x) fun _ => k) Jn Jl :=
  sv_bd1 fun m F L' H e s w q b => h m F L' H _ s w (fun x m1 v H1 e1 w1 => by
    show s0 e (σ.set i (some v)) H1
    rw [hσ v]
    refine q () (put x m1) (σ' v) [] (C2 v) H1 ?_ (w1.perm ((hC' v x m1).append_right F)) (hk v)
    rw [bd_ok e1]; rfl) (b.fst.subC hz)
theorem sv_retS (hz : Sub Cp C1) (h : FTs G (nw G) te σ L C C1 t E) (hf : G.rf = rfS G.K G.O t := by rfl) : SV G Cp (tSeq (tRet te) s0) σ L C (bd E fun x => pu (.rt x)) Jn Jl := by
  intro m F L' H d s w _ _ _ q b
  refine h m F L' H _ s w (fun x m1 v H1 e1 w1 => q x m1 v H1 [] [rootS G.K (nw G) t v x] ?_ (by rw [hf]; exact ⟨rfl, rfl⟩) ?_) (b.fst.subC hz)
  · rw [bd_ok e1]; rfl
  · exact w1.subC (List.Sublist.cons₂ _ ((hz m1).append_right F))
end
section
open SM
variable {X : Cx} {μ τ τ' ρ : Type} {G : Gx} {σ : St} {L : List (V × D)} {C C' C1 C2 Cp Z Z1 : μ → List Root} {te ta tb tc ti : TE} {tt tu : TT} {s0 t1 u1 : TS} {E E1 E2 E3 : SM μ D} {Jn : Shp μ τ} {Jl : Shp μ ρ} {i j n : Nat} {v u vy : V} {x d y : D} {t tk tm : Ty} {W : SM μ (List Nat)} {N N' : Addr → Prop} {get : μ → D} {put : D → μ → μ} {Ca : Addr} {ns : List Str} {ts : List Ty} {nm : Str}
namespace SM
end SM
/-- P.append(e) -/
theorem sv_appS {k : SM μ (Fl τ ρ)} (h1 : PLs G ta σ L C Z N t v get (.ls tk) W) (h2 : FTs G N te σ L Z Z1 tk E2) (hm : ∀ m x m', E2 m = .ok x m' → get m' = get m) (hC' : ∀ m d, (rootS G.K N t v d :: Z1 m).Perm (C2 (put d m)))
    (hk2 : SV G Cp s0 σ L C2 k Jn Jl) : SV G Cp (tSeq (tDrop (tBM G.K "list" rAppend ta (tCons te tNil))) s0) σ L C (bd (bd (nr1 W) fun p => bd (nr1 E2) fun y => mdP get put p fun r => appD r y) fun _ => k) Jn Jl := by
  refine sv_bd1 fun m F L' H e s w q b => ?_
  obtain ⟨p, m1, e1⟩ := nr1_nb b.fst.2
  refine h1 m F L' H _ p m1 e1 s w (fun u g r H1 eg w1 => ?_)
  replace e1 := nr1_ok e1
  have b1 := b.snd e1
  obtain ⟨y, m2, e2⟩ := nr1_nb b1.fst.2
  have hl0 : ∃ p2 vs2, u = .ref p2 ∧ H1 p2 = some (.lst vs2) := by
    obtain ⟨B, wb⟩ := w1
    obtain ⟨f, ho, _⟩ := wb.rt _ (.head _)
    cases ho with
    | @ls _ p2 vs ds f hp hz => exact ⟨p2, vs, rfl, hp⟩
  obtain ⟨p2, vs2, rfl, hp2⟩ := hl0
  refine ⟨.inl ⟨rfl, vs2, SqL.of hp2⟩, ?_⟩
  refine h2 m1 (rootS G.K N (.ls tk) (.ref p2) r :: rootH G.K N (.ls tk) (.ref p2) t v (setP (get m1) p) g :: F) L' H1 _ s (w1.perm ((List.Perm.cons _ List.perm_middle.symm).trans List.perm_middle.symm)) (fun y' m2' vy H2 e2' w2 => ?_) (by rw [e2]; exact bk_ok)
  rw [e2] at e2'; cases e2'
  have eg2 : get m2 = get m1 := hm m1 y m2 e2
  replace e2 := nr1_ok e2
  have b2 := b1.snd e2
  have eg3 : getP (get m2) p = some r := by rw [eg2]; exact eg
  obtain ⟨r', er⟩ := mdP_nb eg3 b2.2
  have w3 : Wd G.K G.O L' (rootS G.K N (.ls tk) (.ref p2) r :: rootS G.K N tk vy y :: (rootH G.K N (.ls tk) (.ref p2) t v (setP (get m1) p) g :: (Z1 m2 ++ F))) H2 := by
    refine w2.perm ?_
    refine (List.Perm.cons _ List.perm_middle).trans ((List.Perm.swap _ _ _).trans (List.Perm.cons _ (List.Perm.cons _ List.perm_middle)))
  obtain ⟨p', vs, ds, e5, rfl, hp, hl, w4⟩ := Wd.appT w3
  cases e5
  simp only [appD] at er
  split at er
  · next c =>
    cases er
    refine ⟨p2, vs, vy, rfl, rfl, hp, by rw [hl]; exact c, ?_⟩
    have w5 := Wd.unzoomS w4
    refine q () _ σ [] C2 _ ?_ (w5.perm ((hC' m2 _).append_right F)) hk2
    rw [bd_ok e1, bd_ok e2, ← eg2]
    exact mdP_ok eg3 (by simp only [appD]; rw [if_pos c])
  · cases er
end
/-- what a call does to the heap: fp may be changed, C' is what is left of it, and what is new -/
structure Fr (H H' : Hp) (B B' : Addr → Prop) (fp : List Addr) (C' : List Root) : Prop where
  kp : ∀ p o, p ∉ fp → H p = some o → H' p = some o
  oc : ∀ p o, H p = some o → ∃ o', H' p = some o'
  lo : ∀ p, B p → B' p
  hi : ∀ p, B' p → B p ∨ (H p = none ∧ ∃ o, H' p = some o)
  nd : (fps C' H').Nodup
  fr : ∀ p ∈ fps C' H', p ∈ fp ∨ H p = none
  nb : ∀ p ∈ fps C' H', ¬ B' p
  rt : ∀ c ∈ C', c.P B' H'
section
variable {K : PySem.W.Frag} {O : Og} {L : List (V × D)} {C C' Z : List Root} {B B' : Addr → Prop} {H H' : Hp} {fp f : List Addr}
theorem Wb.call (w : Wb K O B L (C ++ Z) H) (hp : ∀ p, p ∈ fps C H ↔ p ∈ fp) (r : Fr H H' B B' fp C') : Wb K O B' L (C' ++ Z) H' := by
  have hnd := w.nd
  rw [fps_app] at hnd
  obtain ⟨n1, n2, n3⟩ := List.nodup_append.mp hnd
  have inC : ∀ p, p ∈ fp → p ∈ fps (C ++ Z) H := fun p h => by rw [fps_app]; exact List.mem_append.mpr (.inl ((hp p).mpr h))
  have inZ : ∀ p, p ∈ fps Z H → p ∈ fps (C ++ Z) H := fun p h => by rw [fps_app]; exact List.mem_append.mpr (.inr h)
  have zo : ∀ p, p ∈ fps Z H → ∃ o, H p = some o := fun p h => by
    obtain ⟨c, hc, hq⟩ := List.mem_flatMap.mp h
    exact c.occ (w.rt c (List.mem_append.mpr (.inr hc))) p hq
  have znf : ∀ p, p ∈ fps Z H → p ∉ fp := fun p h z => n3 p ((hp p).mpr z) p h rfl
  have k : Kp B H B' H' := fun p o b e => ⟨r.lo p b, r.kp p o (fun z => w.nb p (inC p z) b) e⟩
  have es : fps Z H' = fps Z H := fps_same k (fun c hc => w.rt c (List.mem_append.mpr (.inr hc))) fun q hq => by
    obtain ⟨o, ho⟩ := zo q hq
    rw [ho, r.kp q o (znf q hq) ho]
  refine ⟨fun p b => r.lo p (w.lo p b), fun p b => ?_, ?_, fun p h => ?_, fun p h => ?_, fun c hc => ?_, fun g hg => Dt.mono k _ _ (w.ft g hg), fun p o hpo e => ?_, fun p h => ?_, fun p b => ?_⟩
  · rcases r.hi p b with z | z
    · exact w.hi p z
    · exact .inr (w.none z.1)
  · rw [fps_app, es]
    refine List.nodup_append.mpr ⟨r.nd, n2, fun p h1 q h2 e => ?_⟩
    subst e
    rcases r.fr p h1 with z | z
    · exact znf p h2 z
    · obtain ⟨o, ho⟩ := zo p h2
      rw [ho] at z; cases z
  · rw [fps_app, es] at h
    rcases List.mem_append.mp h with h | h
    · exact r.nb p h
    · intro b
      rcases r.hi p b with z | z
      · exact w.nb p (inZ p h) z
      · obtain ⟨o, ho⟩ := zo p h
        rw [ho] at z; cases z.1
  · rw [fps_app, es] at h
    rcases List.mem_append.mp h with h | h
    · rcases r.fr p h with z | z
      · exact w.fr p (inC p z)
      · exact .inr (w.none z)
    · exact w.fr p (inZ p h)
  · rcases List.mem_append.mp hc with h | h
    · exact r.rt c h
    · refine c.mono k (fun q hq => ?_) (w.rt c (List.mem_append.mpr (.inr h)))
      have hq2 := mem_fps h hq
      obtain ⟨o, ho⟩ := zo q hq2
      rw [ho, r.kp q o (znf q hq2) ho]
  · have e2 := w.kp p o hpo e
    refine r.kp p o (fun z => ?_) e2
    rcases w.fr p (inC p z) with y | y
    · exact hpo y
    · rw [y] at e; cases e
  · obtain ⟨o, ho⟩ := w.oc p h
    exact r.oc p o ho
  · rcases r.hi p b with z | z
    · obtain ⟨o, ho⟩ := w.bo p z
      exact r.oc p o ho
    · exact z.2
/-- what a body has come to -/
theorem Fr.of (hb : ∀ p, B p → ∃ o, H p = some o) (w : Wb K ⟨B, H, fp⟩ B' L C' H') : Fr H H' B B' fp C' := ⟨w.kp, fun p o e => by
    by_cases z : p ∈ fp
    · exact w.oc p z
    · exact ⟨o, w.kp p o z e⟩, w.lo, fun p b => (w.hi p b).imp id fun z => ⟨z, w.bo p b⟩, w.nd, w.fr, w.nb, w.rt⟩
theorem Fr.tail {c : Root} (r : Fr H H' B B' fp (c :: C')) : Fr H H' B B' fp C' := ⟨r.kp, r.oc, r.lo, r.hi, (List.nodup_append.mp (by have := r.nd; rwa [fps_cons] at this)).2.1, fun p hp => r.fr p (by rw [fps_cons]; exact List.mem_append.mpr (.inr hp)), fun p hp => r.nb p (by rw [fps_cons]; exact List.mem_append.mpr (.inr hp)), fun c hc => r.rt c (.tail _ hc)⟩
end
noncomputable def RA (K : PySem.W.Frag) (N : Addr → Prop) : List Ty → List V → List D → List Root
  | t :: ts, v :: vs, d :: ds => rootS K N t v d :: RA K N ts vs ds
  | _, _, _ => []
/-- those that are kept -/
noncomputable def RK (K : PySem.W.Frag) (N : Addr → Prop) : List Bool → List Ty → List V → List D → List Root
  | true :: ks, t :: ts, v :: vs, d :: ds => rootS K N t v d :: RK K N ks ts vs ds
  | false :: ks, _ :: ts, _ :: vs, _ :: ds => RK K N ks ts vs ds
  | _, _, _, _ => []
/-- which of the things handed in are trees (true): all, the frozen ones, the trees -/
inductive Mix : List Bool → List V → List V → List V → Prop
  | nil : Mix [] [] [] []
  | fr {v : V} {k : List Bool} {vs us ws : List V} : Mix k vs us ws → Mix (false :: k) (v :: vs) (v :: us) ws
  | tr {v : V} {k : List Bool} {vs us ws : List V} : Mix k vs us ws → Mix (true :: k) (v :: vs) us (v :: ws)
theorem Mix.len {k : List Bool} {vs us ws : List V} (h : Mix k vs us ws) : vs.length = k.length := by
  induction h with
  | nil => rfl
  | fr _ ih => simp [ih]
  | tr _ ih => simp [ih]
def SpZ (K : PySem.W.Frag) (XR : D → Value → Option Addr → Root) (k : List Bool) (pts : List Ty) (kp : List Bool) (tr : Ty) (mf : List D → SM (List D) D) : Sp := fun vs H Q E => vs.length = k.length ∧ ∃ (B : Addr → Prop) (us ws : List V) (ds ts : List D), Mix k vs us ws ∧ (∀ p, B p → ∃ o, H p = some o) ∧ DtAll K B H us ds ∧ ts.length = pts.length ∧ ws.length = pts.length ∧ (fps (RA K tr_ pts ws ts) H).Nodup ∧ (∀ p ∈ fps (RA K tr_ pts ws ts) H, ¬ B p) ∧ (∀ c ∈ RA K tr_ pts ws ts, c.P B H) ∧ mf ds ts ≠ .bad ∧
  (∀ x ts' v H' B', mf ds ts = .ok x ts' → ts'.length = pts.length → Fr H H' B B' (fps (RA K tr_ pts ws ts) H) (rootS K (fun q => H q = none) tr v x :: RK K tr_ kp pts ws ts') → Q v H') ∧
  (∀ e ts' cls d H' B', mf ds ts = .exc e ts' → ts'.length = pts.length → Fr H H' B B' (fps (RA K tr_ pts ws ts) H) (XR e cls d :: RK K tr_ kp pts ws ts') → E cls d H')
namespace SM
variable {μ ν : Type}
def cZ (mf : List D → SM (List D) D) (Es : SM μ (List D × (μ → List D) × (List D → μ → μ))) : SM μ D := bd Es fun q => fun m => match mf q.1 (q.2.1 m) with
  | .ok x ts => .ok x (q.2.2 ts m)
  | .exc e ts => .exc e (q.2.2 ts m)
  | .bad => .bad
/-- the same of what is not to raise -/
def cZ0 (mf : List D → SM (List D) D) (Es : SM μ (List D × (μ → List D) × (List D → μ → μ))) : SM μ D := bd Es fun q => fun m => match mf q.1 (q.2.1 m) with
  | .ok x ts => .ok x (q.2.2 ts m)
  | _ => .bad
def mkZ (mf : List D → SM (List D) D) (Es : SM μ (List D × (μ → List D) × (List D → μ → μ))) : SM μ D := bd Es fun q => fun m => match mf q.1 (q.2.1 m) with
  | .ok x _ => .ok x (q.2.2 (q.2.1 m) m)
  | .exc e _ => .exc e (q.2.2 (q.2.1 m) m)
  | .bad => .bad
def mkZ0 (mf : List D → SM (List D) D) (Es : SM μ (List D × (μ → List D) × (List D → μ → μ))) : SM μ D := bd Es fun q => fun m => match mf q.1 (q.2.1 m) with
  | .ok x _ => .ok x (q.2.2 (q.2.1 m) m)
  | _ => .bad
def zN : SM μ (List D × (μ → List D) × (List D → μ → μ)) := pu ([], (fun _ => []), fun _ m => m)
def zF (E : SM μ D) (Es : SM μ (List D × (μ → List D) × (List D → μ → μ))) : SM μ (List D × (μ → List D) × (List D → μ → μ)) := bd E fun x => bd Es fun q => pu (x :: q.1, q.2)
/-- a name's tree -/
def zV (get : μ → D) (put : D → μ → μ) (Es : SM μ (List D × (μ → List D) × (List D → μ → μ))) : SM μ (List D × (μ → List D) × (List D → μ → μ)) := bd Es fun q => pu (q.1, (fun m => get m :: q.2.1 m), fun ts m => q.2.2 ts.tail (put (ts.headD .none) m))
/-- a tree that is made here -/
def zT (E : SM μ D) (Es : SM μ (List D × (μ → List D) × (List D → μ → μ))) : SM μ (List D × (μ → List D) × (List D → μ → μ)) := bd E fun x => bd Es fun q => pu (q.1, (fun m => x :: q.2.1 m), fun ts m => q.2.2 ts.tail m)
/-- a tree at a place -/
def zP (get : μ → D) (put : D → μ → μ) (W : SM μ (List Nat)) (Es : SM μ (List D × (μ → List D) × (List D → μ → μ))) : SM μ (List D × (μ → List D) × (List D → μ → μ)) := bd (nr1 W) fun p => bd (getG get) fun d => bd (of (getP d p)) fun r => bd (nr1 Es) fun q => pu (q.1, (fun m => r :: q.2.1 m), fun ts m => put (setP d p (ts.headD .none)) (q.2.2 ts.tail m))
/-- the body of a def, over its own state -/
def zbody (inj : List D → μ) (prj : μ → List D) (x : SM μ D) : SM (List D) D := fun ts => match x (inj ts) with
  | .ok a m => .ok a (prj m)
  | .exc e m => .exc e (prj m)
  | .bad => .bad
end SM
section
open SM
variable {X : Cx} {μ τ τ' ρ : Type} {G : Gx} {σ : St} {L : List (V × D)} {C C' C0 C1 C2 Cp Cr Cr1 Z Z1 Z2 Zs : μ → List Root} {te ta tb tc ti : TE} {tr : TA} {tt tu : TT} {s0 t1 u1 : TS} {E E1 E2 E3 : SM μ D} {Es : SM μ (List D × (μ → List D) × (List D → μ → μ))} {Jn : Shp μ τ} {Jl : Shp μ ρ} {i j n : Nat} {v u vy : V} {x d y : D} {t tk tm ty : Ty} {W : SM μ (List Nat)} {N N' : Addr → Prop} {get : μ → D} {put : D → μ → μ} {Ca : Addr} {ns : List Str} {ts pts tys : List Ty} {nm m0 : Str} {k kp : List Bool} {bb : Bool}
def AS (G : Gx) (ta : TA) (σ : St) (L : List (V × D)) (C Zs Cr : μ → List Root) (N : Addr → Prop) (k kp : List Bool) (pts : List Ty) (E : SM μ (List D × (μ → List D) × (List D → μ → μ))) : Prop :=
  ∀ m F L' H Q, (∀ x ∈ L, x ∈ L') → Wd G.K G.O L' (C m ++ F) H →
    (∀ xs tsf pb m' vs us ws Hs H' L2, E m = .ok (xs, tsf, pb) m' → (∀ f ∈ L', f ∈ L2) → Mix k vs us ws → In2 L2 us xs → ws.length = pts.length → (tsf m').length = pts.length →
      Wd G.K G.O L2 (RA G.K N pts ws (tsf m') ++ (Hs ++ (Zs m' ++ F))) H' →
      (∀ ts' m2 L3 F2 H2, ts'.length = pts.length → Wd G.K G.O L3 (RK G.K N kp pts ws ts' ++ (Hs ++ (Zs m2 ++ F2))) H2 → Wd G.K G.O L3 (Cr (pb ts' m2) ++ F2) H2) → Q vs H') →
    Bk G Cr F L' (E m) → ta σ H Q
theorem perm3 (A B C F : List Root) (r : Root) : (A ++ (B ++ (C ++ (r :: F)))).Perm (r :: (A ++ (B ++ (C ++ F)))) := by
  have h := List.perm_middle (a := r) (l₁ := A ++ (B ++ C)) (l₂ := F)
  simpa [List.append_assoc] using h
theorem Bk.addF {α : Type} {F : List Root} {r : Rs μ α} {c : Root} (h : Bk G C F L r) : Bk G C (c :: F) L r := ⟨fun e m' cls d H' q w => h.1 e m' cls d H' q (w.subC (List.Sublist.cons₂ _ ((List.Sublist.refl _).append (List.sublist_cons_self _ _)))), h.2⟩
theorem as_nil : AS G tNil σ L C C C N [] [] [] zN := fun m F L' H Q s w q _ => q [] (fun _ => []) (fun _ m => m) m [] [] [] [] H L' rfl (fun _ h => h) .nil .nil rfl rfl w fun ts' m2 L3 F2 H2 _ w2 => w2
theorem as_fr (hs : Sub Cr C) (h1 : EV G ta σ L C E1) (h2 : AS G tr σ L C Zs Cr N k kp pts Es) : AS G (tCons ta tr) σ L C Zs Cr N (false :: k) kp pts (zF E1 Es) := by
  intro m F L' H Q s w q b
  refine h1 m F L' H _ s w (fun x m1 v H1 e1 w1 => ?_) (b.fst.subC hs)
  have b1 := b.snd e1
  refine h2 m1 F ((v, x) :: L') H1 _ (fun f hf => .tail _ (s f hf)) w1 (fun xs tsf pb m2 vs us ws Hs H2 L2 e2 s2 mx i2 l1 l2 w2 hr => ?_) (b1.fst.mono fun f hf => .tail _ hf)
  refine q (x :: xs) tsf pb m2 (v :: vs) (v :: us) ws Hs H2 L2 ?_ (fun f hf => s2 f (.tail _ hf)) (.fr mx) (.cons (s2 _ (.head _)) i2) l1 l2 w2 hr
  show bd E1 _ m = _
  rw [bd_ok e1, bd_ok e2]; rfl
theorem as_ft (hs : Sub Cr C1) (h1 : FTs G N ta σ L C C1 t E1) (h2 : AS G tr σ L C1 Zs Cr N k kp pts Es) : AS G (tCons ta tr) σ L C Zs Cr N (true :: k) (bb :: kp) (t :: pts) (zT E1 Es) := by
  intro m F L' H Q s w q b
  refine h1 m F L' H _ s w (fun x m1 v H1 e1 w1 => ?_) (b.fst.subC hs)
  have b1 := b.snd e1
  refine h2 m1 (rootS G.K N t v x :: F) L' H1 _ s (w1.perm List.perm_middle.symm) (fun xs tsf pb m2 vs us ws Hs H2 L2 e2 s2 mx i2 l1 l2 w2 hr => ?_) b1.fst.addF
  refine q xs (fun m => x :: tsf m) (fun ts m => pb ts.tail m) m2 (v :: vs) us (v :: ws) Hs H2 L2 ?_ s2 (.tr mx) i2 (by simp [l1]) (by simp [l2]) (w2.perm (perm3 _ _ _ _ _)) fun ts' m3 L3 F2 H3 hl w3 => ?_
  · show bd E1 _ m = _
    rw [bd_ok e1, bd_ok e2]; rfl
  · match ts', hl with
    | y :: rs, hl =>
      refine hr rs m3 L3 F2 H3 (by simpa using hl) ?_
      cases bb with
      | true => exact w3.subC (List.sublist_cons_self _ _)
      | false => exact w3
theorem RA_fps {K : PySem.W.Frag} {N N' : Addr → Prop} {H : Hp} : ∀ (ts : List Ty) (vs : List V) (ds : List D), fps (RA K N ts vs ds) H = fps (RA K N' ts vs ds) H
  | [], _, _ => rfl
  | _ :: _, [], _ => rfl
  | _ :: _, _ :: _, [] => rfl
  | t :: ts, v :: vs, d :: ds => by
    show (foot K t v d H) ++ fps (RA K N ts vs ds) H = foot K t v d H ++ fps (RA K N' ts vs ds) H
    rw [RA_fps ts vs ds]
theorem RA_tr {K : PySem.W.Frag} {N : Addr → Prop} {B : Addr → Prop} {H : Hp} : ∀ {ts : List Ty} {vs : List V} {ds : List D}, (∀ c ∈ RA K N ts vs ds, c.P B H) → ∀ c ∈ RA K tr_ ts vs ds, c.P B H
  | [], _, _, _, _, hc => by cases hc
  | _ :: _, [], _, _, _, hc => by cases hc
  | _ :: _, _ :: _, [], _, _, hc => by cases hc
  | t :: ts, v :: vs, d :: ds, h, c, hc => by
    rcases List.mem_cons.mp hc with e | e
    · obtain ⟨f, ho, _⟩ := h (rootS K N t v d) (.head _)
      rw [e]; exact ⟨f, ho, fun _ _ => trivial⟩
    · exact RA_tr (fun c hc => h c (.tail _ hc)) c e
theorem RA_N {K : PySem.W.Frag} {N : Addr → Prop} {B : Addr → Prop} {H : Hp} : ∀ {ts : List Ty} {vs : List V} {ds : List D}, (∀ c ∈ RA K N ts vs ds, c.P B H) → ∀ q ∈ fps (RA K N ts vs ds) H, N q
  | [], _, _, _, _, hc => by cases hc
  | _ :: _, [], _, _, _, hc => by cases hc
  | _ :: _, _ :: _, [], _, _, hc => by cases hc
  | t :: ts, v :: vs, d :: ds, h, q, hq => by
    have hq' : q ∈ foot K t v d H ++ fps (RA K N ts vs ds) H := hq
    rcases List.mem_append.mp hq' with e | e
    · obtain ⟨f, ho, hn⟩ := h (rootS K N t v d) (.head _)
      rw [foot_eq ho] at e
      exact hn q e
    · exact RA_N (fun c hc => h c (.tail _ hc)) q e
theorem RK_N {K : PySem.W.Frag} {N : Addr → Prop} {B : Addr → Prop} {H : Hp} : ∀ {kp : List Bool} {ts : List Ty} {vs : List V} {ds : List D}, (∀ c ∈ RK K tr_ kp ts vs ds, c.P B H) → (∀ q ∈ fps (RK K tr_ kp ts vs ds) H, N q) → (∀ c ∈ RK K N kp ts vs ds, c.P B H) ∧ fps (RK K N kp ts vs ds) H = fps (RK K tr_ kp ts vs ds) H
  | [], _, _, _, _, _ => ⟨fun c hc => (by cases hc), rfl⟩
  | true :: _, [], _, _, _, _ => ⟨fun c hc => (by cases hc), rfl⟩
  | true :: _, _ :: _, [], _, _, _ => ⟨fun c hc => (by cases hc), rfl⟩
  | true :: _, _ :: _, _ :: _, [], _, _ => ⟨fun c hc => (by cases hc), rfl⟩
  | false :: _, [], _, _, _, _ => ⟨fun c hc => (by cases hc), rfl⟩
  | false :: _, _ :: _, [], _, _, _ => ⟨fun c hc => (by cases hc), rfl⟩
  | false :: _, _ :: _, _ :: _, [], _, _ => ⟨fun c hc => (by cases hc), rfl⟩
  | false :: kp, t :: ts, v :: vs, d :: ds, h, hq => RK_N (kp := kp) (ts := ts) (vs := vs) (ds := ds) h hq
  | true :: kp, t :: ts, v :: vs, d :: ds, h, hq => by
    have ih := RK_N (N := N) (kp := kp) (ts := ts) (vs := vs) (ds := ds) (fun c hc => h c (.tail _ hc)) (fun q hq' => hq q (List.mem_append.mpr (.inr hq')))
    refine ⟨fun c hc => ?_, ?_⟩
    · rcases List.mem_cons.mp hc with e | e
      · obtain ⟨f, ho, _⟩ := h (rootS K tr_ t v d) (.head _)
        rw [e]
        exact ⟨f, ho, fun q hf => hq q (List.mem_append.mpr (.inl (by show q ∈ foot K t v d H; rw [foot_eq ho]; exact hf)))⟩
      · exact ih.1 c e
    · show foot K t v d H ++ fps (RK K N kp ts vs ds) H = foot K t v d H ++ fps (RK K tr_ kp ts vs ds) H
      rw [ih.2]
/-- what a call leaves, told by N again -/
theorem Wd.backN {K : PySem.W.Frag} {O : Og} {Z : List Root} {H : Hp} {ws : List V} {ts' : List D} {c : Root} (w : Wd K O L ((c :: RK K tr_ kp pts ws ts') ++ Z) H) (hq : ∀ q ∈ fps (RK K tr_ kp pts ws ts') H, N q) : Wd K O L (c :: (RK K N kp pts ws ts' ++ Z)) H := by
  refine Wd.imp (C := c :: RK K tr_ kp pts ws ts') w fun B _ hr => ?_
  obtain ⟨h1, h2⟩ := RK_N (N := N) (fun c' hc' => hr c' (.tail _ hc')) hq
  refine ⟨c :: RK K N kp pts ws ts', ?_, fun c' hc' => ?_, fun w' => w'⟩
  · rw [fps_cons, fps_cons, h2]
  · rcases List.mem_cons.mp hc' with e | e
    · rw [e]; exact hr _ (.head _)
    · exact h1 c' e
theorem cZ_nb {mf : List D → SM (List D) D} {xs : List D} {tsf : μ → List D} {pb : List D → μ → μ} {m m1 : μ} (e1 : Es m = .ok (xs, tsf, pb) m1) (h : cZ mf Es m ≠ .bad) : mf xs (tsf m1) ≠ .bad := fun z => h (by
  have er : cZ mf Es m = (match mf xs (tsf m1) with | .ok x ts => .ok x (pb ts m1) | .exc e ts => .exc e (pb ts m1) | .bad => .bad) := bd_ok e1
  rw [er, z])
/-- the general call -/
theorem callZ {XR : D → Value → Option Addr → Root} {mf : List D → SM (List D) D} {m1 : μ} {F : List Root} {L' L2 : List (V × D)} {H1 : Hp} {Q : VK} {EE : XK} {xs : List D} {tsf : μ → List D} {pb : List D → μ → μ} {vs us ws : List V} {Hs : List Root} (hN : ∀ q, q ∉ G.O.fp → N q) (s2 : ∀ f ∈ L', f ∈ L2) (mx : Mix k vs us ws) (i2 : In2 L2 us xs) (l1 : ws.length = pts.length) (l2 : (tsf m1).length = pts.length)
    (w1 : Wd G.K G.O L2 (RA G.K N pts ws (tsf m1) ++ (Hs ++ (Zs m1 ++ F))) H1) (hr : ∀ ts' m2 L3 F2 H2, ts'.length = pts.length → Wd G.K G.O L3 (RK G.K N kp pts ws ts' ++ (Hs ++ (Zs m2 ++ F2))) H2 → Wd G.K G.O L3 (Cr (pb ts' m2) ++ F2) H2) (nb : mf xs (tsf m1) ≠ .bad)
    (q : ∀ x ts' v H', mf xs (tsf m1) = .ok x ts' → Wd G.K G.O L' (rootS G.K (nw G) ty v x :: (Cr (pb ts' m1) ++ F)) H' → Q v H')
    (qx : ∀ e ts' cls d H', mf xs (tsf m1) = .exc e ts' → Wd G.K G.O L' (XR e cls d :: (Cr (pb ts' m1) ++ F)) H' → EE cls d H') : SpZ G.K XR k pts kp ty mf vs H1 Q EE := by
  obtain ⟨B, wb⟩ := w1
  have hnd := wb.nd
  rw [fps_app] at hnd
  have hP : ∀ c ∈ RA G.K N pts ws (tsf m1), c.P B H1 := fun c hc => wb.rt c (List.mem_append.mpr (.inl hc))
  have e0 : fps (RA G.K tr_ pts ws (tsf m1)) H1 = fps (RA G.K N pts ws (tsf m1)) H1 := RA_fps _ _ _
  have hq : ∀ {C' : List Root} {H' : Hp} {B' : Addr → Prop}, Fr H1 H' B B' (fps (RA G.K tr_ pts ws (tsf m1)) H1) C' → ∀ q ∈ fps C' H', N q := fun {C' H' B'} r q hq => by
    rcases r.fr q hq with z | z
    · rw [e0] at z; exact RA_N hP q z
    · exact hN q (wb.nofp z)
  refine ⟨mx.len, B, us, ws, xs, tsf m1, mx, wb.bo, i2.dt wb.ft, l2, l1, by rw [e0]; exact (List.nodup_append.mp hnd).1, fun p hp => wb.nb p (by rw [fps_app]; exact List.mem_append.mpr (.inl (by rw [← e0]; exact hp))), RA_tr hP, nb, fun x ts' v H' B' ex hl r => ?_, fun e ts' cls d H' B' ex hl r => ?_⟩
  · have w3 := Wb.call (C := RA G.K N pts ws (tsf m1)) (Z := Hs ++ (Zs m1 ++ F)) wb (fun p => by rw [e0]) r
    have w4 := Wd.backN (N := N) ⟨B', w3⟩ fun q hq2 => hq r q (by rw [fps_cons]; exact List.mem_append.mpr (.inr hq2))
    have w5 := (Wd.weakS w4 (N' := nw G) fun q hq => wb.nofp hq).perm (perm3 _ _ _ _ _).symm
    have w6 := hr ts' m1 L2 (rootS G.K (nw G) ty v x :: F) H' hl w5
    exact q x ts' v H' ex ((w6.perm List.perm_middle).sub s2)
  · have w3 := Wb.call (C := RA G.K N pts ws (tsf m1)) (Z := Hs ++ (Zs m1 ++ F)) wb (fun p => by rw [e0]) r
    have w4 := Wd.backN (N := N) ⟨B', w3⟩ fun q hq2 => hq r q (by rw [fps_cons]; exact List.mem_append.mpr (.inr hq2))
    have w6 := hr ts' m1 L2 (XR e cls d :: F) H' hl (w4.perm (perm3 _ _ _ _ _).symm)
    exact qx e ts' cls d H' ex ((w6.perm List.perm_middle).sub s2)
theorem fts_cZ {mf : List D → SM (List D) D} (hN : ∀ q, q ∉ G.O.fp → N q) (h : AS G tr σ L C Zs Cr N k kp pts Es) : FTs G (nw G) (tCall (SpZ G.K G.XR k pts kp ty mf) [] G.Xk tr) σ L C Cr ty (cZ mf Es) := by
  intro m F L' H Q s w q b
  refine h m F L' H _ s w (fun xs tsf pb m1 vs us ws Hs H1 L2 e1 s2 mx i2 l1 l2 w1 hr => ?_) b.fst
  have er : cZ mf Es m = (match mf xs (tsf m1) with | .ok x ts => .ok x (pb ts m1) | .exc e ts => .exc e (pb ts m1) | .bad => .bad) := bd_ok e1
  rw [List.append_nil]
  exact callZ hN s2 mx i2 l1 l2 w1 hr (cZ_nb e1 b.2) (fun x ts' v H' ex w' => q x (pb ts' m1) v H' (by rw [er, ex]) w') fun e ts' cls d H' ex w' => b.1 e (pb ts' m1) cls d H' (by rw [er, ex]) w'
theorem cZ0_nb {mf : List D → SM (List D) D} {xs : List D} {tsf : μ → List D} {pb : List D → μ → μ} {m m1 : μ} (e1 : Es m = .ok (xs, tsf, pb) m1) (h : cZ0 mf Es m ≠ .bad) : ∃ x ts, mf xs (tsf m1) = .ok x ts := by
  have er : cZ0 mf Es m = (match mf xs (tsf m1) with | .ok x ts => .ok x (pb ts m1) | _ => .bad) := bd_ok e1
  rw [er] at h
  cases e : mf xs (tsf m1) with
  | ok x ts => exact ⟨x, ts, rfl⟩
  | exc e' ts => rw [e] at h; exact absurd rfl h
  | bad => rw [e] at h; exact absurd rfl h
theorem fts_cZS {mf : List D → SM (List D) D} {WW : WX} (hW : ∀ cls d H, G.Xk cls d H → WW cls d σ H) (hN : ∀ q, q ∉ G.O.fp → N q) (h : AS G tr σ L C Zs Cr N k kp pts Es) : FTs G (nw G) (tCallS (SpZ G.K G.XR k pts kp ty mf) (WE WW) tr) σ L C Cr ty (cZ mf Es) := by
  intro m F L' H Q s w q b
  refine h m F L' H _ s w (fun xs tsf pb m1 vs us ws Hs H1 L2 e1 s2 mx i2 l1 l2 w1 hr => ?_) b.fst
  have er : cZ mf Es m = (match mf xs (tsf m1) with | .ok x ts => .ok x (pb ts m1) | .exc e ts => .exc e (pb ts m1) | .bad => .bad) := bd_ok e1
  exact callZ hN s2 mx i2 l1 l2 w1 hr (cZ_nb e1 b.2) (fun x ts' v H' ex w' => q x (pb ts' m1) v H' (by rw [er, ex]) w') fun e ts' cls d H' ex w' => hW _ _ _ (b.1 e (pb ts' m1) cls d H' (by rw [er, ex]) w')
end
namespace SM
end SM
section
open SM
variable {X : Cx} {μ τ τ' ρ : Type} {G : Gx} {σ : St} {L : List (V × D)} {C C' C0 C1 C2 Cp Cr Cr1 Z Z1 Z2 Zs : μ → List Root} {te ta tb tc ti : TE} {tr : TA} {tt tu : TT} {s0 t1 u1 : TS} {E E1 E2 E3 : SM μ D} {Es : SM μ (List D × (μ → List D) × (List D → μ → μ))} {Jn : Shp μ τ} {Jl : Shp μ ρ} {i j n : Nat} {v u vy : V} {x d y : D} {t tk tm ty : Ty} {W : SM μ (List Nat)} {N N' : Addr → Prop} {get : μ → D} {put : D → μ → μ} {Ca : Addr} {ns : List Str} {ts pts tys : List Ty} {nm m0 : Str} {k kp : List Bool} {bb : Bool}
/-- a new object -/
theorem RK_false {K : PySem.W.Frag} {N : Addr → Prop} : ∀ {kp : List Bool} {ts : List Ty} {vs : List V} {ds : List D}, (∀ b ∈ kp, b = false) → RK K N kp ts vs ds = []
  | [], _, _, _, _ => rfl
  | b :: kp, [], _, _, h => by cases h b (.head _); rfl
  | b :: kp, _ :: _, [], _, h => by cases h b (.head _); rfl
  | b :: kp, _ :: _, _ :: _, [], h => by cases h b (.head _); rfl
  | b :: kp, t :: ts, v :: vs, d :: ds, h => by
    cases h b (.head _)
    exact RK_false (kp := kp) fun b hb => h b (.tail _ hb)
theorem Wd.newN {K : PySem.W.Frag} {O : Og} {B : Addr → Prop} {Z : List Root} {H : Hp} (wb : Wb K O B L (rootS K (fun q => q ∉ O.fp) t v d :: Z) H) : Wb K O B L (rootS K (fun q => O.H q = Option.none) t v d :: Z) H := by
  obtain ⟨f, ho, hn⟩ := wb.rt _ (.head _)
  refine wb.swap (C := [rootS K (fun q => q ∉ O.fp) t v d]) (C' := [rootS K (fun q => O.H q = Option.none) t v d]) (.refl _) (fun _ _ => rfl) (fun q hq => ?_) (fun _ c hc => ?_)
  · obtain ⟨c, hc, hq2⟩ := List.mem_flatMap.mp hq
    rw [mem1 hc] at hq2
    exact (rootS K (fun q => q ∉ O.fp) t v d).occ (wb.rt _ (.head _)) q hq2
  · rw [mem1 hc]
    refine ⟨f, ho, fun q hq => ?_⟩
    exact (wb.fr q (by rw [fps_cons, rootS_fp ho]; exact List.mem_append.mpr (.inl hq))).resolve_left (hn q hq)
theorem body_Z {K : PySem.W.Frag} {XR : D → Value → Option Addr → Root} {mf : List D → SM (List D) D} {tsm : TS} {Nn : List Str} {H : Hp} {vs : List V} {Q : VK} {EE : XK} (hsp : SpZ K XR k pts kp ty mf vs H Q EE) (inj : List D → μ) (prj : μ → List D) (hl : ∀ m, (prj m).length = pts.length)
    (h : ∀ (us ws : List V) (ds : List D) (O : Og), Mix k vs us ws → us.length = ds.length → ws.length = pts.length → ∃ (C0 : μ → List Root) (T : SM μ (Fl Unit Empty)), mf ds = zbody inj prj (fin T) ∧ (∀ ts, ts.length = pts.length → C0 (inj ts) = RA K tr_ pts ws ts) ∧
      SV ⟨K, O, EE, XR, rfS K O ty⟩ (fun m => RK K tr_ kp pts ws (prj m)) tsm (start Nn vs) (us.zip ds) C0 T (fun _ _ _ C2 => ty = .fr ∧ C2 = fun m => RK K tr_ kp pts ws (prj m)) (fun z _ _ _ => z.elim)) : tsm { nx := fun _ H' => Q .non H', rt := Q } (start Nn vs) H := by
  obtain ⟨_, B, us, ws, ds, ts, mx, hb, hd, lt, lw, hnd, hnb, hr, nb, q, qx⟩ := hsp
  obtain ⟨C0, T, hT, hC, hS⟩ := h us ws ds ⟨B, H, fps (RA K tr_ pts ws ts) H⟩ mx hd.len lw
  have w0 : Wd K ⟨B, H, fps (RA K tr_ pts ws ts) H⟩ (us.zip ds) (C0 (inj ts) ++ []) H := by
    rw [List.append_nil, hC ts lt]
    refine ⟨B, fun p b => b, fun p b => .inl b, hnd, hnb, fun p hp => .inl hp, hr, zip_dt hd, fun p o _ e => e, fun p hp => ?_, hb⟩
    obtain ⟨c, hc, hq⟩ := List.mem_flatMap.mp hp
    exact c.occ (hr c hc) p hq
  have okc : ∀ {x : D} {m' : μ} {v : V} {H' : Hp} {LL : List (V × D)}, fin T (inj ts) = .ok x m' → Wd K ⟨B, H, fps (RA K tr_ pts ws ts) H⟩ LL ([rootS K (fun q => q ∉ fps (RA K tr_ pts ws ts) H) ty v x] ++ (RK K tr_ kp pts ws (prj m') ++ [])) H' → Q v H' := fun {x m' v H' LL} e w => by
    obtain ⟨B', wb⟩ := w
    have wb2 := Wd.newN (Z := RK K tr_ kp pts ws (prj m') ++ []) wb
    rw [List.append_nil] at wb2
    refine q x (prj m') v H' B' ?_ (hl m') (Fr.of hb wb2)
    rw [hT]; unfold zbody; rw [e]
  refine hS (inj ts) [] (us.zip ds) H _ (fun f hf => hf) w0 ?_ ?_ ?_ ?_ ?_
  · intro s m' σ' L2 C2 H' e hC2 w
    obtain ⟨rfl, rfl⟩ := hC2
    refine okc (x := .none) (bd_ok e) ((Wd.ofFS (v := .non) (d := .none) ((w.fact (v := .non) (d := .none) fun _ _ => .non)) (.head _)))
  · intro s; exact s.elim
  · intro s; exact s.elim
  · rintro x m' v H' _ _ e ⟨rfl, rfl⟩ w
    exact okc (bd_ok e) w
  · refine ⟨fun e m' cls d H' ex w => ?_, fun z => nb ?_⟩
    · obtain ⟨B', wb⟩ := w
      rw [List.append_nil] at wb
      have e2 : fin T (inj ts) = .exc e m' := bd_exc ex
      refine qx e (prj m') cls d H' B' ?_ (hl m') (Fr.of hb wb)
      rw [hT]; unfold zbody; rw [e2]
    · have e2 : fin T (inj ts) = .bad := bd_bad z
      rw [hT]; unfold zbody; rw [e2]
theorem body_lawZ {K : PySem.W.Frag} {tsm : TS} {Nn : List Str} {H : Hp} {vs : List V} {Q : VK} {EE : XK} (ml : D → SM μ D) (m00 : μ) (hsp : sp_law K vs H Q EE) (hm : ∀ ns : List Int, ns.length ≤ 63 → (∀ z ∈ ns, Builtin.Int.intBits z ≤ 1048576) → ∃ m', ml (scrD (ns.map .int)) m00 = .ok (.bool true) m')
    (h : ∀ (v : V) (x : D) (O : Og), vs = [v] → ∃ (R : SM μ (Fl Unit Empty)), ml x = fin R ∧ SV ⟨K, O, E0, noX, rfF⟩ (fun _ => []) tsm (start Nn vs) [(v, x)] (fun _ => []) R (fun _ _ _ _ => True) (fun z _ _ _ => z.elim)) : tsm { nx := fun _ H' => Q .non H', rt := Q } (start Nn vs) H := by
  obtain ⟨a, ns, rfl, hS, h63, hbits, q⟩ := hsp
  obtain ⟨m', em⟩ := hm ns h63 hbits
  obtain ⟨R, hR, hV⟩ := h (.ref a) (scrD (ns.map .int)) ⟨fun p => ∃ o, H p = some o, H, []⟩ rfl
  have hf : FzS K (fun p => ∃ o, H p = some o) H a (ns.map V.int) := by
    rcases hS with (z | ⟨u, z⟩) | z
    · exact .inl ⟨⟨_, z⟩, .inl z⟩
    · exact .inl ⟨⟨_, z⟩, .inr ⟨u, z⟩⟩
    · exact .inr z
  have w0 : Wd K ⟨fun p => ∃ o, H p = some o, H, []⟩ [(.ref a, scrD (ns.map .int))] ([] ++ []) H := by
    refine ⟨fun p => ∃ o, H p = some o, fun p b => b, fun p b => .inl b, List.nodup_nil, fun p hp => (by cases hp), fun p hp => (by cases hp), fun c hc => (by cases hc), fun f hf' => ?_, fun p o _ e => e, fun p hp => (by cases hp), fun p b => b⟩
    rcases List.mem_cons.mp hf' with e | e
    · subst e
      exact .scr hf (DtAll.ints ns)
    · cases e
  rw [hR] at em
  refine hV m00 [] _ H _ (fun f hf => hf) w0 ?_ ?_ ?_ ?_ ?_
  · intro s m1 σ' L2 C2 H' e _ w
    have : fin R m00 = .ok .none m1 := bd_ok e
    rw [this] at em
    cases em
  · intro s; exact s.elim
  · intro s; exact s.elim
  · rintro x m1 v H' _ _ e ⟨rfl, rfl⟩ w
    have : fin R m00 = .ok x m1 := bd_ok e
    rw [this] at em
    cases em
    obtain ⟨B, hd⟩ := w.dt (.head _)
    rw [hd.bl_inv]
    exact q H'
  · refine ⟨fun e m' cls d H' z => ?_, fun z => ?_⟩
    · have e2 : fin R m00 = .exc e m' := bd_exc z
      rw [e2] at em; cases em
    · have e2 : fin R m00 = .bad := bd_bad z
      rw [e2] at em; cases em
end
namespace SM
def cDl {μ : Type} (get : μ → D) (put : D → μ → μ) (mf : List D → SM D D) (Es : SM μ (List D)) : SM μ D := bd Es fun xs => fun m => match mf xs (get m) with
  | .ok x d => .ok x (put d m)
  | _ => .bad
end SM
section
open SM
variable {μ : Type} {G : Gx} {σ : St} {L : List (V × D)} {C Z : μ → List Root} {i n : Nat} {v : V} {N : Addr → Prop} {get : μ → D} {put : D → μ → μ}
theorem ev_cDS {ta : TA} {Es : SM μ (List D)} {mf : List D → SM D D} (hv : σ[i]? = some (some v)) (hn : ∀ ds m, mf ds m ≠ .bad → ds.length = n) (h : AV G ta σ L C Es) (hC : ∀ m, (C m).Perm (rootS G.K N (.ls .fr) v (get m) :: Z m)) (hC' : ∀ m d, (rootS G.K N (.ls .fr) v d :: Z m).Perm (C (put d m))) :
    EV G (tCall (SpD G.K n mf) [] E0 (tCons (tVar i) ta)) σ L C (cDl get put mf Es) := by
  intro m F L' H Q s w q b
  refine ⟨v, hv, h m F L' H _ s w (fun xs m1 vs H1 L2 e1 s2 i2 w1 => ?_) b.fst⟩
  have er : cDl get put mf Es m = (match mf xs (get m1) with | .ok x d => .ok x (put d m1) | _ => .bad) := bd_ok e1
  have ok : ∃ x d, mf xs (get m1) = .ok x d := by
    have hb := b.2
    rw [er] at hb
    cases z : mf xs (get m1) with
    | ok x d => exact ⟨x, d, rfl⟩
    | exc e' d => rw [z] at hb; exact absurd rfl hb
    | bad => rw [z] at hb; exact absurd rfl hb
  obtain ⟨x, d', ex⟩ := ok
  obtain ⟨a, rfl, hNa, w2⟩ := Wd.toLS (w1.perm ((hC m1).append_right F))
  show SpD G.K n mf ((.ref a :: vs) ++ []) H1 Q E0
  rw [List.append_nil]
  obtain ⟨B, wb⟩ := w2
  have ha : ¬ B a := wb.nb a (by rw [fps_cons]; exact .head _)
  refine ⟨by rw [List.length_cons, i2.len, hn xs (get m1) (by rw [ex]; intro z; cases z)], B, a, vs, xs, get m1, x, d', rfl, wb.bo, ha, i2.dt wb.ft, wb.rt _ (.head _), ex, fun v H' B' hk h1 h2 hd hr => ?_⟩
  have w3 := Wb.chg (Z := Z m1 ++ F) wb hk h1 h2 hr
  have w4 : Wd G.K G.O ((v, x) :: L') (rootL G.K a d' :: (Z m1 ++ F)) H' := ⟨B', (w3.fact hd).fts fun f hf => by
    rcases List.mem_cons.mp hf with e | e
    · subst e; exact hd
    · exact w3.ft f (s2 f e)⟩
  exact q x (put d' m1) v H' (by rw [er, ex]) ((Wd.ofLS w4 hNa).perm ((hC' m1 d').append_right F))
end
/-- a tree that nobody changes for a while -/
def rootF (K : PySem.W.Frag) (t : Ty) (v : V) (d : D) : Root where
  fp := fun _ => []
  same := fun _ _ _ => rfl
  P := fun B H => ∃ f, Own K B H t v d f ∧ ∀ q ∈ f, B q
  mono := fun k e h => by
    obtain ⟨f, ho, hb⟩ := h
    refine ⟨f, ho.mono k fun q hq => ?_, fun q hq => ?_⟩
    · obtain ⟨o, h1, _⟩ := ho.occ q hq
      rw [h1]; exact (k q o (hb q hq) h1).2
    · obtain ⟨o, h1, _⟩ := ho.occ q hq
      exact (k q o (hb q hq) h1).1
  occ := fun _ q hq => by cases hq
inductive Frz (K : PySem.W.Frag) : List Root → List Root → Prop
  | nil : Frz K [] []
  | cons {N : Addr → Prop} {t : Ty} {v : V} {d : D} {A C : List Root} : Frz K A C → Frz K (rootS K N t v d :: A) (rootF K t v d :: C)
section
variable {K : PySem.W.Frag} {O : Og} {L : List (V × D)} {A C Z : List Root} {B B' B2 : Addr → Prop} {H H' : Hp}
theorem Frz.fps (h : Frz K A C) : fps C H = [] := by
  induction h with
  | nil => rfl
  | cons _ ih => rw [fps_cons, ih]; rfl
theorem Frz.P (h : Frz K A C) (hk : Kp B H B' H) (hP : ∀ c ∈ A, c.P B H) (hB : ∀ q ∈ My.fps A H, B' q) : ∀ c ∈ C, c.P B' H := by
  induction h with
  | nil => intro c hc; cases hc
  | @cons N t v d A C _ ih =>
    intro c hc
    rcases List.mem_cons.mp hc with e | e
    · obtain ⟨f, ho, _⟩ := hP (rootS K N t v d) (.head _)
      rw [e]
      exact ⟨f, ho.mono hk fun _ _ => rfl, fun q hq => hB q (by rw [fps_cons, rootS_fp ho]; exact List.mem_append.mpr (.inl hq))⟩
    · exact ih (fun c hc => hP c (.tail _ hc)) (fun q hq => hB q (by rw [fps_cons]; exact List.mem_append.mpr (.inr hq))) c e
theorem Frz.chg (h : Frz K A C) (hP : ∀ c ∈ A, c.P B H) : ∀ q ∈ My.fps A H, ∃ o, H q = some o ∧ Chg o = true := by
  induction h with
  | nil => intro q hq; cases hq
  | @cons N t v d A C _ ih =>
    intro q hq
    obtain ⟨f, ho, _⟩ := hP (rootS K N t v d) (.head _)
    rw [fps_cons, rootS_fp ho] at hq
    rcases List.mem_append.mp hq with e | e
    · exact ho.occ q e
    · exact ih (fun c hc => hP c (.tail _ hc)) q e
/-- all is read alone for a while: the world within -/
theorem Frz.into (h : Frz K A C) (wb : Wb K O B L (A ++ Z) H) : Wd K ⟨fun q => B q ∨ q ∈ My.fps A H, H, []⟩ L (C ++ []) H := by
  have hP : ∀ c ∈ A, c.P B H := fun c hc => wb.rt c (List.mem_append.mpr (.inl hc))
  have k : Kp B H (fun q => B q ∨ q ∈ My.fps A H) H := fun q o b e => ⟨.inl b, e⟩
  refine ⟨fun q => B q ∨ q ∈ My.fps A H, fun p b => b, fun p b => .inl b, ?_, fun p hp => ?_, fun p hp => ?_, fun c hc => ?_, fun f hf => Dt.mono k _ _ (wb.ft f hf), fun p o _ e => e, fun p hp => (by cases hp), fun p b => ?_⟩
  · rw [List.append_nil, h.fps]; exact List.nodup_nil
  · rw [List.append_nil, h.fps] at hp; cases hp
  · rw [List.append_nil, h.fps] at hp; cases hp
  · rw [List.append_nil] at hc
    exact h.P k hP (fun q hq => .inr hq) c hc
  · rcases b with b | b
    · exact wb.bo p b
    · obtain ⟨o, ho, _⟩ := h.chg hP p b
      exact ⟨o, ho⟩
/-- and out again: what is new and holds no list of these stays -/
theorem Frz.out (h : Frz K A C) (wb : Wb K O B L (A ++ Z) H) {L2 : List (V × D)} {F2 : List Root} (wb' : Wb K ⟨fun q => B q ∨ q ∈ My.fps A H, H, []⟩ B' L2 F2 H') : Wb K O (fun q => B q ∨ (B' q ∧ H q = none)) L (A ++ Z) H' ∧ (∀ p xs, B' p → Rd H' p (.tup xs) → B p ∨ (B' p ∧ H p = none)) ∧ Same H H' := by
  have sm : Same H H' := fun p o e => wb'.kp p o (by intro z; cases z) e
  have hP : ∀ c ∈ A, c.P B H := fun c hc => wb.rt c (List.mem_append.mpr (.inl hc))
  refine ⟨wb.grow sm (fun q b => .inl b) (fun q b => b.imp id fun z => ⟨z.2, wb'.bo q z.1⟩), fun p xs b r => ?_, sm⟩
  rcases wb'.hi p b with (z | z) | z
  · exact .inl z
  · obtain ⟨o, ho, hc⟩ := h.chg hP p z
    have := sm p o ho
    rcases r with r | ⟨u, r⟩
    · rw [r] at this; cases this; cases hc
    · rw [r] at this; cases this; cases hc
  · exact .inr ⟨b, z⟩
end
namespace SM
variable {μ : Type}
def rdr (E : μ → SM Unit D) : SM μ D := fun m => match E m () with
  | .ok x _ => if lfr x then .ok x m else .bad
  | _ => .bad
def rdrB (T : μ → SM Unit Bool) : SM μ Bool := fun m => match T m () with
  | .ok c _ => .ok c m
  | _ => .bad
def ixR (r x : D) : Option D := match x with
  | .int k => match ixD r k with
    | some n => kidD r n
    | none => none
  | _ => none
end SM
section
open SM
variable {X : Cx} {μ τ τ' ρ : Type} {G : Gx} {σ : St} {L : List (V × D)} {C C' C0 C1 C2 Cp Z : μ → List Root} {te ta tb tc ti : TE} {tr : TA} {tt tu : TT} {E1 E2 E3 : SM μ D} {i j n : Nat} {v u vy : V} {x d y : D} {t tk tm ty : Ty} {N N' : Addr → Prop} {Ca : Addr} {ns : List Str} {ts pts tys : List Ty} {nm m0 : Str} {A CF : μ → List Root}
theorem rdrB_nb {T : μ → SM Unit Bool} {m : μ} (h : rdrB T m ≠ .bad) : ∃ x, T m () = .ok x () ∧ rdrB T m = .ok x m := by
  unfold rdrB at h ⊢
  cases e : T m () with
  | ok x u => exact ⟨x, rfl, rfl⟩
  | exc e' u => rw [e] at h; exact absurd rfl h
  | bad => rw [e] at h; exact absurd rfl h
theorem tv_rdr {T : μ → SM Unit Bool} (hC : ∀ m, (C m).Perm (A m ++ Z m)) (hA : ∀ m, Frz G.K (A m) (CF m)) (h : ∀ m O', TV ⟨G.K, O', G.Xk, G.XR, G.rf⟩ tt σ L (fun _ : Unit => CF m) (T m)) : TV G tt σ L C (rdrB T) := by
  intro m F L' H Q s w q b
  obtain ⟨x, ex, er⟩ := rdrB_nb b.2
  have w1 : Wd G.K G.O L' (A m ++ (Z m ++ F)) H := w.perm (by rw [← List.append_assoc]; exact (hC m).append_right F)
  obtain ⟨B, wb⟩ := w1
  refine h m ⟨fun q => B q ∨ q ∈ fps (A m) H, H, []⟩ () [] L' H _ s ((hA m).into wb) (fun x' m' H' e' w' => ?_) (by rw [ex]; exact bk_ok)
  rw [ex] at e'; cases e'
  obtain ⟨B', wb'⟩ := w'
  obtain ⟨wg, hB, sm⟩ := (hA m).out wb wb'
  have w2 : Wd G.K G.O L' (A m ++ (Z m ++ F)) H' := ⟨_, wg⟩
  exact q x m H' er (w2.perm (by rw [← List.append_assoc]; exact (hC m).symm.append_right F))
def PF (G : Gx) (te : TE) (σ : St) (L : List (V × D)) (C : μ → List Root) (tk : Ty) (E : SM μ D) : Prop :=
  ∀ m F L' H Q, (∀ x ∈ L, x ∈ L') → Wd G.K G.O L' (C m ++ F) H →
    (∀ x m' v H', E m = .ok x m' → Wd G.K G.O L' (rootF G.K tk v x :: (C m' ++ F)) H' → Q v H') → Bk G C F L' (E m) → te σ H Q
theorem Wd.dupF {K : PySem.W.Frag} {O : Og} {Z : List Root} {H : Hp} (w : Wd K O L Z H) (h : ∀ B, (∀ c ∈ Z, c.P B H) → (rootF K t v d).P B H) : Wd K O L (rootF K t v d :: Z) H := by
  obtain ⟨B, wb⟩ := w
  exact ⟨B, wb.addR (r := rootF K t v d) (h B wb.rt) (fun p hp => by cases hp) List.nodup_nil⟩
theorem pf_var (hv : σ[i]? = some (some v)) (hC : ∀ m, rootF G.K t v d ∈ C m) : PF G (tVar i) σ L C t (pu d) := fun m F L' H Q s w q _ => ⟨v, hv, q d m v H rfl (w.dupF fun B hr => hr _ (List.mem_append.mpr (.inl (hC m))))⟩
theorem ev_pf (ht : t.dat = true) (h : PF G te σ L C t E1) : EV G te σ L C E1 := by
  intro m F L' H Q s w q b
  refine h m F L' H _ s w (fun x m1 v H1 e1 w1 => q x m1 v H1 e1 ?_) b
  obtain ⟨B, wb⟩ := w1
  obtain ⟨f, ho, hb⟩ := wb.rt _ (.head _)
  have hd := ho.dt' (fun _ b => b) ht hb
  exact Wd.subC (C' := C m1 ++ F) ⟨B, wb.fact hd⟩ (List.sublist_cons_self _ _)
end
section
open SM
variable {μ τ ρ : Type} {G : Gx} {σ : St} {L : List (V × D)} {C C' Cp Cp' Z : μ → List Root} {s0 : TS} {R : SM μ (Fl τ ρ)} {Jn : Shp μ τ} {Jl : Shp μ ρ} {N N' : Addr → Prop} {t : Ty} {v : V} {get : μ → D}
theorem sv_cp (e : Cp = Cp') (h : SV G Cp' s0 σ L C R Jn Jl) : SV G Cp s0 σ L C R Jn Jl := by rw [e]; exact h
end
theorem Mix.fr_inv {k : List Bool} {vs us ws : List V} (h : Mix (false :: k) vs us ws) : ∃ v vs' us', vs = v :: vs' ∧ us = v :: us' ∧ Mix k vs' us' ws := by
  cases h with
  | fr h => exact ⟨_, _, _, rfl, rfl, h⟩
theorem Mix.nil_inv {vs us ws : List V} (h : Mix [] vs us ws) : vs = [] ∧ us = [] ∧ ws = [] := by
  cases h; exact ⟨rfl, rfl, rfl⟩
namespace SM
variable {μ α β : Type}
class Pr (E : SM μ α) : Prop where
  pr : ∀ m x m', E m = .ok x m' → m' = m
instance pr_pu (a : α) : Pr (pu a : SM μ α) := ⟨fun m x m' e => by cases e; rfl⟩
instance pr_of (a : Option α) : Pr (of a : SM μ α) := ⟨fun m x m' e => by
  cases a with
  | none => cases e
  | some a => cases e; rfl⟩
instance pr_bd {x : SM μ α} {f : α → SM μ β} [h : Pr x] [g : ∀ a, Pr (f a)] : Pr (bd x f) := ⟨fun m y m' e => by
  obtain ⟨a, m1, e1, e2⟩ := ok_inv e
  rw [(g a).pr m1 y m' e2, h.pr m a m1 e1]⟩
instance pr_op2 {f : D → D → Option D} {E1 E2 : SM μ D} [h1 : Pr E1] [h2 : Pr E2] : Pr (op2 f E1 E2) := pr_bd
instance pr_op1 {f : D → Option D} {E1 : SM μ D} [h1 : Pr E1] : Pr (op1 f E1) := pr_bd
instance pr_opL {f : List D → Option D} {E1 : SM μ (List D)} [h1 : Pr E1] : Pr (opL f E1) := pr_bd
instance pr_a0 : Pr (a0 : SM μ (List D)) := pr_pu _
instance pr_ac {E : SM μ D} {Es : SM μ (List D)} [h1 : Pr E] [h2 : Pr Es] : Pr (ac E Es) := pr_bd
instance pr_rdP {get : μ → D} {p : List Nat} : Pr (rdP get p) := ⟨fun m x m' e => by
  unfold rdP at e
  cases h : getP (get m) p with
  | none => rw [h] at e; cases e
  | some r => rw [h] at e; cases e; rfl⟩
instance pr_nr1 {E : SM μ α} [h : Pr E] : Pr (nr1 E) := ⟨fun m x m' e => by
  unfold nr1 at e
  cases h2 : E m with
  | ok a m1 => rw [h2] at e; cases e; exact h.pr m x m' h2
  | exc e' m1 => rw [h2] at e; cases e
  | bad => rw [h2] at e; cases e⟩
theorem pr_keep {E : SM μ α} {γ : Type} (g : μ → γ) [h : Pr E] : ∀ m x m', E m = .ok x m' → g m' = g m := fun m x m' e => by rw [h.pr m x m' e]
end SM
namespace SM
def qz (mf : List D → SM (List D) D) : List D → SM (List D) D := fun ds ts => match mf ds ts with
  | .ok x t => .ok x t
  | _ => .bad
theorem qz_nb {mf : List D → SM (List D) D} {ds ts : List D} (h : qz mf ds ts ≠ .bad) : ∃ x t, mf ds ts = .ok x t := by
  unfold qz at h
  cases e : mf ds ts with
  | ok x t => exact ⟨x, t, rfl⟩
  | exc e' t => rw [e] at h; exact absurd rfl h
  | bad => rw [e] at h; exact absurd rfl h
theorem qz_ok {mf : List D → SM (List D) D} {ds ts t : List D} {x : D} (h : mf ds ts = .ok x t) : qz mf ds ts = .ok x t := by unfold qz; rw [h]
end SM
section
open SM
variable {μ : Type} {G : Gx} {σ : St} {L : List (V × D)} {C Cr Zs : μ → List Root} {tr : TA} {Es : SM μ (List D × (μ → List D) × (List D → μ → μ))} {ty : Ty} {N : Addr → Prop} {pts : List Ty} {k kp : List Bool}
theorem fts_cZq {XR : D → Value → Option Addr → Root} {mf : List D → SM (List D) D} (hN : ∀ q, q ∉ G.O.fp → N q) (h : AS G tr σ L C Zs Cr N k kp pts Es) : FTs G (nw G) (tCall (SpZ G.K XR k pts kp ty (qz mf)) [] E0 tr) σ L C Cr ty (cZ0 mf Es) := by
  intro m F L' H Q s w q b
  refine h m F L' H _ s w (fun xs tsf pb m1 vs us ws Hs H1 L2 e1 s2 mx i2 l1 l2 w1 hr => ?_) b.fst
  have er : cZ0 mf Es m = (match mf xs (tsf m1) with | .ok x ts => .ok x (pb ts m1) | _ => .bad) := bd_ok e1
  obtain ⟨x0, t0, e0⟩ := cZ0_nb e1 b.2
  rw [List.append_nil]
  refine callZ hN s2 mx i2 l1 l2 w1 hr (by rw [qz_ok e0]; intro z; cases z) (fun x ts' v H' ex w' => q x (pb ts' m1) v H' ?_ w') fun e ts' cls d H' ex w' => by rw [qz_ok e0] at ex; cases ex
  rw [qz_ok e0] at ex
  cases ex
  rw [er, e0]
theorem body_Zq {K : PySem.W.Frag} {XR : D → Value → Option Addr → Root} {mf : List D → SM (List D) D} {tsm : TS} {Nn : List Str} {H : Hp} {vs : List V} {Q : VK} {EE : XK} (hsp : SpZ K XR k pts kp ty (qz mf) vs H Q EE) (inj : List D → μ) (prj : μ → List D) (hl : ∀ m, (prj m).length = pts.length)
    (h : ∀ (us ws : List V) (ds : List D) (O : Og), Mix k vs us ws → us.length = ds.length → ws.length = pts.length → ∃ (C0 : μ → List Root) (T : SM μ (Fl Unit Empty)), mf ds = zbody inj prj (fin T) ∧ (∀ ts, ts.length = pts.length → C0 (inj ts) = RA K tr_ pts ws ts) ∧
      SV ⟨K, O, E0, noX, rfS K O ty⟩ (fun m => RK K tr_ kp pts ws (prj m)) tsm (start Nn vs) (us.zip ds) C0 T (fun _ _ _ C2 => ty = .fr ∧ C2 = fun m => RK K tr_ kp pts ws (prj m)) (fun z _ _ _ => z.elim)) : tsm { nx := fun _ H' => Q .non H', rt := Q } (start Nn vs) H := by
  obtain ⟨hvl, B, us, ws, ds, ts, mx, hb, hd, lt, lw, hnd, hnb, hr, nb, q, qx⟩ := hsp
  obtain ⟨x0, t0, e0⟩ := qz_nb nb
  obtain ⟨C0, T, hT, hC, hS⟩ := h us ws ds ⟨B, H, fps (RA K tr_ pts ws ts) H⟩ mx hd.len lw
  have et : fin T (inj ts) = .ok x0 (match fin T (inj ts) with | .ok _ m => m | _ => inj ts) := by
    have := e0
    rw [hT] at this
    unfold zbody at this
    cases e : fin T (inj ts) with
    | ok a m => rw [e] at this; cases this; rfl
    | exc a m => rw [e] at this; cases this
    | bad => rw [e] at this; cases this
  have w0 : Wd K ⟨B, H, fps (RA K tr_ pts ws ts) H⟩ (us.zip ds) (C0 (inj ts) ++ []) H := by
    rw [List.append_nil, hC ts lt]
    refine ⟨B, fun p b => b, fun p b => .inl b, hnd, hnb, fun p hp => .inl hp, hr, zip_dt hd, fun p o _ e => e, fun p hp => ?_, hb⟩
    obtain ⟨c, hc, hq⟩ := List.mem_flatMap.mp hp
    exact c.occ (hr c hc) p hq
  have okc : ∀ {x : D} {m' : μ} {v : V} {H' : Hp} {LL : List (V × D)}, fin T (inj ts) = .ok x m' → Wd K ⟨B, H, fps (RA K tr_ pts ws ts) H⟩ LL ([rootS K (fun q => q ∉ fps (RA K tr_ pts ws ts) H) ty v x] ++ (RK K tr_ kp pts ws (prj m') ++ [])) H' → Q v H' := fun {x m' v H' LL} e w => by
    obtain ⟨B', wb⟩ := w
    have wb2 := Wd.newN (Z := RK K tr_ kp pts ws (prj m') ++ []) wb
    rw [List.append_nil] at wb2
    refine q x (prj m') v H' B' (qz_ok ?_) (hl m') (Fr.of hb wb2)
    rw [hT]; unfold zbody; rw [e]
  refine hS (inj ts) [] (us.zip ds) H _ (fun f hf => hf) w0 ?_ ?_ ?_ ?_ ?_
  · intro s m' σ' L2 C2 H' e hC2 w
    obtain ⟨rfl, rfl⟩ := hC2
    refine okc (x := .none) (bd_ok e) ((Wd.ofFS (v := .non) (d := .none) ((w.fact (v := .non) (d := .none) fun _ _ => .non)) (.head _)))
  · intro s; exact s.elim
  · intro s; exact s.elim
  · rintro x m' v H' _ _ e ⟨rfl, rfl⟩ w
    exact okc (bd_ok e) w
  · refine ⟨fun e m' cls d H' ex w => ?_, fun z => ?_⟩
    · have e2 : fin T (inj ts) = .exc e m' := bd_exc ex
      rw [e2] at et; cases et
    · have e2 : fin T (inj ts) = .bad := bd_bad z
      rw [e2] at et; cases et
end
namespace SM
def zTup {μ : Type} (Es : SM μ (List D × (μ → List D) × (List D → μ → μ))) : SM μ D := bd Es fun q => fun m => .ok (.tuple (q.2.1 m)) (q.2.2 (q.2.1 m) m)
def zLst {μ : Type} (Es : SM μ (List D × (μ → List D) × (List D → μ → μ))) : SM μ D := bd Es fun q => fun m => .ok (.list (q.2.1 m)) (q.2.2 (q.2.1 m) m)
end SM
theorem RA_own {K : PySem.W.Frag} {N B : Addr → Prop} {H : Hp} : ∀ {ts : List Ty} {vs : List V} {ds : List D}, vs.length = ts.length → ds.length = ts.length → (∀ c ∈ RA K N ts vs ds, c.P B H) → ∃ f, OwnZ K B H ts vs ds f ∧ fps (RA K N ts vs ds) H = f ∧ ∀ q ∈ f, N q
  | [], [], [], _, _, _ => ⟨[], .nil, rfl, fun q hq => (by cases hq)⟩
  | t :: ts, v :: vs, d :: ds, h1, h2, h => by
    obtain ⟨f1, o1, n1⟩ := h (rootS K N t v d) (.head _)
    obtain ⟨f2, o2, e2, n2⟩ := RA_own (ts := ts) (vs := vs) (ds := ds) (by simpa using h1) (by simpa using h2) fun c hc => h c (.tail _ hc)
    refine ⟨f1 ++ f2, .cons o1 o2, ?_, fun q hq => (List.mem_append.mp hq).elim (n1 q) (n2 q)⟩
    show foot K t v d H ++ fps (RA K N ts vs ds) H = _
    rw [foot_eq o1, e2]
theorem Mix.allT {k : List Bool} {vs us ws : List V} (h : Mix k vs us ws) : (∀ b ∈ k, b = true) → vs = ws := by
  induction h with
  | nil => intro _; rfl
  | fr _ ih => intro h; cases h false (.head _)
  | tr _ ih => intro h; rw [ih fun b hb => h b (.tail _ hb)]
section
open SM
variable {X : Cx} {μ τ τ' ρ : Type} {G : Gx} {σ : St} {L : List (V × D)} {C C' C0 C1 C2 Cp Cr Z Zs : μ → List Root} {te ta tb tc ti : TE} {tr : TA} {tt tu : TT} {E E1 E2 E3 : SM μ D} {Es : SM μ (List D × (μ → List D) × (List D → μ → μ))} {i j n : Nat} {v u vy : V} {x d y : D} {t tk tm ty : Ty} {N N' : Addr → Prop} {pts : List Ty} {k kp : List Bool} {A CF : μ → List Root}
/-- (a, b, ..) of trees -/
theorem fts_tp (hk : ∀ b ∈ k, b = true) (hkp : ∀ b ∈ kp, b = false) (hn : pts.length ≤ sizeLine) (h : AS G tr σ L C Zs Cr N k kp pts Es) : FTs G N (tTup tr) σ L C Cr (.tp pts) (zTup Es) := by
  intro m F L' H Q s w q b
  refine h m F L' H _ s w (fun xs tsf pb m1 vs us ws Hs H1 L2 e1 s2 mx i2 l1 l2 w1 hr => ?_) b.fst
  have er : zTup Es m = .ok (.tuple (tsf m1)) (pb (tsf m1) m1) := bd_ok e1
  have ev := mx.allT hk
  subst ev
  refine ⟨by rw [l1]; exact hn, fun p hp => ?_⟩
  obtain ⟨B, wb⟩ := w1
  have sm : Same H1 (upd H1 p (.tup vs)) := fun q o e => by rw [upd_ne (ne_of_none e hp)]; exact e
  have wg := wb.grow (B' := fun q => B q ∨ q = p) sm (fun q b => .inl b) fun q b => b.elim .inl fun e => .inr (by subst e; exact ⟨hp, _, upd_same⟩)
  have w4 : Wd G.K G.O L2 ([rootS G.K N (.tp pts) (.ref p) (.tuple (tsf m1))] ++ (Hs ++ (Zs m1 ++ F))) (upd H1 p (.tup vs)) := by
    obtain ⟨f, hz, ef, hn2⟩ := RA_own (H := upd H1 p (.tup vs)) l1 l2 fun c hc => wg.rt c (List.mem_append.mpr (.inl hc))
    have ho : Own G.K (fun q => B q ∨ q = p) (upd H1 p (.tup vs)) (.tp pts) (.ref p) (.tuple (tsf m1)) f := .tp ⟨.inr rfl, upd_same⟩ hz
    refine ⟨_, wg.swap (C' := [rootS G.K N (.tp pts) (.ref p) (.tuple (tsf m1))]) (by rw [fps_one, rootS_fp ho, ef]) (fun _ _ => rfl) (fun q hq => ?_) fun _ c hc => ?_⟩
    · obtain ⟨c, hc, hq2⟩ := List.mem_flatMap.mp hq
      exact c.occ (wg.rt c (List.mem_append.mpr (.inl hc))) q hq2
    · rw [mem1 hc]; exact ⟨f, ho, hn2⟩
  have w5 := hr (tsf m1) m1 L2 (rootS G.K N (.tp pts) (.ref p) (.tuple (tsf m1)) :: F) _ l2 (by rw [RK_false hkp]; exact w4.perm (perm3 [] _ _ _ _).symm)
  exact q _ _ (.ref p) _ er ((w5.perm List.perm_middle).sub s2)
theorem FTs.sub {L0 : List (V × D)} (h : FTs G N te σ L0 C C1 t E) (s : ∀ f ∈ L0, f ∈ L) : FTs G N te σ L C C1 t E := fun m F L' H Q s' w q b => h m F L' H Q (fun f hf => s' f (s f hf)) w q b
end
theorem _root_.L2.Room.units1 {k : Nat} {A : Around} (r : Room k A) : A.units + 1 < cLine := by have := r.units; omega
namespace SM
variable {μ α β : Type}
class PrZ (E : SM μ (List D × (μ → List D) × (List D → μ → μ))) : Prop where
  pr : ∀ m q m', E m = .ok q m' → m' = m ∧ ∀ ts m2, q.2.2 ts m2 = m2
instance prz_n : PrZ (zN : SM μ (List D × (μ → List D) × (List D → μ → μ))) := ⟨fun m q m' e => by cases e; exact ⟨rfl, fun _ _ => rfl⟩⟩
instance prz_f {E : SM μ D} {Es : SM μ (List D × (μ → List D) × (List D → μ → μ))} [h : Pr E] [g : PrZ Es] : PrZ (zF E Es) := ⟨fun m q m' e => by
  obtain ⟨a, m1, e1, e2⟩ := ok_inv e
  obtain ⟨q1, m2, e3, e4⟩ := ok_inv e2
  cases e4
  obtain ⟨z1, z2⟩ := g.pr m1 q1 m' e3
  exact ⟨by rw [z1, h.pr m a m1 e1], z2⟩⟩
instance prz_t {E : SM μ D} {Es : SM μ (List D × (μ → List D) × (List D → μ → μ))} [h : Pr E] [g : PrZ Es] : PrZ (zT E Es) := ⟨fun m q m' e => by
  obtain ⟨a, m1, e1, e2⟩ := ok_inv e
  obtain ⟨q1, m2, e3, e4⟩ := ok_inv e2
  cases e4
  obtain ⟨z1, z2⟩ := g.pr m1 q1 m' e3
  exact ⟨by rw [z1, h.pr m a m1 e1], fun ts m3 => z2 ts.tail m3⟩⟩
instance pr_ztup {Es : SM μ (List D × (μ → List D) × (List D → μ → μ))} [g : PrZ Es] : Pr (zTup Es) := ⟨fun m x m' e => by
  obtain ⟨q, m1, e1, e2⟩ := ok_inv e
  obtain ⟨z1, z2⟩ := g.pr m q m1 e1
  cases e2
  rw [z2, z1]⟩
instance pr_zlst {Es : SM μ (List D × (μ → List D) × (List D → μ → μ))} [g : PrZ Es] : Pr (zLst Es) := ⟨fun m x m' e => by
  obtain ⟨q, m1, e1, e2⟩ := ok_inv e
  obtain ⟨z1, z2⟩ := g.pr m q m1 e1
  cases e2
  rw [z2, z1]⟩
instance pr_mkz0 {mf : List D → SM (List D) D} {Es : SM μ (List D × (μ → List D) × (List D → μ → μ))} [g : PrZ Es] : Pr (mkZ0 mf Es) := ⟨fun m x m' e => by
  obtain ⟨q, m1, e1, e2⟩ := ok_inv e
  obtain ⟨z1, z2⟩ := g.pr m q m1 e1
  revert e2
  cases mf q.1 (q.2.1 m1) with
  | ok y ts => intro e2; cases e2; rw [z2, z1]
  | exc y ts => intro e2; cases e2
  | bad => intro e2; cases e2⟩
instance pr_mkz {mf : List D → SM (List D) D} {Es : SM μ (List D × (μ → List D) × (List D → μ → μ))} [g : PrZ Es] : Pr (mkZ mf Es) := ⟨fun m x m' e => by
  obtain ⟨q, m1, e1, e2⟩ := ok_inv e
  obtain ⟨z1, z2⟩ := g.pr m q m1 e1
  revert e2
  cases mf q.1 (q.2.1 m1) with
  | ok y ts => intro e2; cases e2; rw [z2, z1]
  | exc y ts => intro e2; cases e2
  | bad => intro e2; cases e2⟩
instance pr_cz0 {mf : List D → SM (List D) D} {Es : SM μ (List D × (μ → List D) × (List D → μ → μ))} [g : PrZ Es] : Pr (cZ0 mf Es) := ⟨fun m x m' e => by
  obtain ⟨q, m1, e1, e2⟩ := ok_inv e
  obtain ⟨z1, z2⟩ := g.pr m q m1 e1
  revert e2
  cases mf q.1 (q.2.1 m1) with
  | ok y ts => intro e2; cases e2; rw [z2, z1]
  | exc y ts => intro e2; cases e2
  | bad => intro e2; cases e2⟩
end SM
namespace SM
variable {μ : Type}
/-- a path that is known to be there -/
def pinP (get : μ → D) (p : List Nat) : SM μ (List Nat) := fun m => match getP (get m) p with
  | some _ => .ok p m
  | none => .bad
instance pr_pinP {get : μ → D} {p : List Nat} : Pr (pinP get p) := ⟨fun m x m' e => by
  unfold pinP at e
  cases h : getP (get m) p with
  | none => rw [h] at e; cases e
  | some r => rw [h] at e; cases e; rfl⟩
end SM
open PySem.Spec PyProof.Rows in
section
variable {X : Cx} {pins : List (Addr × Obj)} {σ : L2.St} {H H' : Hp} {s : Shared} {a b : Addr} {k : List Key} {xs : List (List Key × Addr × Value)}
/-- the dict at a, its keys known -/
structure DxAt (P : Program) (w : World) (K : PySem.W.Frag) (H : Hp) (a : Addr) (xs : List (List Key × Addr × Value)) : Prop where
  at_ : H a = some (.ext (DxE P w a xs))
  keys : ∀ x ∈ xs, SqT K H x.2.1 (x.1.map kV)
theorem key_sq (I : Inv X pins σ H s) (e : SqT X.K H b (k.map kV)) : (tupleKind (mixKind X.prog X.w)).is s.heap k b := by
  rcases e with e | ⟨o, its, n, h1, h2, h3, _, h5⟩
  · obtain ⟨_, its, r, o, h1, h2, n, h3⟩ := (show ObjOk X.prog X.w H s.heap b (.tup (k.map kV)) from e.ok I.hok)
    exact ⟨o, its.toArray, n, h1, h2, h3, by simpa using items_are r⟩
  · exact ⟨o, its, n, I.kIn b o h1, h2, h3, items_are h5⟩
theorem DxAt.dict (I : Inv X pins σ H s) (h : DxAt X.prog X.w X.K H a xs) : (a == sysModules) = false ∧ xs.length ≤ sizeLine ∧ s.heap.DictOfH (tupleKind (mixKind X.prog X.w)) a xs := by
  obtain ⟨⟨h1, h2, h3, o, es, ep, h4, h5, h6, h7⟩, _, _⟩ := I.hok a _ h.at_
  exact ⟨h1, h2, o, es, ep, h4, h5, h6, h7, fun x hx => key_sq I (h.keys x hx), h3⟩
variable {o i value : Expr} {pos pos' : Pos} {td ty tv tx : TE}
end
namespace SM
def hasE (es : List (List Key × D)) (k : List Key) : Bool := es.any fun e => decide (e.1 = k)
def putE (es : List (List Key × D)) (k : List Key) (y : D) : List (List Key × D) := if hasE es k then es.map fun e => if e.1 = k then (e.1, y) else e else es ++ [(k, y)]
end SM
open SM in
section
variable {K : PySem.W.Frag} {B B' : Addr → Prop} {H H' : Hp} {xs : List (List Key × Addr × Value)} {es : List (List Key × D)}
theorem Dt.keys {K : PySem.W.Frag} {B : Addr → Prop} {H : Hp} : ∀ {ks : List Key} {vs : List V}, DtAll K B H vs (ks.map kD) → vs = ks.map kV
  | [], _, h => by cases h; rfl
  | k :: ks, _, h => by
    rw [List.map_cons] at h
    cases h with
    | cons a b =>
      rw [Dt.keys b, List.map_cons]
      cases k with
      | inl i => rw [a.int_inv]; rfl
      | inr x => cases a; rfl
theorem KvT.len (h : KvT K B H xs es) : xs.length = es.length := by
  induction h with
  | nil => rfl
  | cons _ _ _ _ ih => simp [ih]
theorem KvT.keyE (h : KvT K B H xs es) : xs.map (·.1) = es.map (·.1) := by
  induction h with
  | nil => rfl
  | cons _ _ _ _ ih => simp [ih]
theorem KvT.has (h : KvT K B H xs es) (k : List Key) : (atKey xs k).isSome = hasE es k := by
  unfold atKey hasE
  rw [Option.isSome_map, List.isSome_find?]
  have e1 : (xs.any fun x => decide (x.1 = k)) = (xs.map (·.1)).any fun y => decide (y = k) := by rw [List.any_map]; rfl
  have e2 : (es.any fun x => decide (x.1 = k)) = (es.map (·.1)).any fun y => decide (y = k) := by rw [List.any_map]; rfl
  rw [e1, e2, h.keyE]
theorem KvT.repl {k : List Key} {r : Value} {v : V} {y : D} (h : KvT K B H xs es) (hr : RelV v r) (hd : Dt K B H v y) : KvT K B H (xs.map fun x => if x.1 = k then (x.1, x.2.1, r) else x) (es.map fun e => if e.1 = k then (e.1, y) else e) := by
  induction h with
  | nil => exact .nil
  | @cons k' b r' v' d' xs es a b' c _ ih =>
    rw [List.map_cons, List.map_cons]
    by_cases e : k' = k
    · rw [if_pos e, if_pos e]; exact .cons a hr hd ih
    · rw [if_neg e, if_neg e]; exact .cons a b' c ih
theorem KvT.snoc {k : List Key} {b : Addr} {r : Value} {v : V} {y : D} (h : KvT K B H xs es) (hf : FzT K B H b (k.map kV)) (hr : RelV v r) (hd : Dt K B H v y) : KvT K B H (xs ++ [(k, b, r)]) (es ++ [(k, y)]) := by
  induction h with
  | nil => exact .cons hf hr hd .nil
  | cons a b' c _ ih => exact .cons a b' c ih
theorem KvT.put {k : List Key} {b : Addr} {r : Value} {v : V} {y : D} (h : KvT K B H xs es) (hf : FzT K B H b (k.map kV)) (hr : RelV v r) (hd : Dt K B H v y) : KvT K B H (storedH xs k b r) (putE es k y) := by
  have e := h.has k
  unfold storedH putE
  rw [e]
  cases hasE es k with
  | true => exact h.repl hr hd
  | false => exact h.snoc hf hr hd
variable {O : Og} {L : List (V × D)} {Z : List Root} {N : Addr → Prop} {P : Program} {w0 : World} {v : V} {d : D}
end
namespace SM
end SM
namespace SM
end SM
namespace SM
end SM
namespace SM
instance pr_px {μ α : Type} {x : SM Unit α} : Pr (px x : SM μ α) := ⟨fun m y m' e => by
  unfold px at e
  split at e
  · cases e; rfl
  · cases e⟩
instance pr_cP {μ : Type} {mf : List D → SM Unit D} {Es : SM μ (List D)} [h : Pr Es] : Pr (cP mf Es) := pr_bd
instance pr_rdr {μ : Type} {E : μ → SM Unit D} : Pr (rdr E) := ⟨fun m y m' e => by
  unfold rdr at e
  split at e
  · split at e
    · cases e; rfl
    · cases e
  · cases e⟩
end SM
namespace SM
end SM
namespace SM
end SM
namespace SM
variable {μ : Type}
/-- a method of one of two classes -/
def cA (mf1 mf2 : List D → SM (List D) D) (get : μ → D) (put : D → μ → μ) (W : SM μ (List Nat)) (Es : SM μ (List D)) : SM μ D := bd (nr1 W) fun p => bd (nr1 Es) fun xs => fun m => match getP (get m) p with
  | some (.tuple [.int 0, d]) => (match mf1 xs [d] with
    | .ok x ts => .ok x (put (setP (get m) p (.tuple [.int 0, ts.headD .none])) m)
    | _ => .bad)
  | some (.tuple [.int 1, d]) => (match mf2 xs [d] with
    | .ok x ts => .ok x (put (setP (get m) p (.tuple [.int 1, ts.headD .none])) m)
    | _ => .bad)
  | _ => .bad
end SM
namespace SM
end SM
namespace SM
end SM
instance SM.pr_getG {μ : Type} {get : μ → D} : SM.Pr (SM.getG get) := ⟨fun m x m' e => by cases e; rfl⟩
open PySem.Spec PyProof.Rows in
section
variable {X : Cx} {pins : List (Addr × Obj)} {σ : L2.St} {H H' : Hp} {s : Shared} {a b : Addr} {k : T3} {xs : List (T3 × Addr)}
def eN (x : T3 × Addr) : NestedKey × Addr × Value := (nk3 x.1, x.2, .bool true)
def KeyN (K : PySem.W.Frag) (H : Hp) (b : Addr) (k : T3) : Prop := ∃ q, SqT K H b [.int k.1, .ref q] ∧ SqT K H q [.int k.2.1, .int k.2.2]
structure DnAt (P : Program) (w : World) (K : PySem.W.Frag) (H : Hp) (a : Addr) (xs : List (T3 × Addr)) : Prop where
  at_ : H a = some (.ext (DnE P w a xs))
  keys : ∀ x ∈ xs, KeyN K H x.2 x.1
theorem key_n (I : Inv X pins σ H s) (e : KeyN X.K H b k) : (nestedKind X.prog X.w).is s.heap (nk3 k) b := by
  obtain ⟨q, h1, h2⟩ := e
  obtain ⟨its, r, ⟨o, g1, g2, n, g3⟩, _⟩ := I.tuple h1
  obtain ⟨u1, u2, rfl, ⟨t1, rfl⟩, r2⟩ := vals2 r
  obtain rfl : u2 = .ref q := r2
  obtain ⟨its', r', ⟨o', k1, k2, n', k3⟩, _⟩ := I.tuple h2
  obtain ⟨v1, v2, rfl, ⟨t2, rfl⟩, ⟨t3, rfl⟩⟩ := vals2 r'
  exact ⟨.tup g1 g2 g3 (.cons (.int _ _) (.cons (.tup k1 k2 k3 (.cons (.int _ _) (.cons (.int _ _) .nil))) .nil)), by simp [nk3, NestedKey.depth, NestedKey.depthAll]⟩
theorem DnAt.dict (I : Inv X pins σ H s) (h : DnAt X.prog X.w X.K H a xs) : (a == sysModules) = false ∧ xs.length ≤ sizeLine ∧ s.heap.DictOfH (nestedKind X.prog X.w) a (xs.map eN) := by
  obtain ⟨⟨h1, h2, h3, o, es, ep, h4, h5, h6, h7⟩, _, _⟩ := I.hok a _ h.at_
  exact ⟨h1, h2, o, es, ep, h4, h5, h6, by rw [h7, List.map_map]; rfl, fun x hx => by
    obtain ⟨y, hy, rfl⟩ := List.mem_map.mp hx
    exact key_n I (h.keys y hy), by rw [List.map_map]; exact h3⟩
def addX (xs : List (T3 × Addr)) (k : T3) (b : Addr) : List (T3 × Addr) := if k ∈ xs.map (·.1) then xs else xs ++ [(k, b)]
variable {o i value : Expr} {pos pos' : Pos} {td ty tv tx : TE}
end
namespace SM
section
variable {K : PySem.W.Frag} {B B' : Addr → Prop} {H H' : Hp} {O : Og} {L : List (V × D)} {Z : List Root} {N : Addr → Prop} {P : Program} {w0 : World} {v : V} {d : D} {xs : List (T3 × Addr)} {k : T3}
theorem KvN.put {b q : Addr} (h : KvN K B H xs) (h1 : FzT K B H b [.int k.1, .ref q]) (h2 : FzT K B H q [.int k.2.1, .int k.2.2]) : KvN K B H (addX xs k b) := fun x hx => by
  unfold addX at hx
  split at hx
  · exact h x hx
  · rcases List.mem_append.mp hx with e | e
    · exact h x e
    · rw [List.mem_singleton.mp e]; exact ⟨q, h1, h2⟩
end
end SM
namespace SM
end SM
namespace SM
end SM
namespace SM
end SM
namespace SM
end SM
theorem OwnZ.app {K : PySem.W.Frag} {B : Addr → Prop} {H : Hp} {us : List Ty} {ws : List V} {es : List D} {g : List Addr} : ∀ {ts : List Ty} {vs : List V} {ds : List D} {f : List Addr}, OwnZ K B H ts vs ds f → OwnZ K B H us ws es g → OwnZ K B H (ts ++ us) (vs ++ ws) (ds ++ es) (f ++ g)
  | [], _, _, _, h, o => by
    cases h
    exact o
  | _ :: _, _, _, _, h, o => by
    cases h with
    | cons a b =>
      rw [List.append_assoc]
      exact .cons a (OwnZ.app b o)
namespace SM
end SM
section
open SM
namespace SM
end SM
end
namespace SM
end SM
namespace SM
end SM
namespace SM
end SM
section
open PySem PySem.Spec PyProof.Rows HotX L2H
variable {X : Cx}
/-- what the cases of a match do with the value -/
structure PMc (X : Cx) (cs : List MatchCase) (t : V → TS) : Prop where
  run : ∀ (pins : List (Addr × Obj)) (s : Shared) (σ : L2.St) (H : Hp) (D : Ends) (v : V) (u : Value) (f : Bool), Inv X pins σ H s → RelV v u → t v D σ H → wpAny (model X.prog X.w) X.A (matchCases cs X.env u f) (SP X pins D) X.xe s
def tMch (te : TE) (tm : V → TS) : TS := fun D σ H => te σ H fun v H1 => tm v D σ H1
theorem ps_match {e : Expr} {cs : List MatchCase} {pos : Pos} {te : TE} {tm : V → TS} (he : PE X e te) (hm : PMc X cs tm) : PS X (.Match e cs pos) (tMch te tm) := ⟨fun pins s σ H D I h =>
  wpAny_Match (thn (he.run pins s σ H (fun v H1 => tm v D σ H1) I h) fun u s1 ⟨v, H1, I1, r, q⟩ => hm.run pins s1 σ H1 D v u true I1 r q)⟩
theorem pmc_any {body : List Stmt} {cs : List MatchCase} {pos : Pos} {t : TS} (hb : PSs X body t) : PMc X (⟨.MatchAs none none pos, none, body⟩ :: cs) (fun _ => t) := ⟨fun pins s σ H D v u f I r h =>
  wpAny_matchCases_cons (wpAny_matchPattern_Capture (wpAny_assignInOrder_none (hb.run pins s σ H D I h)))⟩
/-- the slots behind the names that a case binds -/
def bindS : List Nat → List V → L2.St → L2.St
  | i :: is, v :: vs, σ => bindS is vs (σ.set i (some v))
  | _, _, σ => σ
/-- patterns that are names, each with its slot -/
inductive Caps (X : Cx) : List Pattern → List Nat → List Str → Prop
  | nil : Caps X [] [] []
  | cons {i : Nat} {n : Str} {pos : Pos} {ps : List Pattern} {is : List Nat} {ns : List Str} (hi : X.N[i]? = some n) (hl : Loc X.env.scope n) (hf : X.fn n = true ∨ List.lookup n X.env.scope.names = some NameKind.local) (h : Caps X ps is ns) : Caps X (.MatchAs none (some n) pos :: ps) (i :: is) (n :: ns)
theorem Caps.len {ps : List Pattern} {is : List Nat} {ns : List Str} (h : Caps X ps is ns) : ps.length = is.length ∧ ns.length = is.length ∧ ps.findIdx? (fun x => x.isStar) = none := by
  induction h with
  | nil => exact ⟨rfl, rfl, rfl⟩
  | cons _ _ _ _ ih => exact ⟨congrArg (· + 1) ih.1, congrArg (· + 1) ih.2.1, by rw [List.findIdx?_cons, if_neg (show ¬ ((Pattern.MatchAs none _ _).isStar = true) from Bool.false_ne_true), ih.2.2]; rfl⟩
theorem caps_each {ps : List Pattern} {is : List Nat} {ns : List Str} (h : Caps X ps is ns) : ∀ {us : List Value} {M : Model} {A : Around} {E : Value → Shared → Prop} {s : Shared} {Q : Option (List (Str × Value)) → Shared → Prop}, us.length = is.length → Q (some (ns.zip us)) s → wpAny M A (matchEach ps X.env us) Q E s := by
  induction h with
  | nil => intro us M A E s Q e q; cases us with
    | nil => exact wpAny_matchEach_nil q
    | cons => cases e
  | cons _ _ _ _ ih => intro us M A E s Q e q; cases us with
    | nil => cases e
    | cons u us => exact wpAny_matchEach_cons (wpAny_matchPattern_Capture (ih (Nat.succ.inj e) q))
theorem caps_bind (hN : X.N.Nodup) {ps : List Pattern} {is : List Nat} {ns : List Str} (h : Caps X ps is ns) {pins : List (Addr × Obj)} {H : Hp} : ∀ {vs : List V} {us : List Value} {M : Model} {A : Around} {E : Value → Shared → Prop} {s : Shared} {σ : L2.St} {Q : Unit → Shared → Prop}, Vals vs us → vs.length = is.length → Inv X pins σ H s → (∀ s', Inv X pins (bindS is vs σ) H s' → Q () s') → wpAny M A (assignInOrder ((ns.zip us).map fun x => bindName X.env x.1) ((ns.zip us).map fun x => x.2)) Q E s := by
  induction h with
  | nil => intro vs us M A E s σ Q r e I q
           cases r with
           | nil => exact wpAny_assignInOrder_none (q _ I)
           | cons => cases e
  | cons hi hl hf _ ih => intro vs us M A E s σ Q r e I q
                          cases r with
                          | nil => cases e
                          | cons a r => exact wpAny_assignInOrder_more (wpAny_bindName (store_ok I hN hi hl a (fun s' I' => ih r (Nat.succ.inj e) I' q) hf))
/-- a case: so many things, the first one this word, the others bound to names -/
def tCase (K : PySem.W.Frag) (lit : Str) (is : List Nat) (t : TS) (r : V → TS) : V → TS := fun v D σ H => ∃ a xs, v = .ref a ∧ (SqT K H a xs ∨ SqL K H a xs) ∧ if xs.length = is.length + 1 then ∃ w ys, xs = .str w :: ys ∧ if w = lit then t D (bindS is ys σ) H else r v D σ H else r v D σ H
theorem pmc_case {lit : Str} {j : Nat} {p1 p2 p3 : Pos} {ps : List Pattern} {is : List Nat} {ns : List Str} {body : List Stmt} {cs : List MatchCase} {t : TS} {r : V → TS} (hc : X.calm = true) (hN : X.N.Nodup) (hp : Caps X ps is ns) (hb : PSs X body t) (hr : PMc X cs r) :
    PMc X (⟨.MatchSequence (.MatchValue (.Constant (.str lit) j p1) p2 :: ps) p3, none, body⟩ :: cs) (tCase X.K lit is t r) := ⟨fun pins s σ H D v u f I rv h => by
  obtain ⟨a, xs, rfl, hs, h⟩ := h
  have hu : u = .ref a := rv
  subst hu
  obtain ⟨e1, e2, e3⟩ := hp.len
  have st : (Pattern.MatchValue (.Constant (.str lit) j p1) p2 :: ps).findIdx? (fun x => x.isStar) = none := by
    rw [List.findIdx?_cons, if_neg (show ¬ ((Pattern.MatchValue _ _).isStar = true) from Bool.false_ne_true), e3]; rfl
  have wl : ((Pattern.MatchValue (.Constant (.str lit) j p1) p2 :: ps).all fun p => p.isWildcard || p.isStar && p.names.isEmpty) = false := by
    rw [List.all_cons]; simp only [Pattern.isWildcard, Pattern.isStar, Bool.false_and, Bool.or_false]
  have hd := I.ok.hd hc
  refine wpAny_matchCases_cons ?_
  have inner : ∀ {us : List Value} {s1 : Shared}, xs.length = is.length + 1 → Vals xs us → Inv X pins σ H s1 → wpAny (model X.prog X.w) X.A (matchEach (.MatchValue (.Constant (.str lit) j p1) p2 :: ps) X.env us) (fun r s₁ => match r with
        | none => wpAny (model X.prog X.w) X.A (matchCases cs X.env (.ref a) false) (SP X pins D) X.xe s₁
        | some bs => wpAny (model X.prog X.w) X.A (assignInOrder (bs.map fun x => bindName X.env x.1) (bs.map fun x => x.2)) (fun _ s₂ => wpAny (model X.prog X.w) X.A (execs body X.env) (SP X pins D) X.xe s₂) X.xe s₁) X.xe s1 := by
    intro us s1 hl rv I1
    rw [if_pos hl] at h
    obtain ⟨w, ys, rfl, h⟩ := h
    cases rv with
    | cons ra ry =>
      refine wpAny_matchEach_cons (wpAny_matchPattern_Value ?_)
      refine thn ((pe_str (X := X) (x := lit) (j := j) (pos := p1)).run pins s1 σ H (fun x H2 => x = .str lit ∧ H2 = H) I1 ⟨rfl, rfl⟩) fun uu s2 ⟨x, H2, I2, r2, e, e'⟩ => ?_
      subst e; subst e'
      refine thn (op_eq (X := X) pins s2 σ H2 (.str w) (.str lit) _ _ (fun x H3 => x = .bl (decide (w = lit)) ∧ H3 = H2) I2 ra r2 ⟨rfl, by simp only [V.str.injEq], rfl⟩) fun uc s3 ⟨x, H3, I3, r3, e, e'⟩ => ?_
      subst e; subst e'
      have : uc = .bool (decide (w = lit)) := r3
      subst this
      refine wpAny_truthy_bool ?_
      by_cases q : w = lit
      · rw [if_pos q] at h
        rw [if_pos (by rw [decide_eq_true q])]
        refine caps_each hp (by rw [← ry.length]; exact Nat.succ.inj hl) ?_
        exact caps_bind hN hp ry (Nat.succ.inj hl) I3 fun s' I' => hb.run pins s' _ H3 D I' h
      · rw [if_neg q] at h
        rw [if_neg (by rw [decide_eq_false q]; exact Bool.false_ne_true)]
        exact hr.run pins s3 σ H3 D (.ref a) (.ref a) false I3 rfl h
  have miss : ∀ {s1 : Shared}, xs.length ≠ is.length + 1 → Inv X pins σ H s1 → wpAny (model X.prog X.w) X.A (matchCases cs X.env (.ref a) false) (SP X pins D) X.xe s1 := by
    intro s1 hl I1
    rw [if_neg hl] at h
    exact hr.run pins s1 σ H D (.ref a) (.ref a) false I1 rfl h
  rcases hs with hs | hs
  · obtain ⟨its, rv, ht, hz⟩ := I.tuple hs
    have hsz : (its.toArray.size : Int) < 2 ^ 63 := by
      rw [List.size_toArray, ← rv.length]
      exact Int.lt_of_le_of_lt (Int.ofNat_le.mpr hz) (by decide)
    by_cases hl : xs.length = is.length + 1
    · have hl2 : its.toArray.size = (Pattern.MatchValue (.Constant (.str lit) j p1) p2 :: ps).length := by
        rw [List.size_toArray, ← rv.length, hl, List.length_cons, e1]
      refine matchSeq_tuple_hit ht hsz hl2 ?_ st wl
      rw [← hl2]
      exact unpackItems_tuple hd ht fun h' hx => inner hl rv ((I.tok _).kept fun b o e => hx b o (Nat.ne_of_lt (Heap.lt_size e)) e)
    · exact matchSeq_tuple_miss ht hsz (by rw [List.size_toArray, ← rv.length, List.length_cons, e1]; exact hl) (miss hl (I.tok _)) st wl
  · obtain ⟨its, rv, pl, hz⟩ := I.list hs
    have ht : s.heap.IsList a its.toArray := by
      obtain ⟨o, m, e, c, d, q⟩ := pl
      exact ⟨o, e, c, m, q⟩
    have hsz : (its.toArray.size : Int) < 2 ^ 63 := by
      rw [List.size_toArray, ← rv.length]
      exact Int.lt_of_le_of_lt (Int.ofNat_le.mpr hz) (by decide)
    by_cases hl : xs.length = is.length + 1
    · have hl2 : its.toArray.size = (Pattern.MatchValue (.Constant (.str lit) j p1) p2 :: ps).length := by
        rw [List.size_toArray, ← rv.length, hl, List.length_cons, e1]
      refine matchSeq_list_hit ht hsz hl2 ?_ st wl
      rw [← hl2]
      exact PySem.W.kun_itemsOf hd ht fun h' hx => inner hl rv ((I.tok _).kept fun b o e => hx b o (Nat.ne_of_lt (Heap.lt_size e)) e)
    · exact matchSeq_list_miss ht hsz (by rw [List.size_toArray, ← rv.length, List.length_cons, e1]; exact hl) (miss hl (I.tok _)) st wl⟩
end
namespace SM
variable {μ β : Type}
def mtL (xs : List D) (lit : Str) (n : Nat) (hit : List D → SM μ β) (miss : SM μ β) : SM μ β := if xs.length = n + 1 then match xs with
  | .str w :: ys => if w = lit then hit ys else miss
  | _ => bad
  else miss
def mtC (d : D) (lit : Str) (n : Nat) (hit : List D → SM μ β) (miss : SM μ β) : SM μ β := match d with
  | .tuple xs => mtL xs lit n hit miss
  | .list xs => mtL xs lit n hit miss
  | _ => bad
def par1 (ds : List D) (k : D → SM μ β) : SM μ β := match ds with
  | [a] => k a
  | _ => bad
end SM
section
open SM
variable {X : Cx} {μ τ τ' ρ : Type} {G : Gx} {σ σ' : L2.St} {L : List (V × D)} {C Cp : μ → List Root} {t u : TS} {Jn : Shp μ τ} {Jl : Shp μ ρ} {v : V} {x d : D} {te : TE} {E : SM μ D} {i j n : Nat} {lit : Str} {miss : SM μ (Fl τ ρ)} {r : V → TS}
theorem sv_match {tm : V → TS} {k : D → SM μ (Fl τ ρ)} (hc : Sub Cp C) (h : EV G te σ L C E) (hk : ∀ v x, SV G Cp (tSeq (tm v) u) σ ((v, x) :: L) C (k x) Jn Jl) : SV G Cp (tSeq (tMch te tm) u) σ L C (bd E k) Jn Jl := by
  intro m F L' H d s w q1 q2 q3 q4 b
  refine h m F L' H _ s w (fun x m1 v H1 e1 w1 => ?_) (b.fst.subC hc)
  have er : bd E k m = k x m1 := bd_ok e1
  exact sv_more (t := tSeq (tm v) u) (L1 := [(v, x)]) (hk v x) s w1 (fun z2 m2 σ2 L3 C3 H2 e2 j2 w2 => q1 z2 m2 σ2 L3 C3 H2 (er.trans e2) j2 w2) (fun z2 m2 σ2 L3 C3 H2 e2 j2 w2 => q2 z2 m2 σ2 L3 C3 H2 (er.trans e2) j2 w2)
    (fun z2 m2 σ2 L3 C3 H2 e2 j2 w2 => q3 z2 m2 σ2 L3 C3 H2 (er.trans e2) j2 w2) (fun x m2 v H2 L4 C4 e2 r2 w2 => q4 x m2 v H2 L4 C4 (er.trans e2) r2 w2) (by rw [er] at b; exact b)
theorem sv_mcase {is : List Nat} {hit : List D → SM μ (Fl τ ρ)} (hm : (v, x) ∈ L) (hh : ∀ (vs : List V) (xs : List D), vs.length = is.length → xs.length = is.length → SV G Cp (tSeq t u) (bindS is vs σ) (vs.zip xs ++ L) C (hit xs) Jn Jl) (hr : SV G Cp (tSeq (r v) u) σ L C miss Jn Jl) :
    SV G Cp (tSeq (tCase G.K lit is t r v) u) σ L C (mtC x lit is.length hit miss) Jn Jl := by
  intro m F L' H d s w q1 q2 q3 q4 bk
  have go : ∀ {p : Addr} {us : List V} {xs : List D}, v = .ref p → (SqT G.K H p us ∨ SqL G.K H p us) → us.length = xs.length → Wd G.K G.O (us.zip xs ++ L') (C m ++ F) H → mtC x lit is.length hit miss = mtL xs lit is.length hit miss → tSeq (tCase G.K lit is t r v) u d σ H := by
    intro p us xs ev hs hlen w2 e
    rw [e] at bk q1 q2 q3 q4
    refine ⟨p, us, ev, hs, ?_⟩
    unfold mtL at bk q1 q2 q3 q4
    by_cases hl : us.length = is.length + 1
    · rw [if_pos hl]
      rw [if_pos (hlen ▸ hl)] at bk q1 q2 q3 q4
      cases us with
      | nil => cases hl
      | cons a us =>
       cases xs with
       | nil => cases hlen
       | cons y ys =>
        obtain ⟨B, wb⟩ := id w2
        have ha := wb.ft _ (.head _)
        cases y with
        | str z =>
          have : a = .str z := Dt.str_inv ha
          subst this
          refine ⟨z, us, rfl, ?_⟩
          simp only at bk q1 q2 q3 q4
          by_cases hz : z = lit
          · rw [if_pos hz]
            rw [if_pos hz] at bk q1 q2 q3 q4
            refine sv_more (t := tSeq t u) (L1 := us.zip ys) (hh us ys (Nat.succ.inj hl) ((Nat.succ.inj hlen).symm.trans (Nat.succ.inj hl))) s (w2.sub fun f hf => ?_) q1 q2 q3 q4 bk
            rcases List.mem_append.mp hf with e | e
            · exact .tail _ (List.mem_append_left _ e)
            · exact .tail _ (List.mem_append_right _ e)
          · rw [if_neg hz]
            rw [if_neg hz] at bk q1 q2 q3 q4
            exact hr m F L' H d s w q1 q2 q3 q4 bk
        | _ => exact absurd rfl bk.2
    · rw [if_neg hl]
      rw [if_neg (hlen ▸ hl)] at bk q1 q2 q3 q4
      exact hr m F L' H d s w q1 q2 q3 q4 bk
  cases x with
  | tuple xs =>
    obtain ⟨p, us, rfl, hs, hlen, w2⟩ := dt_parts w (s _ hm)
    exact go rfl (.inl hs) hlen w2 rfl
  | list xs =>
    obtain ⟨p, us, rfl, hs, hlen, w2⟩ := dt_partsL w (s _ hm)
    exact go rfl (.inr hs) hlen w2 rfl
  | _ => exact absurd rfl bk.2
theorem sv_mcase1 {k : D → SM μ (Fl τ ρ)} {σ' : V → L2.St} (hm : (v, x) ∈ L) (hσ : ∀ v1, σ.set i (some v1) = σ' v1) (hh : ∀ v1 a, SV G Cp (tSeq t u) (σ' v1) ((v1, a) :: L) C (k a) Jn Jl) (hr : SV G Cp (tSeq (r v) u) σ L C miss Jn Jl) : SV G Cp (tSeq (tCase G.K lit [i] t r v) u) σ L C (mtC x lit 1 (fun ys => par1 ys k) miss) Jn Jl :=
  sv_mcase (is := [i]) hm (fun vs xs hv hx => by
    match vs, xs, hv, hx with
    | [v1], [a], _, _ => show SV G Cp (tSeq t u) (σ.set i (some v1)) ((v1, a) :: L) C (k a) Jn Jl; rw [hσ]; exact hh v1 a) hr
theorem sv_mcase3 {l : Nat} {k : D → D → D → SM μ (Fl τ ρ)} {σ' : V → V → V → L2.St} (hm : (v, x) ∈ L) (hσ : ∀ v1 v2 v3, ((σ.set i (some v1)).set j (some v2)).set l (some v3) = σ' v1 v2 v3) (hh : ∀ v1 v2 v3 a b c, SV G Cp (tSeq t u) (σ' v1 v2 v3) ((v1, a) :: (v2, b) :: (v3, c) :: L) C (k a b c) Jn Jl) (hr : SV G Cp (tSeq (r v) u) σ L C miss Jn Jl) : SV G Cp (tSeq (tCase G.K lit [i, j, l] t r v) u) σ L C (mtC x lit 3 (fun ys => par3 ys k) miss) Jn Jl :=
  sv_mcase (is := [i, j, l]) hm (fun vs xs hv hx => by
    match vs, xs, hv, hx with
    | [v1, v2, v3], [a, b, c], _, _ => show SV G Cp (tSeq t u) (((σ.set i (some v1)).set j (some v2)).set l (some v3)) ((v1, a) :: (v2, b) :: (v3, c) :: L) C (k a b c) Jn Jl; rw [hσ]; exact hh v1 v2 v3 a b c) hr
end
namespace SM
variable {μ : Type}
open PySem.Spec
def signsD : D → Option (List D)
  | .str x => some (x.cps.toList.map fun c => .str ⟨#[c]⟩)
  | _ => none
def itTS (E : SM μ D) : SM μ (List D) := bd E fun d => of (signsD d)
def slcD (d : D) (lo hi : Option Int) : Option D := match d with
  | .str z => if z.length ≤ sizeLine then some (.str (cutS z lo hi)) else none
  | _ => none
def sliceT (E : SM μ D) (P1 P2 : SM μ (Option Int)) : SM μ D := bd E fun x => bd P1 fun l => bd P2 fun h => of (slcD x l h)
def ixtD : D → D → Option D
  | .str z, .int i => if z.length ≤ sizeLine then (atI z.cps.toList i).map fun c => .str ⟨#[c]⟩ else none
  | _, _ => none
def letD : D → D → Option D
  | .str a, .str b => some (.bool (!decide (b.cps.toList < a.cps.toList)))
  | _, _ => none
def strD : List D → Option D
  | [.int i] => if i.natAbs.log2 < 1920 then some (.str (toString i)) else none
  | _ => none
def tintD : List D → Option D
  | [.str a] => if a.length ≤ 640 then (PySem.intText? a).map PyData.int else none
  | _ => none
def splD : D → D → Option D
  | .str a, .str b => if (b.length == 0) = false ∧ a.length + 2 ≤ sizeLine then some (.list ((Txt.split a b).map .str)) else none
  | _, _ => none
/-- a method of a text, one argument -/
def mt1 (f : D → D → Option D) (E1 E2 : SM μ D) : SM μ D := bd E1 fun x => bd (of (strO x)) fun _ => bd E2 fun y => of (f x y)
end SM
section
open SM PySem PySem.Spec PyProof.Rows
variable {X : Cx} {μ τ ρ : Type} {G : Gx} {σ : L2.St} {L : List (V × D)} {C : μ → List Root} {te ta tb to : TE} {E E1 E2 : SM μ D}
theorem dt_strs {K : PySem.W.Frag} {B : Addr → Prop} {H : Hp} : ∀ ys : List Str, DtAll K B H (ys.map V.str) (ys.map PyData.str)
  | [] => .nil
  | y :: ys => .cons (.str y) (dt_strs ys)
theorem iv_txt (h : EV G te σ L C E) : IV G (iStr te) σ L C (itTS E) := by
  intro m F L' H R s w q b
  refine h m F L' H _ s w (fun x m1 v H1 e1 w1 => ?_) b.fst
  have b1 := b.snd e1
  cases x with
  | str x =>
    obtain ⟨B, hd⟩ := w1.dt (.head _)
    refine ⟨x, hd.str_inv, q _ m1 (Its x) H1 ((v, .str x) :: L') (by show bd E _ m = _; rw [bd_ok e1]; rfl) (fun f hf => .tail _ hf) w1 ?_⟩
    intro L2 C2 H2 s2 w2 i
    refine ⟨fun y hy => ?_, fun hi => ?_⟩
    · rw [List.getElem?_map] at hy
      cases e : x.cps.toList[i]? with
      | none => rw [e] at hy; cases hy
      | some c =>
        rw [e] at hy; cases hy
        have e' : x.cps[i]? = some c := by rw [← Array.getElem?_toList]; exact e
        refine ⟨(Array.getElem?_eq_some_iff.mp e').1, fun v H' y => ?_⟩
        obtain ⟨rfl, c', ec, rfl⟩ := y
        rw [e'] at ec; cases ec
        exact w2.fact fun _ _ => .str _
    · rw [List.length_map, Array.length_toList] at hi; exact hi
  | _ => exact absurd rfl b1.2
theorem ev_sliceT {tl th : TO} {P1 P2 : SM μ (Option Int)} (h : EV G te σ L C E) (h1 : PV tl σ L C G P1) (h2 : PV th σ L C G P2) : EV G (tSl rSlS te tl th) σ L C (sliceT E P1 P2) := by
  intro m F L' H Q s w q b
  refine h m F L' H _ s w (fun x m1 v H1 e1 w1 => ?_) b.fst
  have b1 := b.snd e1
  refine h1 m1 F ((v, x) :: L') H1 _ (fun f hf => .tail _ (s f hf)) w1 (fun lo m2 H2 e2 w2 => ?_) (b1.fst.mono fun f hf => .tail _ hf)
  have b2 := b1.snd e2
  refine h2 m2 F ((v, x) :: L') H2 _ (fun f hf => .tail _ (s f hf)) w2 (fun hi m3 H3 e3 w3 => ?_) (b2.fst.mono fun f hf => .tail _ hf)
  have b3 := b2.snd e3
  have er : sliceT E P1 P2 m = of (slcD x lo hi) m3 := by
    show bd E _ m = _
    rw [bd_ok e1, bd_ok e2, bd_ok e3]
  cases x with
  | str z =>
    obtain ⟨B, hd⟩ := w3.dt (.head _)
    by_cases c : z.length ≤ sizeLine
    · refine ⟨z, hd.str_inv, c, q (.str (cutS z lo hi)) m3 (.str (cutS z lo hi)) H3 (by rw [er, show slcD (.str z) lo hi = some (.str (cutS z lo hi)) from if_pos c]; rfl) ((w3.sub fun f hf => .tail _ hf).fact fun _ _ => .str _)⟩
    · have : slcD (.str z) lo hi = none := if_neg c
      rw [this] at b3
      exact absurd rfl b3.2
  | _ => exact absurd rfl b3.2
theorem os_ixt : OpS G rIxS ixtD := by
  intro L C H x y d e z Q w hx hy ez q
  unfold ixtD at ez
  split at ez
  · next t i =>
    split at ez
    · next c =>
      cases ea : atI t.cps.toList i with
      | none => rw [ea] at ez; cases ez
      | some k =>
        rw [ea] at ez; cases ez
        obtain ⟨B, h1⟩ := w.dt hx
        obtain ⟨B2, h2⟩ := w.dt hy
        exact ⟨t, i, k, h1.str_inv, h2.int_inv, c, ea, q _ _ (w.fact fun _ _ => .str _)⟩
    · cases ez
  · cases ez
theorem os_let : OpS G (fun x y H Q => ∃ i j, x = .str i ∧ y = .str j ∧ Q (.bl (!decide (j.cps.toList < i.cps.toList))) H) letD := by
  intro L C H x y d e z Q w hx hy ez q
  unfold letD at ez
  split at ez
  · next a b =>
    cases ez
    obtain ⟨B, h1⟩ := w.dt hx
    obtain ⟨B2, h2⟩ := w.dt hy
    exact ⟨a, b, h1.str_inv, h2.str_inv, q _ _ (w.fact fun _ _ => .bl _)⟩
  · cases ez
theorem cs_str : CallS G (fun xs H Q => ∃ i : Int, xs = [.int i] ∧ i.natAbs.log2 < 1920 ∧ Q (.str (toString i)) H) strD := by
  intro L C H xs ds z Q w i e q
  unfold strD at e
  split at e
  · next k =>
    split at e
    · next c =>
      cases e
      obtain ⟨x, rfl, hx⟩ := i.one
      obtain ⟨B, hd⟩ := w.dt hx
      exact ⟨k, by rw [hd.int_inv], c, q _ _ (w.fact fun _ _ => .str _)⟩
    · cases e
  · cases e
theorem cs_tint : CallS G (fun xs H Q => ∃ a n, xs = [.str a] ∧ PySem.intText? a = some n ∧ a.length ≤ 640 ∧ Q (.int n) H) tintD := by
  intro L C H xs ds z Q w i e q
  unfold tintD at e
  split at e
  · next a =>
    split at e
    · next c =>
      cases en : PySem.intText? a with
      | none => rw [en] at e; cases e
      | some n =>
        rw [en] at e; cases e
        obtain ⟨x, rfl, hx⟩ := i.one
        obtain ⟨B, hd⟩ := w.dt hx
        exact ⟨a, n, by rw [hd.str_inv], en, c, q _ _ (w.fact fun _ _ => .int _)⟩
    · cases e
  · cases e
/-- a text's method of one argument -/
def M1S (G : Gx) (r : V → List V → Hp → VK → Prop) (f : D → D → Option D) : Prop := ∀ (L : List (V × D)) (C : List Root) (H : Hp) (x y : V) (d e z : D) (Q : VK),
  Wd G.K G.O L C H → (x, d) ∈ L → (y, e) ∈ L → f d e = some z → (∀ v H', Wd G.K G.O ((v, z) :: L) C H' → Q v H') → r x [y] H Q
theorem ev_m1 {r : V → List V → Hp → VK → Prop} {f : D → D → Option D} (hf : M1S G r f) (h1 : EV G to σ L C E1) (h2 : EV G te σ L C E2) : EV G (tM1 r to te) σ L C (mt1 f E1 E2) := by
  intro m F L' H Q s w q b
  refine h1 m F L' H _ s w (fun x m1 v H1 e1 w1 => ?_) b.fst
  have b1 := b.snd e1
  cases x with
  | str a =>
    obtain ⟨B, hd⟩ := w1.dt (.head _)
    have er1 : mt1 f E1 E2 m = bd E2 (fun y => of (f (.str a) y)) m1 := bd_ok e1
    have b1' : Bk G C F L' (bd E2 (fun y => of (f (.str a) y)) m1) := b1
    refine ⟨⟨a, hd.str_inv⟩, h2 m1 F ((v, .str a) :: L') H1 _ (fun f hf => .tail _ (s f hf)) w1 (fun y m2 u H2 e2 w2 => ?_) (b1'.fst.mono fun f hf => .tail _ hf)⟩
    have b2 := b1'.snd e2
    cases ef : f (.str a) y with
    | none => rw [ef] at b2; exact absurd rfl b2.2
    | some z =>
      have er2 : mt1 f E1 E2 m = .ok z m2 := by rw [er1, bd_ok e2, ef]; rfl
      refine hf _ _ H2 v u (.str a) y z Q w2 (.tail _ (.head _)) (.head _) ef fun v' H' w' => q z m2 v' H' er2 (w'.sub fun f hf => ?_)
      rcases List.mem_cons.mp hf with e | e
      · rw [e]; exact .head _
      · exact .tail _ (.tail _ (.tail _ e))
  | _ => exact absurd rfl b1.2
theorem ms_split : M1S G (fun x xs H Q => ∃ a b, x = .str a ∧ xs = [.str b] ∧ (b.length == 0) = false ∧ a.length + 2 ≤ sizeLine ∧ rNewStrs (Txt.split a b) H Q) splD := by
  intro L C H x y d e z Q w hx hy ez q
  unfold splD at ez
  split at ez
  · next a b =>
    split at ez
    · next c =>
      cases ez
      obtain ⟨B, h1⟩ := w.dt hx
      obtain ⟨B2, h2⟩ := w.dt hy
      exact ⟨a, b, h1.str_inv, by rw [h2.str_inv], c.1, c.2, fun p hp => q _ _ (w.new hp fun B f b => .lst ⟨b, upd_same⟩ (dt_strs _))⟩
    · cases ez
  · cases ez
end
namespace SM
variable {μ : Type}
def keyP : D → Option Key
  | .int i => some (.inl i)
  | .str x => some (.inr x)
  | _ => none
def unDk1 : List (D × D) → Option (List (Key × D))
  | [] => some []
  | (k, d) :: r => match keyP k, unDk1 r with
    | some k, some r => some ((k, d) :: r)
    | _, _ => none
def unDk : D → Option (List (Key × D))
  | .dict es => unDk1 es
  | _ => none
def lookK (es : List (Key × D)) (k : Key) : Option D := (es.find? fun kv => decide (kv.1 = k)).map (·.2)
def putKD (es : List (Key × D)) (k : Key) (d : D) : List (Key × D) := if (es.any fun kv => decide (kv.1 = k)) = true then es.map (fun kv => if kv.1 = k then (kv.1, d) else kv) else es ++ [(k, d)]
def ixK (x r : D) : Option D := match keyP x, unDk r with
  | some k, some es => lookK es k
  | _, _ => none
end SM
section
open SM
variable {X : Cx} {μ : Type} {G : Gx} {σ : St} {L : List (V × D)} {C Z : μ → List Root} {tk tv td ty : TE} {tt : TT} {i j n : Nat} {E E1 : SM μ D}
theorem keyP_kD (k : Key) : keyP (kD k) = some k := by cases k <;> rfl
theorem keyP_inv {x : D} {k : Key} (h : keyP x = some k) : x = kD k := by
  unfold keyP at h
  split at h <;> cases h <;> rfl
theorem unDk_dcK : ∀ es : List (Key × D), unDk (dcK es) = some es := by
  intro es
  show unDk1 (es.map fun e => (kD e.1, e.2)) = some es
  induction es with
  | nil => rfl
  | cons e es ih => rw [List.map_cons]; unfold unDk1; rw [keyP_kD, ih]
theorem dt_key {K : PySem.W.Frag} {B : Addr → Prop} {H : Hp} {v : V} {k : Key} (h : Dt K B H v (kD k)) : v = kV k := by
  cases k with
  | inl i => exact h.int_inv
  | inr x => exact h.str_inv
section
variable {K : PySem.W.Frag} {B : Addr → Prop} {H : Hp} {vs : List (Key × V)} {es : List (Key × D)}
theorem KvZ.len (h : KvZ K B H vs es) : vs.length = es.length := by
  induction h with
  | nil => rfl
  | cons _ _ ih => exact congrArg (· + 1) ih
theorem KvZ.lookK (h : KvZ K B H vs es) (k : Key) : (valV vs k = none ∧ SM.lookK es k = none) ∨ ∃ v d, valV vs k = some v ∧ SM.lookK es k = some d ∧ Dt K B H v d := by
  induction h with
  | nil => exact .inl ⟨rfl, rfl⟩
  | @cons k' v d vs es a _ ih =>
    unfold valV SM.lookK at ih ⊢
    by_cases e : k' = k
    · refine .inr ⟨v, d, ?_, ?_, a⟩
      · rw [List.find?_cons_of_pos (by simpa using e)]; rfl
      · rw [List.find?_cons_of_pos (by simpa using e)]; rfl
    · rw [List.find?_cons_of_neg (by simpa using e), List.find?_cons_of_neg (by simpa using e)]
      exact ih
theorem KvZ.keys (h : KvZ K B H vs es) (k : Key) : (vs.any fun kv => decide (kv.1 = k)) = (es.any fun kv => decide (kv.1 = k)) := by
  induction h with
  | nil => rfl
  | cons _ _ ih => rw [List.any_cons, List.any_cons, ih]
theorem KvZ.app {v : V} {d : D} {k : Key} (h : KvZ K B H vs es) (a : Dt K B H v d) : KvZ K B H (vs ++ [(k, v)]) (es ++ [(k, d)]) := by
  induction h with
  | nil => exact .cons a .nil
  | cons b _ ih => exact .cons b ih
theorem KvZ.sub {v : V} {d : D} {k : Key} (h : KvZ K B H vs es) (a : Dt K B H v d) : KvZ K B H (vs.map fun kv => if kv.1 = k then (kv.1, v) else kv) (es.map fun kv => if kv.1 = k then (kv.1, d) else kv) := by
  induction h with
  | nil => exact .nil
  | @cons k' v' d' vs es b _ ih =>
    rw [List.map_cons, List.map_cons]
    by_cases e : k' = k
    · rw [if_pos e, if_pos e]; exact .cons a ih
    · rw [if_neg e, if_neg e]; exact .cons b ih
theorem KvZ.put {v : V} {d : D} {k : Key} (h : KvZ K B H vs es) (a : Dt K B H v d) : KvZ K B H (putK vs k v) (putKD es k d) := by
  unfold putK putKD
  rw [h.keys k]
  by_cases e : (es.any fun kv => decide (kv.1 = k)) = true
  · rw [if_pos e, if_pos e]; exact h.sub a
  · rw [if_neg e, if_neg e]; exact h.app a
theorem own_dk {v : V} {d : D} {f : List Addr} (h : Own K B H .dk v d f) : ∃ a kvs es, v = .ref a ∧ d = dcK es ∧ f = [a] ∧ H a = some (.dK kvs) ∧ KvZ K B H kvs es := by
  cases h with
  | dk a b => exact ⟨_, _, _, rfl, rfl, rfl, a, b⟩
end
section
variable {K : PySem.W.Frag} {O : Og} {L : List (V × D)} {Z : List Root} {H : Hp} {N : Addr → Prop} {v : V}
theorem Wd.dkF {d : D} (w : Wd K O L (rootF K .dk v d :: Z) H) : ∃ B a kvs es, Wb K O B L (rootF K .dk v d :: Z) H ∧ v = .ref a ∧ d = dcK es ∧ H a = some (.dK kvs) ∧ KvZ K B H kvs es := by
  obtain ⟨B, wb⟩ := w
  obtain ⟨f, ho, _⟩ := wb.rt _ (.head _)
  obtain ⟨a, kvs, es, rfl, rfl, rfl, h, z⟩ := own_dk ho
  exact ⟨B, a, kvs, es, wb, rfl, rfl, h, z⟩
end
theorem ev_dkixF (h : PF G td σ L C .dk E) (h1 : EV G ty σ L C E1) : EV G (tDGet td ty) σ L C (bd E fun r => bd E1 fun x => of (ixK x r)) := by
  intro m F L' H Q s w q b
  refine h m F L' H _ s w (fun r m1 v H1 e1 w1 => ?_) b.fst
  have b1 := b.snd e1
  refine h1 m1 (rootF G.K .dk v r :: F) L' H1 _ s (w1.perm List.perm_middle.symm) (fun x m2 vx H2 e2 w2 => ?_) b1.fst.addF
  have b2 := b1.snd e2
  have w3 := w2.perm (C' := rootF G.K .dk v r :: (C m2 ++ F)) List.perm_middle
  obtain ⟨B, a, kvs, es, wb, rfl, rfl, hat, kz⟩ := Wd.dkF w3
  have er : (bd E fun r => bd E1 fun x => of (ixK x r)) m = of (ixK x (dcK es)) m2 := by rw [bd_ok e1, bd_ok e2]
  cases hk : keyP x with
  | none =>
    refine absurd ?_ b2.2
    show (of (ixK x (dcK es)) : SM μ D) m2 = .bad
    unfold ixK; rw [hk]; rfl
  | some k =>
    have hx := keyP_inv hk
    subst hx
    have hvx : vx = kV k := dt_key (wb.ft _ (.head _))
    rcases kz.lookK k with ⟨_, e9⟩ | ⟨v9, d9, e8, e9, hd⟩
    · refine absurd ?_ b2.2
      show (of (ixK (kD k) (dcK es)) : SM μ D) m2 = .bad
      unfold ixK; rw [hk, unDk_dcK]
      show (of (SM.lookK es k) : SM μ D) m2 = .bad
      rw [e9]; rfl
    · refine ⟨a, v9, rfl, ?_, ?_⟩
      · rw [hvx, ← e8]; exact DGet.k hat
      have w4 : Wd G.K G.O ((v9, d9) :: (vx, kD k) :: L') (rootF G.K .dk (.ref a) (dcK es) :: (C m2 ++ F)) H2 := ⟨B, wb.fact hd⟩
      refine q d9 m2 v9 H2 ?_ ((Wd.subC (C' := C m2 ++ F) w4 (List.sublist_cons_self _ _)).sub fun f hf => (List.mem_cons.mp hf).elim (fun e => by rw [e]; exact .head _) fun h => .tail _ (.tail _ h))
      rw [er]
      unfold ixK; rw [hk, unDk_dcK]
      show (of (SM.lookK es k) : SM μ D) m2 = _
      rw [e9]; rfl
end
section
open SM
variable {K : PySem.W.Frag} {O : Og} {L : List (V × D)} {Z : List Root} {H : Hp} {N : Addr → Prop} {t : Ty} {v : V} {d : D}
theorem Wd.opNon (w : Wd K O L Z H) : Wd K O L (rootS K N (.op t) .non .none :: Z) H := by
  refine Wd.imp (C := []) w fun B hf _ => ⟨[rootS K N (.op t) .non .none], ?_, fun c hc => ?_, fun w' => w'⟩
  · rw [fps_one, rootS_fp (Own.non (K := K) (B := B) (H := H) (t := t))]; exact .refl _
  · rw [mem1 hc]; exact ⟨[], .non, fun q hq => by cases hq⟩
theorem Wd.opSom (w : Wd K O L (rootS K N (.op t) v d :: Z) H) (hd : d ≠ .none) : Wd K O L (rootS K N t v d :: Z) H := by
  refine Wd.imp (C := [rootS K N (.op t) v d]) w fun B _ hr => ?_
  obtain ⟨f, ho, hn⟩ := hr _ (.head _)
  have ho0 := ho
  cases ho with
  | non => exact absurd rfl hd
  | som ho => exact ⟨[rootS K N t v d], by rw [fps_one, fps_one, rootS_fp ho0, rootS_fp ho], fun c hc => by rw [mem1 hc]; exact ⟨f, ho, hn⟩, fun w' => w'⟩
theorem Wd.tp2 (w : Wd K O L (rootS K N (.tp [t, .fr]) v d :: Z) H) : ∃ p x y vx vy, v = .ref p ∧ d = .tuple [x, y] ∧ SqT K H p [vx, vy] ∧ Wd K O ((vy, y) :: L) (rootS K N t vx x :: Z) H := by
  obtain ⟨B, wb⟩ := w
  obtain ⟨f, ho, hn⟩ := wb.rt _ (.head _)
  have ho0 := ho
  cases ho with
  | tp hp hz =>
    cases hz with
    | cons h1 hz =>
      cases hz with
      | cons h2 hz =>
        cases hz with
        | nil =>
          cases h2 with
          | fr h2 =>
            refine ⟨_, _, _, _, _, rfl, rfl, hp.sq, Wd.imp (C := [rootS K N (.tp [t, .fr]) _ _]) (Z := Z) ⟨B, wb.fact h2⟩ fun B' _ hr => ?_⟩
            obtain ⟨f', ho', hn'⟩ := hr _ (.head _)
            have ho1 := ho'
            cases ho' with
            | tp hp' hz' =>
              have ee := hp.2.symm.trans hp'.2
              cases ee
              cases hz' with
              | cons h1' hz' =>
                cases hz' with
                | cons h2' hz' =>
                  cases hz' with
                  | nil =>
                    cases h2' with
                    | fr h2' =>
                      exact ⟨[rootS K N t _ _], by rw [fps_one, fps_one, rootS_fp ho1, rootS_fp h1', List.append_nil, List.append_nil], fun c hc => by rw [mem1 hc]; exact ⟨_, h1', fun q hq => hn' q (List.mem_append_left _ hq)⟩, fun w' => w'⟩
end
namespace SM
variable {μ : Type}
/-- a tree that is there -/
def thr (get : μ → D) : SM μ Unit := fun m => match get m with
  | .none => .bad
  | _ => .ok () m
end SM
section
open SM
variable {X : Cx} {μ τ ρ : Type} {G : Gx} {σ : St} {L : List (V × D)} {C C1 C2 Cp : μ → List Root} {te : TE} {s0 : TS} {E : SM μ D} {Jn : Shp μ τ} {Jl : Shp μ ρ} {i j : Nat} {t : Ty} {N : Addr → Prop} {get : μ → D} {put : D → μ → μ} {v : V}
theorem fts_non : FTs G N (tC .non) σ L C C (.op t) (pu .none) := fun m F L' H Q s w q b => q .none m .non H rfl (Wd.opNon w)
theorem sv_thr {R : SM μ (Fl τ ρ)} {Z : μ → List Root} (hC : ∀ m, (C m).Perm (rootS G.K N (.op t) v (get m) :: Z m)) (hC2 : ∀ m, (rootS G.K N t v (get m) :: Z m).Perm (C2 m)) (h : SV G Cp s0 σ L C2 R Jn Jl) : SV G Cp s0 σ L C (bd (thr get) fun _ => R) Jn Jl := by
  intro m F L' H e s w q1 q2 q3 q4 bk
  have hn : get m ≠ .none := fun z => by
    refine bk.2 ?_
    show (bd (thr get) fun _ => R) m = .bad
    unfold bd thr
    rw [z]
  have er : (bd (thr get) fun _ => R) m = R m := by
    unfold bd thr
    split
    · next e => split at e <;> first | cases e; rfl | cases e
    · next e => split at e <;> cases e
    · next e =>
      split at e
      · next z => exact absurd z hn
      · cases e
  have w2 := ((Wd.opSom (w.perm ((hC m).append_right F)) hn).perm ((hC2 m).append_right F))
  exact h m F L' H e s w2 (fun a b c d e f g => q1 a b c d e f (er.trans g)) (fun a b c d e f g => q2 a b c d e f (er.trans g)) (fun a b c d e f g => q3 a b c d e f (er.trans g)) (fun a b c d e f g => q4 a b c d e f (er.trans g)) (by rw [er] at bk; exact bk)
/-- a, b = f(..), of a tree and plain data -/
theorem sv_unpTF {σ' : V → V → St} {C2 : V → μ → List Root} {k : D → SM μ (Fl τ ρ)} (hz : Sub Cp C1) (h : FTs G N te σ L C C1 (.tp [t, .fr]) E) (hσ : ∀ v u, (σ.set i (some v)).set j (some u) = σ' v u) (hC' : ∀ v x m, (rootS G.K N t v x :: C1 m).Perm (C2 v (put x m)))
    (hk : ∀ v u y, SV G Cp s0 (σ' v u) ((u, y) :: L) (C2 v) (k y) Jn Jl) : SV G Cp (tSeq (tAsg te (gTup G.K 2 (gCons (gName i) (gCons (gName j) gNil)))) s0) σ L C (bd (bd E fun z => unp2 z fun x y => bd (putG put x) fun _ => pu y) k) Jn Jl :=
  sv_bd1 fun m F L' H e s w q b => h m F L' H _ s w (fun z m1 v H1 e1 w1 => by
    obtain ⟨p, x, y, vx, vy, rfl, rfl, hs, w2⟩ := Wd.tp2 w1
    refine ⟨p, [vx, vy], rfl, hs, rfl, vx, [vy], rfl, vy, [], rfl, rfl, ?_⟩
    show s0 e ((σ.set i (some vx)).set j (some vy)) H1
    rw [hσ]
    refine q y (put x m1) (σ' vx vy) [(vy, y)] (C2 vx) H1 ?_ ((w2.perm ((hC' vx x m1).append_right F)).sub fun f hf => hf) (hk vx vy y)
    rw [bd_ok e1]; rfl) (b.fst.subC hz)
/-- a tree in the place of another one, which stands until the new one is made -/
theorem sv_asgSd {C3 : μ → List Root} {C2' : V → μ → List Root} {σ' : V → St} {k : SM μ (Fl τ ρ)} (hz : Sub Cp C1) (hd : Sub C3 C1) (h : FTs G N te σ L C C1 t E) (hσ : ∀ v, σ.set i (some v) = σ' v) (hC' : ∀ v x m, (rootS G.K N t v x :: C3 m).Perm (C2' v (put x m))) (hk : ∀ v, SV G Cp s0 (σ' v) L (C2' v) k Jn Jl) : SV G Cp (tSeq (tAsg te (gName i)) s0) σ L C (bd (bd E fun x => putG put x) fun _ => k) Jn Jl :=
  sv_bd1 fun m F L' H e s w q b => h m F L' H _ s w (fun x m1 v H1 e1 w1 => by
    show s0 e (σ.set i (some v)) H1
    rw [hσ v]
    refine q () (put x m1) (σ' v) [] (C2' v) H1 ?_ ((w1.subC (List.Sublist.cons₂ _ ((hd m1).append_right F))).perm ((hC' v x m1).append_right F)) (hk v)
    rw [bd_ok e1]; rfl) (b.fst.subC hz)
end
namespace SM
variable {μ : Type}
instance pr_eif {T : SM μ Bool} {A B : SM μ D} [h : Pr T] [h1 : Pr A] [h2 : Pr B] : Pr (eif T A B) := ⟨fun m x m' e => by
  have : Pr (bd T fun c => if c then A else B) := pr_bd (g := fun c => by cases c <;> first | exact h1 | exact h2)
  exact this.pr m x m' e⟩
instance pr_tb {E : SM μ D} [h : Pr E] : Pr (SM.tb E) := pr_bd
instance pr_tr {E : SM μ D} [h : Pr E] : Pr (SM.tr E) := pr_bd
instance pr_itS {E : SM μ D} [h : Pr E] : Pr (itS E) := pr_bd
instance pr_itTS {E : SM μ D} [h : Pr E] : Pr (itTS E) := pr_bd
instance pr_itR {E : SM μ (List D)} [h : Pr E] : Pr (itR E) := pr_bd
theorem pr_bad {α : Type} : Pr (bad : SM μ α) := ⟨fun m x m' e => by cases e⟩
theorem pr_lcS {T : D → SM μ Bool} {E : D → SM μ D} (h : ∀ x, Pr (T x)) (h1 : ∀ x, Pr (E x)) : ∀ (xs acc : List D), Pr (lcS T E xs acc)
  | [], acc => pr_pu acc
  | x :: xs, acc => by
    have h0 := h x
    have h2 := h1 x
    unfold lcS
    refine pr_bd (g := fun c => ?_)
    cases c with
    | true =>
      refine pr_bd (g := fun y => ?_)
      by_cases q : acc.length < sizeLine
      · simp only [if_pos q]; exact pr_lcS h h1 xs (acc ++ [y])
      · simp only [if_neg q]; exact pr_bad
    | false => exact pr_lcS h h1 xs acc
instance pr_lc {I : SM μ (List D)} {T : D → SM μ Bool} {E : D → SM μ D} [h0 : Pr I] [h : ∀ x, Pr (T x)] [h1 : ∀ x, Pr (E x)] : Pr (lc I T E) := pr_bd (g := fun xs => pr_bd (h := pr_lcS h h1 xs []))
end SM
section
open PySem PySem.Spec PyProof.Rows HotX L2H
theorem noteFrame_congr {x : Value} {e e' : Env} (h : e.frame = e'.frame) : noteFrame x e = noteFrame x e' := by
  unfold noteFrame PySem.frameOf
  rw [h]
theorem ff_at {h h' B B3 : Heap} {C : Addr} (hC : ∃ o, B.get? C = some o) (e1 : ∀ b, b ≠ C → h'.get? b = h.get? b) (e2 : ∀ b, b ≠ C → B3.get? b = B.get? b) : ∀ {l : List Env}, h.FunFrames B l → h'.FunFrames B3 l := by
  intro l
  induction l with
  | nil => exact fun _ => trivial
  | cons env rest ih =>
    rintro ⟨hk, ⟨L, o, hf, hn, ho, hd⟩, hr⟩
    have hne : L ≠ C := fun z => by
      obtain ⟨o2, e⟩ := hC
      rw [z, e] at hn; cases hn
    exact ⟨hk, ⟨L, o, hf, by rw [e2 L hne]; exact hn, by rw [e1 L hne]; exact ho, hd⟩, ih hr⟩
variable {X : Cx} {pins : List (Addr × Obj)} {σ : L2.St} {H3 : Hp} {s3 : Shared}
theorem lc_air {scope : Scope} {ce : Env} {fp : List Addr} {W0 : WX} {Wk : XK} (hs0 : X.stack = X.env :: X.outer) (hf0 : X.env.frame = some X.env.locals) (tk : L2N.Takes X W0) (hW : ∀ c d σ H, Wk c d H → W0 c d σ H) (I3 : Inv X pins σ H3 s3)
    (hch : ∀ b ∈ fp, (b ∈ X.ex ∨ X.s_0.heap.objs.size ≤ b) ∧ b ≠ X.env.locals ∧ (∀ x c, X.env.cells.lookup x = some c → c ≠ b) ∧ ∀ p ∈ X.pn ++ pins, p.1 ≠ b) (cL : ce.locals = s3.heap.objs.size) (cF : ce.frame = X.env.frame) {E : XK} (hE : ∀ c d H', E c d H' → Wk c d H') :
    Passes (L2N.CX X.prog X.w) ((X.blk s3 H3 scope ce fp).wish (notedBy (model X.prog X.w) X.A ce (CompFails (model X.prog X.w) X.A X.xe ce))) E := by
  intro pins' σ' H' s e s'' I' c
  obtain ⟨a0, B0, _, cls0, d0, ea0, fl0, _, _, _, _, _, _⟩ := id c
  obtain ⟨a, B, sI, pins2, σ2, H2, cls, d, ea, I2, nb, up, sky, na, os, ag, w⟩ := L2N.XE.of_call (W := fun c d _ H => Wk c d H) I' (fun c d H' h => hE c d H' h) c
  rw [ea] at ea0
  injection ea0 with haa
  subst haa
  subst ea
  have I7 : Inv X pins σ H2 sI := I3.call' (ch := fp) I2.os I2.base I2.hok I2.bare hch
  have nC : H2 s3.heap.objs.size = none := by
    have z : H2 ce.locals = none := I2.free
    rw [cL] at z
    exact z
  have fC := I3.fpOk (Nat.le_refl _) nC
  rw [← cL] at fC
  obtain ⟨m, hn, _⟩ := I2.loc
  have hn : sI.heap.Ns ce.locals m := hn
  obtain ⟨oe0, vs0, T0, oT0, ts0, he0, hz0, hd0, h10, _, _, hT0, hdT0, h30⟩ := fl0.2.2.2
  have fl : HandSPX.FlyingZ B (X.env :: X.outer) a (L2N.Zn cls d) s''.heap := by
    have sky : Sky B X.stack a (L2N.Zn cls d) ce.locals s''.heap := sky
    rw [hs0] at sky
    rcases sky with ⟨_, _, _, oe, vs, he, _, hd, h1⟩ | h | ⟨_, _, _, oe, vs, T, oT, ts, he, _, hd, h1, _, _, hT, hdT, h3⟩
    · rw [he0] at he; cases he
      rw [hd0] at hd; cases hd
      rw [h10] at h1; cases h1
    · exact h
    · rw [he0] at he; cases he
      rw [hd0] at hd; cases hd
      rw [h10] at h1; cases h1
      rw [hT0] at hT; cases hT
      rw [hdT0] at hdT; cases hdT
      rw [h30] at h3; cases h3
  have hfr : X.A.frames = some (X.env :: X.outer) := by rw [I7.ok.frames, hs0]
  show wpAny (model X.prog X.w) X.A (noteFrame (.ref a) ce) (fun _ s4 => CompFails (model X.prog X.w) X.A X.xe ce (.ref a) s4) _ s''
  rw [noteFrame_congr cF]
  refine PXN.looks_onZ L2N.Zn.steady hfr hf0 fl fun h3 held up3 => ⟨m, (up.trans up3).ns hn, fun h' m' hn' sb => ?_⟩
  obtain ⟨kb, ka, kf, oe, vs, T, oT, ts, he, hz, hd, h1, hnT, hTe, hT, hdT, h3v⟩ := held
  -- the block's names were let go: C stands anew
  obtain ⟨oC, hoC⟩ : ∃ o, sI.heap.get? ce.locals = some o := let ⟨o, _, _, e, _⟩ := hn; ⟨o, e⟩
  obtain ⟨oC', hoC', hdC'⟩ : ∃ o, h'.get? ce.locals = some o ∧ o.isFreed = false := by
    obtain ⟨o, es, ep, e, hd', _⟩ := hn'
    refine ⟨o, e, ?_⟩
    cases o with
    | mk c d' dt sl => cases hd'; rfl
  have nfr : ce.locals ∉ frs X.stack := fun z => by
    rw [hs0] at z
    have z2 : ce.locals ∈ (X.env.frame.toList ++ frs X.outer) := by
      have : frs (X.env :: X.outer) = X.env.frame.toList ++ frs X.outer := by unfold frs; rw [hf0]; simp [hf0]
      rw [this] at z; exact z
    rw [hf0] at z2
    rcases List.mem_append.mp z2 with z | z
    · exact fC.2.1 (List.mem_singleton.mp z)
    · exact fC.2.2.1 z
  have hBC : B.get? ce.locals = some oC := nb _ _ hoC nfr
  have neC : ∀ b, B.get? b = none → b ≠ ce.locals := fun b hb z => by rw [z, hBC] at hb; cases hb
  let B3 : Heap := B.update ce.locals fun _ => oC'
  let hI : Heap := sI.heap.update ce.locals fun _ => oC'
  have b3C : B3.get? ce.locals = some oC' := Heap.get?_update_self _ hBC hdC'
  have b3N : ∀ b, b ≠ ce.locals → B3.get? b = B.get? b := fun b hb => Heap.get?_update_other _ _ (Ne.symm hb)
  have hIC : hI.get? ce.locals = some oC' := Heap.get?_update_self _ hoC hdC'
  have hIN : ∀ b, b ≠ ce.locals → hI.get? b = sI.heap.get? b := fun b hb => Heap.get?_update_other _ _ (Ne.symm hb)
  have I8 : Inv X pins σ H2 { sI with heap := hI, toks := sI.toks } := I7.turned (fun b o hb e => (hIN b hb).trans e) fC.1 fC.2.1 fC.2.2.2.1 fC.2.2.2.2.1 fC.2.2.2.2.2
  have he' : h'.get? a = some oe := (sb.2 a (neC a ka)).trans he
  have hT' : h'.get? T = some oT := (sb.2 T (neC T hnT)).trans hT
  have kb3 : B3.StaysIn h' := fun b o e => by
    by_cases z : b = ce.locals
    · rw [z] at e ⊢
      rw [b3C] at e; cases e
      exact hoC'
    · rw [b3N b z] at e
      exact (sb.2 b z).trans (kb b o e)
  have ka3 : B3.get? a = none := (b3N a (neC a ka)).trans ka
  have kf3 : h'.FunFrames B3 (X.env :: X.outer) := ff_at ⟨_, hBC⟩ (fun b hb => sb.2 b hb) b3N kf
  have tz : HandSPX.TracedZ h' B3 a (L2N.Zn cls d) (rawInt X.env.locals) := ⟨oe, vs, T, oT, ts, he', hz, hd, h1, (b3N T (neC T hnT)).trans hnT, hTe, hT', hdT, h3v⟩
  have upI : hI.UpToSlots h' := fun b o e hnf => by
    by_cases z : b = ce.locals
    · rw [z] at e ⊢
      rw [hIC] at e; cases e
      exact ⟨oC'.slots, hoC'⟩
    · rw [hIN b z] at e
      obtain ⟨sl, q⟩ := (up.trans up3) b o e hnf
      exact ⟨sl, (sb.2 b z).trans q⟩
  unfold PySem.passOn
  refine wpAny_bind (wpAny_field (s := { s'' with heap := h' }) he' hd h1 ?_)
  rw [if_neg (show ¬ ((Value.ref T == Value.none) = true) from by simp)]
  have out : wpAny (model X.prog X.w) X.A (setFlight (.ref a) ce.frame) (fun _ s4 => wpAny (model X.prog X.w) X.A (throw (.ref a) : Sem Value) (fun _ _ => False) X.xe s4) X.xe { s'' with heap := h' } := by
    rw [cF, hf0]
    refine HandSPX.setFlight_anyZ (fr := some X.env.locals) kb3 kf3 tz fun h4 k1 k2 k3 k4 => wpAny_throw (tk _ _ ?_)
    refine ⟨a, B3, { sI with heap := hI, toks := sI.toks }, pins, σ, H2, cls, d, rfl, I8, fun b o e hb => ?_, upI.trans k4, .inr (.inr ?_), na, os, ag, hW _ _ _ _ w⟩
    · by_cases z : b = ce.locals
      · rw [z] at e ⊢
        have e : hI.get? ce.locals = some o := e
        rw [hIC] at e; cases e
        exact b3C
      · have e : hI.get? b = some o := e
        rw [hIN b z] at e
        rw [b3N b z]
        exact nb b o e hb
    · rw [hs0]; exact ⟨k1, ka3, k2, k3⟩
  first
    | exact wpAny_bind (wpAny_pure (wpAny_bind out))
    | exact wpAny_bind out
/-- [elt for target in iter if ..], the element may raise -/
theorem pe_lcX {elt tg iter : Expr} {ifs : List Expr} {scope : Scope} {own : List (Str × Nat)} {pos : Pos} {wi : TI} {g : TG} {tt : TT} {te : TE} {W0 : WX} {Wk : XK} (hs0 : X.stack = X.env :: X.outer) (hf0 : X.env.frame = some X.env.locals) (tk : L2N.Takes X W0) (hW : ∀ c d σ H, Wk c d H → W0 c d σ H) (hc : X.calm = true) (hN : X.N.Nodup) (hi : PI X tg iter wi) (ok : BlkOk X.N X.env.scope scope own)
    (hg : ∀ (s : Shared) (H : Hp) (C : Addr) (cl : List (Str × Addr)) (fp : List Addr), PG (X.blk s H scope (compEnvC scope cl C X.env) fp) tg g) (ht : ∀ (s : Shared) (H : Hp) (C : Addr) (cl : List (Str × Addr)) (fp : List Addr), PTs (X.blk s H scope (compEnvC scope cl C X.env) fp) ifs tt)
    (he : ∀ (s : Shared) (H : Hp) (C : Addr) (cl : List (Str × Addr)) (fp : List Addr) (xe : Value → Shared → Prop), (∀ {E : XK}, (∀ c d H', E c d H' → Wk c d H') → Passes (L2N.CX X.prog X.w) ((X.blk s H scope (compEnvC scope cl C X.env) fp).wish xe) E) → PE ((X.blk s H scope (compEnvC scope cl C X.env) fp).wish xe) elt te) (hs : ∀ x, foldedSetIterable iter X.env x = pure x := by intro _; rfl) :
    PE X (.ListComp elt [⟨tg, iter, ifs, 0⟩] scope pos) (tLc wi g tt te (own.map (·.2))) := by
  refine ⟨fun pins s σ H Q I h => ?_⟩
  rw [eval_ListComp]
  have hfree : ∀ y ∈ scope.names, y.2 = .free → ∃ c, X.env.cells.lookup y.1 = some c := fun y hy e => by
    rcases ok.free y hy e with k | k
    · exact I.ok.has _ (.inl k)
    · exact I.ok.has _ (.inr k)
  refine comprehension_at rfl hs (closure_ok hfree) ok.kind (fun y hy e => by rw [ok.uniq y hy, e])
    (thn (hi.run pins s σ H _ I h) fun xv s1 hx => thn hx fun itv s2 h2 => ?_)
  obtain ⟨it, fp, tn, J, H2, e, I2, T, st2, f2, q⟩ := h2
  subst e
  refine wpAny_newObj_type (newEnv_comp ?_) (by show 0 ≤ sizeLine; decide)
  generalize hD : s2.heap.objs.size = D
  have hDn : H2 D = none := I2.hok.fresh (Nat.le_of_eq hD)
  obtain ⟨W, ⟨m0, w0⟩, turn⟩ := q D hDn
  generalize hs3 : ({ s2 with heap := s2.heap.push { cls := .type "list", data := .seq ([] : List Value).toArray } } : Shared) = s3
  have I3 : Inv X pins σ (upd H2 D (.lst [])) s3 := by
    rw [← hs3]
    refine I2.laid (t' := s2.toks) (fun b o e => Heap.get?_push_of_some _ e) (Nat.le_of_eq hD) ⟨Nat.zero_le _, [], 0, .nil, ?_⟩
    rw [← hD]
    exact Heap.get?_push_size _ rfl
  have h3 : s3.heap = s2.heap.push { cls := .type "list", data := .seq ([] : List Value).toArray } := by rw [← hs3]
  have sz : ∀ b ∈ fp, b < s2.heap.objs.size := fun b hb => by
    obtain ⟨o, e, _⟩ := T.obj _ _ st2 b hb
    exact Heap.lt_size e
  have f3 : ∀ b ∈ fp, FpOk X pins (upd H2 D (.lst [])) b ∧ b < s3.heap.objs.size := fun b hb => by
    have hlt := sz b hb
    refine ⟨⟨?_, (f2 b hb).2⟩, by rw [h3, Heap.size_push]; exact Nat.lt_succ_of_lt hlt⟩
    rw [upd_ne (by rw [← hD]; exact Nat.ne_of_lt hlt)]
    exact (f2 b hb).1
  have st3 : tn 0 s3.heap := T.keep _ _ _ st2 fun b _ o e => by rw [h3]; exact Heap.get?_push_of_some _ e
  have I4 := block_start I3 ok hN f3
  have pg := hg s3 (upd H2 D (.lst [])) s3.heap.objs.size (cellsFrom (s3.heap.objs.size + 1) scope.names (cloFrom X.env.cells scope.names [])) fp
  have pt := ht s3 (upd H2 D (.lst [])) s3.heap.objs.size (cellsFrom (s3.heap.objs.size + 1) scope.names (cloFrom X.env.cells scope.names [])) fp
  have pe := he s3 (upd H2 D (.lst [])) s3.heap.objs.size (cellsFrom (s3.heap.objs.size + 1) scope.names (cloFrom X.env.cells scope.names [])) fp
  have hRR : ∀ m H', Inv X pins σ H' m → Q (.ref D) H' → ∀ mm, m.heap.Ns s3.heap.objs.size mm → FpOk X pins H' s3.heap.objs.size → compEnds (model X.prog X.w) X.A X.xe none (EP X pins σ Q) (.ref D) (compEnvC scope (cellsFrom (s3.heap.objs.size + 1) scope.names (cloFrom X.env.cells scope.names [])) s3.heap.objs.size X.env) (.ok .next) m := fun s' H' I' q mm hn f => ⟨mm, hn, fun h'' sb => by
    obtain ⟨f0, f1, f2, f3, f4, f5⟩ := f
    exact ⟨.ref D, H', I'.turned (t' := s'.toks) (fun b o hb e => (sb.2 b hb).trans e) f0 f1 f3 f4 f5, rfl, q⟩⟩
  show codeAny _ _ (.compStart (.ListComp elt [⟨tg, iter, ifs, 0⟩] scope pos) 0 (.ref it) (.ref D) (compEnvC scope (cellsFrom (s3.heap.objs.size + 1) scope.names (cloFrom X.env.cells scope.names [])) s3.heap.objs.size X.env)) (compEnds (model X.prog X.w) X.A X.xe none (EP X pins σ Q) (.ref D) (compEnvC scope (cellsFrom (s3.heap.objs.size + 1) scope.names (cloFrom X.env.cells scope.names [])) s3.heap.objs.size X.env)) { s3 with heap := pushCells (s3.heap.push { cls := .type "dict", data := .dict #[] }) scope.names }
  have nfp : ∀ b ∈ fp, (upd H2 D (.lst [])) b = none := fun b hb => (f3 b hb).1.1
  generalize hce : compEnvC scope (cellsFrom (s3.heap.objs.size + 1) scope.names (cloFrom X.env.cells scope.names [])) s3.heap.objs.size X.env = ce at I4 pg pt pe hRR ⊢
  have cL : ce.locals = s3.heap.objs.size := by subst hce; rfl
  generalize hH3 : upd H2 D (.lst []) = H3 at I3 I4 pg pt pe w0 nfp f3
  generalize hs4 : ({ s3 with heap := pushCells (s3.heap.push { cls := .type "dict", data := .dict #[] }) scope.names } : Shared) = s4 at I4 ⊢
  have st4 : tn 0 s4.heap := T.keep _ _ _ st3 fun b _ o e => by rw [← hs4]; exact pushCells_keeps _ _ _ _ (Heap.get?_push_of_some _ e)
  have stat : ∀ {σ' : L2.St} {H' : Hp} {s' : Shared}, Inv (X.blk s3 H3 scope ce fp) [] σ' H' s' → (∀ b ∈ fp, H' b = none) → ∀ b ∈ fp, FpOk (X.blk s3 H3 scope ce fp) [] H' b := fun {σ' H' s'} I' hn b hb =>
    ⟨hn b hb, (I'.ok.exf b hb).1, I'.ok.exfs b hb, .inl hb, fun x c e => (I'.ok.exf b hb).2 x c e, fun p hp => absurd (show p ∈ ([] : List (Addr × Obj)) ++ [] from hp) (by simp)⟩
  have loop : codeAny (model X.prog X.w) X.A (.compLoop (.ListComp elt [⟨tg, iter, ifs, 0⟩] scope pos) 0 (.ref it) (.ref D) ce) (compEnds (model X.prog X.w) X.A X.xe none (EP X pins σ Q) (.ref D) ce) s4 := by
    refine compLoop_any (fun n s' => ∃ i H', Inv (X.blk s3 H3 scope ce fp) [] (wipe σ (own.map (·.2))) H' s' ∧ tn i s'.heap ∧ (∀ b ∈ fp, H' b = none) ∧ W i n H') ?_ m0 ⟨0, H3, I4, st4, nfp, w0⟩
    rintro n s5 ⟨i, H5, I5, st5, n5, w5⟩
    rcases turn i n H5 w5 with ⟨stop, qq⟩ | ⟨go, Nx, hNx, step⟩
    · have td := T.done (X.blk s3 H3 scope ce fp) rfl rfl rfl hc i [] s5 _ H5 (fun _ _ => False) I5 (stat I5 n5) st5 stop
      refine thnF td fun r s6 ⟨hr, I6⟩ => ?_
      subst hr
      have I7 : Inv X pins σ H5 s6 := I3.call' (ch := fp) I6.os I6.base I6.hok I6.bare fun b hb => ⟨(f3 b hb).1.2.2.2.1, (f3 b hb).1.2.1, (f3 b hb).1.2.2.2.2.1, (f3 b hb).1.2.2.2.2.2⟩
      have nC : H5 s3.heap.objs.size = none := by
        have z : H5 ce.locals = none := I6.free
        rw [cL] at z
        exact z
      obtain ⟨m, hn, _⟩ := I6.loc
      have hn : s6.heap.Ns ce.locals m := hn
      rw [cL] at hn
      exact hRR s6 H5 I7 qq m hn (I3.fpOk (Nat.le_refl _) nC)
    · have ti := T.item (X.blk s3 H3 scope ce fp) rfl rfl rfl hc i [] s5 _ H5 (fun _ _ => False) I5 (stat I5 n5) st5 go
      refine thnF ti fun r s6 ⟨u, hr, h6⟩ => ?_
      subst hr
      refine thnF h6 fun _ s7 ⟨x, H7, I7, r7, y7, st7, n7⟩ => ?_
      have I7' := I7.pinned (stat I7 n7) (T.obj _ _ st7)
      refine thnF (pg.run _ s7 _ H7 x u _ I7' r7 (step x H7 y7)) fun _ s8 ⟨σ8, H8, I8, hw8, q8⟩ => ?_
      refine thnF (pt.run _ s8 σ8 H8 _ I8 q8) fun b s9 ⟨H9, I9, q9⟩ => ?_
      have fin : ∀ {s' : Shared} {H' : Hp}, Inv (X.blk s3 H3 scope ce fp) ([] ++ pinsAt fp s7.heap) σ8 H' s' → Nx H' → ∃ m, m < n ∧ ∃ i H', Inv (X.blk s3 H3 scope ce fp) [] (wipe σ (own.map (·.2))) H' s' ∧ tn i s'.heap ∧ (∀ b ∈ fp, H' b = none) ∧ W i m H' := fun {s' H'} I' nx => by
        obtain ⟨m', hm, w'⟩ := hNx H' nx
        have pin' : ∀ b ∈ fp, ∀ o, s7.heap.get? b = some o → s'.heap.get? b = some o ∧ H' b = none := fun b hb o e =>
          let z := I'.pin (b, o) (List.mem_append_right _ (List.mem_append_right _ (mem_pinsAt hb e)))
          ⟨z.1, z.2.1⟩
        have hl : (wipe σ (own.map (·.2))).length = σ8.length := by rw [← hw8, wipe_length]
        refine ⟨m', hm, i + 1, H', (I'.unpinned (pins := [])).weak hl (fun j v e => ?_), T.keep _ _ _ st7 fun b hb o e => (pin' b hb o e).1, fun b hb => ?_, w'⟩
        · rw [← hw8] at e
          exact (wipe_some e).1
        · obtain ⟨o, e, _⟩ := T.obj _ _ st7 b hb
          exact (pin' b hb o e).2
      cases b with
      | false =>
        simp only [Bool.false_eq_true, if_false] at q9 ⊢
        exact fin I9 q9
      | true =>
        simp only [if_true] at q9 ⊢
        refine thn ((pe (notedBy (model X.prog X.w) X.A ce (CompFails (model X.prog X.w) X.A X.xe ce)) fun {E} hE => lc_air hs0 hf0 tk hW I3 (fun b hb => ⟨(f3 b hb).1.2.2.2.1, (f3 b hb).1.2.1, (f3 b hb).1.2.2.2.2.1, (f3 b hb).1.2.2.2.2.2⟩) cL (by subst hce; rfl) hE).run _ s9 σ8 H9 _ (I9.wish _) q9) fun z s10 ⟨yv, H10, I10, r10, acc, hD10, hz10, nx⟩ => ?_
        exact app_ok (X := X.blk s3 H3 scope ce fp) I10.unwish hD10 hz10 r10 fun s11 I11 => fin I11 nx
  exact codeAny_compStart_list loop (T.self X.A 0 _ _ _ st4 loop)
end
namespace SM
def rmpD : D → D → Option D
  | .str a, .str b => if a.length ≤ sizeLine then some (.str (Txt.removeprefix a b)) else none
  | _, _ => none
def sgnD : D → D → Option D
  | .str a, .str z => match a.cps.toList with
    | [c] => some (.bool (decide (c ∈ z.cps.toList)))
    | _ => none
  | _, _ => none
/-- whether a dict lacks a key -/
def ninK (x r : D) : Option D := match keyP x, unDk r with
  | some k, some es => some (.bool (!(lookK es k).isSome))
  | _, _ => none
/-- str of a number or of a text -/
def strXD : List D → Option D
  | [.int i] => if i.natAbs.log2 < 1920 then some (.str (toString i)) else none
  | [.str a] => some (.str a)
  | _ => none
/-- a list of three, unpacked -/
def unq3 {μ β : Type} (d : D) (k : D → D → D → SM μ β) : SM μ β := match d with
  | .list [a, b, c] => k a b c
  | _ => bad
/-- a written dict of constants -/
def dispK (ps : List (Key × D)) : D := dcK (ps.foldl (fun es kv => putKD es kv.1 kv.2) [])
end SM
section
open SM PySem PySem.Spec PyProof.Rows
variable {X : Cx} {μ : Type} {G : Gx} {σ : L2.St} {L : List (V × D)} {C : μ → List Root} {te to : TE} {E E1 E2 : SM μ D}
theorem ms_removeprefix : M1S G (fun x xs H Q => ∃ a b, x = .str a ∧ xs = [.str b] ∧ a.length ≤ sizeLine ∧ Q (.str (Txt.removeprefix a b)) H) rmpD := by
  intro L C H x y d e z Q w hx hy ez q
  unfold rmpD at ez
  split at ez
  · next a b =>
    split at ez
    · next c =>
      cases ez
      obtain ⟨B, h1⟩ := w.dt hx
      obtain ⟨B2, h2⟩ := w.dt hy
      exact ⟨a, b, h1.str_inv, by rw [h2.str_inv], c, q _ _ (w.fact fun _ _ => .str _)⟩
    · cases ez
  · cases ez
theorem os_sgn : OpS G (fun x y H Q => ∃ (c : Nat) (z : Str), x = .str ⟨#[c]⟩ ∧ y = .str z ∧ Q (.bl (decide (c ∈ z.cps.toList))) H) sgnD := by
  intro L C H x y d e z Q w hx hy ez q
  unfold sgnD at ez
  split at ez
  · next a t =>
    split at ez
    · next c hc =>
      cases ez
      obtain ⟨B, h1⟩ := w.dt hx
      obtain ⟨B2, h2⟩ := w.dt hy
      have ea : a = ⟨#[c]⟩ := TL.ext_tl hc
      exact ⟨c, t, by rw [h1.str_inv, ea], h2.str_inv, q _ _ (w.fact fun _ _ => .bl _)⟩
    · cases ez
  · cases ez
theorem tPairs_c : ∀ (ps : List (Str × Int)) {σ : L2.St} {H : Hp} {Q : List (V × V) → Hp → Prop}, Q (ps.map fun kv => (.str kv.1, .int kv.2)) H → tPairs (ps.map fun kv => (tC (.str kv.1), tC (.int kv.2))) σ H Q
  | [], _, _, _, h => h
  | _ :: ps, _, _, _, h => tPairs_c ps h
theorem kvz_merge {K : PySem.W.Frag} {B : Addr → Prop} {H : Hp} : ∀ (ps : List (Str × Int)) {vs : List (Key × V)} {es : List (Key × D)}, KvZ K B H vs es → KvZ K B H ((ps.map fun kv => ((.inr kv.1 : Key), V.int kv.2)).foldl (fun acc kv => putK acc kv.1 kv.2) vs) ((ps.map fun kv => ((.inr kv.1 : Key), PyData.int kv.2)).foldl (fun es kv => putKD es kv.1 kv.2) es)
  | [], _, _, h => h
  | (k, i) :: ps, _, _, h => kvz_merge ps (h.put (.int i))
theorem upd_two {H : Hp} {p : Addr} {a b : HO} : upd (upd H p a) p b = upd H p b := by
  funext q
  by_cases e : q = p
  · subst e; rw [upd_same, upd_same]
  · rw [upd_ne e, upd_ne e, upd_ne e]
theorem Wd.dkNewE {K : PySem.W.Frag} {O : Og} {L : List (V × D)} {Z : List Root} {H : Hp} {N : Addr → Prop} {p : Addr} {kvs : List (Key × V)} {es : List (Key × D)} (w : Wd K O L Z H) (hp : H p = none) (hN : N p) (z : ∀ B H, KvZ K B H kvs es) : Wd K O L (rootS K N .dk (.ref p) (dcK es) :: Z) (upd H p (.dK kvs)) := by
  obtain ⟨B, wb⟩ := w
  have sm : Same H (upd H p (.dK kvs)) := fun q o e => by rw [upd_ne (ne_of_none e hp)]; exact e
  have wg := wb.grow (B' := B) sm (fun q b => b) fun q b => .inl b
  have nb : ¬ B p := fun b => by
    obtain ⟨o, ho⟩ := wb.bo p b
    rw [ho] at hp; cases hp
  have ho : Own K B (upd H p (.dK kvs)) .dk (.ref p) (dcK es) [p] := .dk upd_same (z _ _)
  refine ⟨B, wg.addR (r := rootS K N .dk (.ref p) (dcK es)) ⟨_, ho, fun q hq => by rw [List.mem_singleton.mp hq]; exact hN⟩ (fun q hq => ?_) ?_⟩
  · rw [rootS_fp ho] at hq
    rw [List.mem_singleton.mp hq]
    exact ⟨wb.none hp, nb, by rw [wb.same sm]; exact wb.free hp⟩
  · rw [rootS_fp ho]; exact List.nodup_cons.mpr ⟨by simp, List.nodup_nil⟩
theorem fts_disp {ps : List (Str × Int)} (h15 : ps.length ≤ 15) : FTs G (nw G) (tDisp (ps.map fun kv => (tC (.str kv.1), tC (.int kv.2)))) σ L C C .dk (pu (dispK (ps.map fun kv => (.inr kv.1, .int kv.2)))) := by
  intro m F L' H Q s w q bk p hp
  have hpO : p ∉ G.O.fp := by
    obtain ⟨B, wb⟩ := w
    exact wb.nofp hp
  refine tPairs_c ps ⟨upd_same, ps.map fun kv => (.inr kv.1, .int kv.2), by rw [List.map_map]; rfl, by rw [List.length_map]; exact h15, ?_⟩
  rw [upd_two]
  exact q _ m (.ref p) _ rfl (w.dkNewE hp hpO fun B H => kvz_merge ps .nil)
theorem ev_dkninF {td ty : TE} (h1 : EV G ty σ L C E1) (h : PF G td σ L C .dk E) : EV G (tDNotIn ty td) σ L C (bd E1 fun x => bd E fun r => of (ninK x r)) := by
  intro m F L' H Q s w q b
  refine h1 m F L' H _ s w (fun x m1 vx H1 e1 w1 => ?_) b.fst
  have b1 := b.snd e1
  refine h m1 F ((vx, x) :: L') H1 _ (fun f hf => .tail _ (s f hf)) w1 (fun r m2 v H2 e2 w2 => ?_) (b1.fst.mono fun f hf => .tail _ hf)
  have b2 := b1.snd e2
  obtain ⟨B, a, kvs, es, wb, rfl, rfl, hat, kz⟩ := Wd.dkF w2
  have er : (bd E1 fun x => bd E fun r => of (ninK x r)) m = of (ninK x (dcK es)) m2 := by rw [bd_ok e1, bd_ok e2]
  cases hk : keyP x with
  | none =>
    refine absurd ?_ b2.2
    show (of (ninK x (dcK es)) : SM μ D) m2 = .bad
    unfold ninK; rw [hk]; rfl
  | some k =>
    have hx := keyP_inv hk
    subst hx
    have hvx : vx = kV k := dt_key (wb.ft _ (.head _))
    refine ⟨a, valV kvs k, rfl, by rw [hvx]; exact DGet.k hat, ?_⟩
    have e5 : (valV kvs k).isSome = (SM.lookK es k).isSome := by
      rcases kz.lookK k with ⟨e8, e9⟩ | ⟨v9, d9, e8, e9, _⟩ <;> rw [e8, e9] <;> rfl
    have w4 : Wd G.K G.O ((.bl (!(valV kvs k).isSome), .bool (!(valV kvs k).isSome)) :: (vx, kD k) :: L') (rootF G.K .dk (.ref a) (dcK es) :: (C m2 ++ F)) H2 := ⟨B, wb.fact (.bl _)⟩
    refine q (.bool (!(valV kvs k).isSome)) m2 _ H2 ?_ ((Wd.subC (C' := C m2 ++ F) w4 (List.sublist_cons_self _ _)).sub fun f hf => (List.mem_cons.mp hf).elim (fun e => by rw [e]; exact .head _) fun h => .tail _ (.tail _ h))
    rw [er]
    unfold ninK; rw [hk, unDk_dcK, e5]; rfl
theorem tgl_tup3 {τ ρ : Type} {Cp : μ → List Root} {u : TS} {Jn : Shp μ τ} {Jl : Shp μ ρ} {v : V} {x : D} {gs : TGs} {k : D → D → D → SM μ (Fl τ ρ)} (hm : (v, x) ∈ L) (h : ∀ v1 v2 v3 a b c, SV G Cp (tTgts gs [v1, v2, v3] u) σ ((v1, a) :: (v2, b) :: (v3, c) :: L) C (k a b c) Jn Jl) : SV G Cp (tTgt (gUnl G.K 3 gs) v u) σ L C (unq3 x k) Jn Jl := by
  intro m F L' H d s w q1 q2 q3 q4 bk
  unfold unq3 at bk q1 q2 q3 q4
  split at bk
  · next a b c =>
    obtain ⟨p, vs, rfl, hl, hlen, w2⟩ := dt_partsL w (s _ hm)
    match vs, hlen with
    | [v1, v2, v3], _ => exact ⟨p, [v1, v2, v3], rfl, hl, rfl, sv_more (L1 := [(v1, a), (v2, b), (v3, c)]) (h v1 v2 v3 a b c) s w2 q1 q2 q3 q4 bk⟩
  · exact absurd rfl bk.2
theorem call_strX : CallR X (.type "str") (fun xs H Q => (∃ i : Int, xs = [.int i] ∧ i.natAbs.log2 < 1920 ∧ Q (.str (toString i)) H) ∨ ∃ a, xs = [.str a] ∧ Q (.str a) H) := by
  intro pins s σ H xs us Q I r h
  rcases h with h | h
  · exact call_str_int pins s σ H xs us Q I r h
  · exact SkE.call_str_str pins s σ H xs us Q I r h
theorem cs_strX : CallS G (fun xs H Q => (∃ i : Int, xs = [.int i] ∧ i.natAbs.log2 < 1920 ∧ Q (.str (toString i)) H) ∨ ∃ a, xs = [.str a] ∧ Q (.str a) H) strXD := by
  intro L C H xs ds z Q w i e q
  unfold strXD at e
  split at e
  · next k =>
    split at e
    · next c =>
      cases e
      obtain ⟨x, rfl, hx⟩ := i.one
      obtain ⟨B, hd⟩ := w.dt hx
      exact .inl ⟨k, by rw [hd.int_inv], c, q _ _ (w.fact fun _ _ => .str _)⟩
    · cases e
  · next a =>
    cases e
    obtain ⟨x, rfl, hx⟩ := i.one
    obtain ⟨B, hd⟩ := w.dt hx
    exact .inr ⟨a, by rw [hd.str_inv], q _ _ (w.fact fun _ _ => .str _)⟩
  · cases e
end
open SM
def m_number_of (word : D) : SM Unit D := fin
  ((bd (mt1 rmpD (pu word) (pu (.str "-"))) fun digits =>
  (bd (tor (tnot (SM.tb (SM.chain leD leD (pu (.int 1)) (opL lenD (ac (pu digits) a0)) (pu (.int 60))))) (tnot (SM.tr (opL allD (ac (SM.lc (itTS (pu digits)) (fun sign => (pu true)) (fun sign => (op2 sgnD (pu sign) (pu (.str "0123456789"))))) a0))))) fun c => if c then
  (bd (pu PyData.none) fun x => pu (.rt x))
  else
  (bd (opL tintD (ac (pu word) a0)) fun number =>
  (bd (eif (SM.tb (op2 eqD (opL strD (ac (pu number) a0)) (pu word))) (pu number) (pu PyData.none)) fun x => pu (.rt x))))) : SM Unit (Fl Unit Empty))
def m_show_word (thing : D) : SM Unit D := fin
  ((bd (eif (SM.tb (op2 isD (pu thing) (pu PyData.none))) (pu (.str "none")) (opL strXD (ac (pu thing) a0))) fun x => pu (.rt x)) : SM Unit (Fl Unit Empty))
def m_show_deed (deed : D) : SM Unit D := fin
  ((bd (SM.join (pu (.str " ")) (SM.lc (itS (pu deed)) (fun thing => (pu true)) (fun thing => (cP (u1 m_show_word) (ac (pu thing) a0))))) fun x => pu (.rt x)) : SM Unit (Fl Unit Empty))
def m_show_deeds (deeds : D) : SM Unit D := fin
  ((bd (SM.join (pu (.str "\n")) (SM.lc (itS (pu deeds)) (fun deed => (pu true)) (fun deed => (cP (u1 m_show_deed) (ac (pu deed) a0))))) fun x => pu (.rt x)) : SM Unit (Fl Unit Empty))
def m_read_number (word : D) : SM Unit D := fin
  ((bd (cP (u1 m_number_of) (ac (pu word) a0)) fun number =>
  (bd (SM.tb (op2 isD (pu number) (pu PyData.none))) fun c => if c then
  (SM.raise (exD "NoText" []))
  else
  (bd (pu number) fun x => pu (.rt x)))) : SM Unit (Fl Unit Empty))
def m_read_division (name : D) (words : D) : SM Unit D := fin
  ((bd (SM.lc (itS (pu words)) (fun word => (pu true)) (fun word => (cPX (u1 m_read_number) (ac (pu word) a0)))) fun t4 => (unq3 t4 fun x divisor many =>
  (bd (tor (SM.tb (op2 ltD (pu divisor) (pu (.int 1)))) (tnot (SM.tb (SM.chain leD leD (pu (.int 0)) (pu many) (pu (.int 250)))))) fun c => if c then
  (SM.raise (exD "NoText" []))
  else
  (bd (opL tupD (ac (pu name) (ac (pu x) (ac (pu divisor) (ac (pu many) a0))))) fun x => pu (.rt x))))) : SM Unit (Fl Unit Empty))
def m_read_deed_b (line : D) : SM (Unit) D := fin
  ((bd (mt1 splD (pu line) (pu (.str " "))) fun words =>
  (bd (pu words) fun t3 =>
  (mtC t3 "begin" 3 (fun ys => par3 ys fun x divisor many =>
  (bd (cPX (u2 m_read_division) (ac (pu (.str "begin")) (ac (opL lstD (ac (pu x) (ac (pu divisor) (ac (pu many) a0)))) a0))) fun x => pu (.rt x)))
  (mtC t3 "rows" 3 (fun ys => par3 ys fun x1 divisor1 many1 =>
  (bd (cPX (u2 m_read_division) (ac (pu (.str "rows")) (ac (opL lstD (ac (pu x1) (ac (pu divisor1) (ac (pu many1) a0)))) a0))) fun x => pu (.rt x)))
  (mtC t3 "step" 1 (fun ys => par1 ys fun number =>
  (bd (opL tupD (ac (pu (.str "step")) (ac (cPX (u1 m_read_number) (ac (pu number) a0)) a0))) fun x => pu (.rt x)))
  (mtC t3 "put" 3 (fun ys => par3 ys fun top look figure =>
  (bd (opL tupD (ac (pu (.str "put")) (ac (cPX (u1 m_read_number) (ac (pu top) a0)) (ac (cPX (u1 m_read_number) (ac (pu look) a0)) (ac (eif (SM.tb (op2 eqD (pu figure) (pu (.str "none")))) (pu PyData.none) (cPX (u1 m_read_number) (ac (pu figure) a0))) a0))))) fun x => pu (.rt x)))
  (SM.raise (exD "NoText" [])))))))) : SM (Unit) (Fl Unit Empty))
def m_read_deed (line : D) : SM (List D) D := zbody (fun ts : List D => (() : Unit)) (fun m : Unit => []) (m_read_deed_b line)
def m_read_deeds_b (text : D) : SM (Unit) D := fin
  ((bd (SM.tb (op2 eqD (pu text) (pu (.str "")))) fun c => if c then
  (bd (opL lstD a0) fun x => pu (.rt x))
  else
  (bd (SM.lc (itS (mt1 splD (pu text) (pu (.str "\n")))) (fun line => (pu true)) (fun line => (cZ (u1 m_read_deed) (zF (pu line) zN)))) fun x => pu (.rt x))) : SM (Unit) (Fl Unit Empty))
def m_read_deeds (text : D) : SM (List D) D := zbody (fun ts : List D => (() : Unit)) (fun m : Unit => []) (m_read_deeds_b text)
def m__law_deck (cell : D) (turn : D) : SM Unit D := fin
  ((bd (SM.tb (op2 geD (pu cell) (op2 powD (pu (.int 10)) (pu (.int 18))))) fun c => if c then
  (bd (opL lstD (ac (op2 subD (pu cell) (op2 powD (pu (.int 10)) (pu (.int 18)))) (ac (op2 modD (pu cell) (pu (.int 2147483579))) (ac (pu turn) a0)))) fun x => pu (.rt x))
  else
  (bd (opL lstD (ac (pu (.int 0)) (ac (op2 modD (pu cell) (pu (.int 2147483579))) (ac (pu turn) a0)))) fun x => pu (.rt x))) : SM Unit (Fl Unit Empty))
def m__law_pick (many : D) : SM D D := fin
  ((bd (SM.tb (op2 gtD (bd (pu (.int 0)) fun x => bd gets fun m => of (idxD m x)) (pu (.int 1)))) fun c => if c then
  (bd (op2 modD (bd (pu (.int 0)) fun x => bd gets fun m => of (idxD m x)) (pu many)) fun found =>
  (bd (bd (op2 fdivD (bd (pu (.int 0)) fun x => bd gets fun m => of (idxD m x)) (pu many)) fun y => bd (pu (.int 0)) fun x => bd gets fun m => bd (of (setD m x y)) fun m' => puts m') fun _ =>
  (bd (pu found) fun x => pu (.rt x))))
  else
  (bd (bd (op2 addD (bd (pu (.int 2)) fun x => bd gets fun m => of (idxD m x)) (pu (.int 1))) fun y => bd (pu (.int 2)) fun x => bd gets fun m => bd (of (setD m x y)) fun m' => puts m') fun _ =>
  (bd (op2 modD (op2 powD (op2 addD (bd (pu (.int 1)) fun x => bd gets fun m => of (idxD m x)) (op2 mulD (pu (.int 15485867)) (bd (pu (.int 2)) fun x => bd gets fun m => of (idxD m x)))) (pu (.int 5))) (pu (.int 2147483647))) fun number =>
  (bd (op2 fdivD (op2 modD (op2 powD (op2 addD (pu number) (op2 mulD (pu (.int 7919)) (bd (pu (.int 2)) fun x => bd gets fun m => of (idxD m x)))) (pu (.int 3))) (pu (.int 2147483629))) (pu (.int 32))) fun found1 =>
  (bd (SM.tb (op2 gtD (pu many) (pu (.int 1000000)))) fun c => if c then
  (bd (op2 modD (op2 addD (op2 mulD (pu found1) (pu (.int 2147483563))) (pu number)) (pu many)) fun x => pu (.rt x))
  else
  (bd (op2 modD (pu found1) (pu many)) fun x => pu (.rt x))))))) : SM D (Fl Unit Empty))
def m__law_great (figures : D) : SM D D := fin
  ((bd (pu (.int 1)) fun size =>
  (sq (bd (itR (ac (cD (u1 m__law_pick) (ac (op2 addD (pu figures) (pu (.int 1))) a0)) a0)) fun xs => forS xs size fun turn (s2 : D) =>
  (bd (op2 mulD (pu s2) (pu (.int 10))) fun size1 =>
  (pu (.nx size1)))) fun s2 =>
  (bd (pu (.int 0)) fun found =>
  (sq (bd (itR (ac (pu (.int 5)) a0)) fun xs => forS xs found fun turn1 (s10 : D) =>
  (bd (op2 addD (op2 mulD (pu s10) (op2 powD (pu (.int 10)) (pu (.int 12)))) (cD (u1 m__law_pick) (ac (op2 powD (pu (.int 10)) (pu (.int 12))) a0))) fun found1 =>
  (pu (.nx found1)))) fun s10 =>
  (bd (op2 modD (pu s10) (pu s2)) fun x => pu (.rt x)))))) : SM D (Fl Unit Empty))
def m__law_name_of (e : D) : SM Unit D := fin
  ((bd (opL lstD (ac (pu (.bool (isq "NoFigure" (nmX e)))) (ac (pu (.bool (isq "NoLooks" (nmX e)))) (ac (pu (.bool (isq "NoRoom" (nmX e)))) (ac (pu (.bool (isq "NoRow" (nmX e)))) a0))))) fun kinds =>
  (bd (op2 addD (pu kinds) (opL lstD (ac (pu (.bool (isq "NoTable" (nmX e)))) (ac (pu (.bool (isq "NoText" (nmX e)))) (ac (pu (.bool (isq "Spoilt" (nmX e)))) (ac (pu (.bool (isq "NoMore" (nmX e)))) a0)))))) fun kinds1 =>
  (bd (op2 addD (pu kinds1) (opL lstD (ac (pu (.bool (isq "NoWork" (nmX e)))) (ac (pu (.bool (isq "NoCell" (nmX e)))) (ac (pu (.bool (isq "NoDeed" (nmX e)))) (ac (pu (.bool (isa (nmX e)))) a0)))))) fun kinds2 =>
  (bd (opL lstD (ac (pu (.str "NoFigure")) (ac (pu (.str "NoLooks")) (ac (pu (.str "NoRoom")) (ac (pu (.str "NoRow")) (ac (pu (.str "NoTable")) (ac (pu (.str "NoText")) (ac (pu (.str "Spoilt")) (ac (pu (.str "NoMore")) (ac (pu (.str "NoWork")) (ac (pu (.str "NoCell")) a0))))))))))) fun names =>
  (bd (SM.join (pu (.str "")) (SM.lc (itZ (ac (op2 addD (pu names) (opL lstD (ac (pu (.str "NoDeed")) (ac (pu (.str "+")) a0)))) (ac (pu kinds2) a0))) (fun z => unp2 z fun name kind => (SM.tr (pu kind))) (fun z => unp2 z fun name kind => (pu name)))) fun x => pu (.rt x)))))) : SM Unit (Fl Unit Empty))
def m__law_signs : SM Unit D := fin
  ((bd (pu (.str " !\"#$&'()*+,-./0123456789:;<=>?@ABCDEFGHIJKLMNOPQRSTUVWXYZ[\\]^_`abcdefghijklmnopqrstuvwxyz{|}~\n")) fun x => pu (.rt x)) : SM Unit (Fl Unit Empty))
def m__law_sign_bent (text : D) : SM D D := fin
  ((bd (cP (u0 m__law_signs) a0) fun signs =>
  (bd (cD (u1 m__law_pick) (ac (op2 addD (opL lenD (ac (pu text) a0)) (pu (.int 1))) a0)) fun at' =>
  (bd (op2 ixtD (pu signs) (cD (u1 m__law_pick) (ac (pu (.int 95)) a0))) fun sign =>
  (sq (bd (tand (SM.tb (op2 eqD (cD (u1 m__law_pick) (ac (pu (.int 3)) a0)) (pu (.int 0)))) (SM.tb (op2 neD (pu text) (pu (.str ""))))) fun c => if c then
  (bd (op2 ixtD (pu text) (cD (u1 m__law_pick) (ac (opL lenD (ac (pu text) a0)) a0))) fun sign1 =>
  (pu (.nx sign1)))
  else
  (pu (.nx sign))) fun s4 =>
  (bd (op2 addD (op2 addD (SM.sliceT (pu text) part0 (SM.part (pu at'))) (op2 idxD (opL lstD (ac (pu s4) (ac (pu s4) (ac (pu (.str "")) a0)))) (cD (u1 m__law_pick) (ac (pu (.int 3)) a0)))) (SM.sliceT (pu text) (SM.part (op2 addD (pu at') (cD (u1 m__law_pick) (ac (pu (.int 2)) a0)))) part0)) fun x => pu (.rt x)))))) : SM D (Fl Unit Empty))
def m__law_list_bent (some' : D) : SM D D := fin
  ((bd (cD (u1 m__law_pick) (ac (opL lenD (ac (pu some') a0)) a0)) fun at' =>
  (bd (op2 idxD (pu some') (cD (u1 m__law_pick) (ac (opL lenD (ac (pu some') a0)) a0))) fun other =>
  (bd (cD (u1 m__law_pick) (ac (pu (.int 5)) a0)) fun kind =>
  (bd (SM.tb (op2 eqD (pu kind) (pu (.int 0)))) fun c => if c then
  (bd (op2 addD (SM.slice (pu some') part0 (SM.part (pu at'))) (SM.slice (pu some') (SM.part (op2 addD (pu at') (pu (.int 1)))) part0)) fun x => pu (.rt x))
  else
  (bd (SM.tb (op2 eqD (pu kind) (pu (.int 1)))) fun c => if c then
  (bd (op2 addD (op2 addD (SM.slice (pu some') part0 (SM.part (pu at'))) (opL lstD (ac (pu other) a0))) (SM.slice (pu some') (SM.part (pu at')) part0)) fun x => pu (.rt x))
  else
  (bd (SM.tb (op2 eqD (pu kind) (pu (.int 2)))) fun c => if c then
  (bd (op2 addD (pu some') (opL lstD (ac (pu other) a0))) fun x => pu (.rt x))
  else
  (bd (SM.tb (op2 eqD (pu kind) (pu (.int 3)))) fun c => if c then
  (bd (op2 addD (op2 addD (SM.slice (pu some') part0 (SM.part (pu at'))) (opL lstD (ac (pu other) a0))) (SM.slice (pu some') (SM.part (op2 addD (pu at') (pu (.int 1)))) part0)) fun x => pu (.rt x))
  else
  (bd (op2 addD (SM.slice (pu some') (SM.part (op2 addD (pu at') (pu (.int 1)))) (SM.part (op2 addD (pu at') (pu (.int 2))))) (SM.slice (pu some') (SM.part (pu at')) (SM.part (op2 addD (pu at') (pu (.int 1)))))) fun crossed =>
  (bd (op2 addD (op2 addD (SM.slice (pu some') part0 (SM.part (pu at'))) (pu crossed)) (SM.slice (pu some') (SM.part (op2 addD (pu at') (pu (.int 2)))) part0)) fun x => pu (.rt x)))))))))) : SM D (Fl Unit Empty))
def m__law_bent (text : D) (joints : D) : SM D D := fin
  ((bd (cD (u1 m__law_pick) (ac (op2 addD (pu (.int 3)) (opL lenD (ac (pu joints) a0))) a0)) fun kind =>
  (bd (SM.tb (op2 ltD (pu kind) (pu (.int 3)))) fun c => if c then
  (bd (cD (u1 m__law_sign_bent) (ac (pu text) a0)) fun x => pu (.rt x))
  else
  (bd (op2 idxD (pu joints) (op2 subD (pu kind) (pu (.int 3)))) fun joint =>
  (bd (SM.join (pu joint) (cD (u1 m__law_list_bent) (ac (mt1 splD (pu text) (pu joint)) a0))) fun x => pu (.rt x))))) : SM D (Fl Unit Empty))
def m__law_number (word : D) : SM Unit D := fin
  ((bd (eif (SM.tb (op2 eqD (SM.sliceT (pu word) part0 (SM.part (pu (.int 1)))) (pu (.str "-")))) (SM.sliceT (pu word) (SM.part (pu (.int 1))) part0) (pu word)) fun digits =>
  (bd (tor (tnot (SM.tb (SM.chain ltD ltD (pu (.int 0)) (opL lenD (ac (pu digits) a0)) (pu (.int 61))))) (SM.tb (op2 neD (SM.lc (itTS (pu digits)) (fun sign => (tnot (SM.tb (SM.chain letD letD (pu (.str "0")) (pu sign) (pu (.str "9")))))) (fun sign => (pu sign))) (opL lstD a0)))) fun c => if c then
  (bd (pu PyData.none) fun x => pu (.rt x))
  else
  (bd (eif (tand (SM.tb (op2 eqD (op2 ixtD (pu digits) (pu (.int 0))) (pu (.str "0")))) (SM.tb (op2 neD (pu word) (pu (.str "0"))))) (pu PyData.none) (opL tintD (ac (pu word) a0))) fun x => pu (.rt x)))) : SM Unit (Fl Unit Empty))
def m__law_deeds : SM D D := fin
  ((bd (opL lstD a0) fun deeds =>
  (sq (bd (itR (ac (op2 idxD (opL lstD (ac (cD (u1 m__law_pick) (ac (pu (.int 41)) a0)) (ac (pu (.int 599)) a0))) (opL intD (ac (op2 eqD (cD (u1 m__law_pick) (ac (pu (.int 8)) a0)) (pu (.int 0))) a0))) a0)) fun xs => forS xs deeds fun k (s3 : D) =>
  (bd (cD (u1 m__law_pick) (ac (pu (.int 5)) a0)) fun kind =>
  (bd (op2 mulD (op2 idxD (opL lstD (ac (cD (u1 m__law_great) (ac (pu (.int 60)) a0)) (ac (cD (u1 m__law_pick) (ac (pu (.int 40)) a0)) (ac (pu (.int 0)) a0)))) (cD (u1 m__law_pick) (ac (pu (.int 3)) a0))) (op2 idxD (opL lstD (ac (pu (.int 1)) (ac (op1 negD (pu (.int 1))) a0))) (cD (u1 m__law_pick) (ac (pu (.int 2)) a0)))) fun far =>
  (bd (SM.tb (op2 ltD (pu kind) (pu (.int 2)))) fun c => if c then
  (bd (op2 idxD (opL lstD (ac (cD (u1 m__law_pick) (ac (pu (.int 251)) a0)) (ac (pu (.int 0)) (ac (pu (.int 250)) a0)))) (cD (u1 m__law_pick) (ac (pu (.int 3)) a0))) fun many =>
  (bd (bd (opL tupD (ac (op2 idxD (opL lstD (ac (pu (.str "begin")) (ac (pu (.str "rows")) a0))) (pu kind)) (ac (pu far) (ac (op2 addD (pu (.int 1)) (cD (u1 m__law_pick) (ac (op2 powD (pu (.int 10)) (pu (.int 9))) a0))) (ac (pu many) a0))))) fun x => of (appD s3 x)) fun deeds1 =>
  (pu (.nx deeds1))))
  else
  (bd (SM.tb (op2 ltD (pu kind) (pu (.int 4)))) fun c => if c then
  (bd (bd (opL tupD (ac (pu (.str "step")) (ac (op2 idxD (opL lstD (ac (cD (u1 m__law_pick) (ac (pu (.int 9)) a0)) (ac (pu far) a0))) (cD (u1 m__law_pick) (ac (pu (.int 2)) a0))) a0))) fun x => of (appD s3 x)) fun deeds2 =>
  (pu (.nx deeds2)))
  else
  (bd (bd (opL tupD (ac (pu (.str "put")) (ac (cD (u1 m__law_pick) (ac (pu (.int 64)) a0)) (ac (pu far) (ac (op2 idxD (opL lstD (ac (pu PyData.none) (ac (op2 subD (pu (.int 3)) (cD (u1 m__law_pick) (ac (pu (.int 7)) a0))) a0))) (cD (u1 m__law_pick) (ac (pu (.int 2)) a0))) a0))))) fun x => of (appD s3 x)) fun deeds3 =>
  (pu (.nx deeds3)))))))) fun s3 =>
  (bd (pu s3) fun x => pu (.rt x)))) : SM D (Fl Unit Empty))
def m__law_text (deeds : D) : SM Unit D := fin
  ((bd (opL lstD a0) fun rows =>
  (sq (bd (itS (pu deeds)) fun xs => forS xs rows fun deed (s3 : D) =>
  (bd (bd (SM.join (pu (.str " ")) (SM.lc (itS (pu deed)) (fun part' => (pu true)) (fun part' => (eif (SM.tb (op2 isD (pu part') (pu PyData.none))) (pu (.str "none")) (opL strXD (ac (pu part') a0)))))) fun x => of (appD s3 x)) fun rows1 =>
  (pu (.nx rows1)))) fun s3 =>
  (bd (SM.join (pu (.str "\n")) (pu s3)) fun x => pu (.rt x)))) : SM Unit (Fl Unit Empty))
def m__law_read_row_b (row : D) : SM (D) D := fin
  ((bd (mt1 splD (pu row) (pu (.str " "))) fun words =>
  (bd (bd (pu (dispK (([("begin", 4), ("rows", 4), ("step", 2), ("put", 4)] : List (Str × Int)).map fun kv => (.inr kv.1, .int kv.2)))) fun x => putG (fun (y : D) (_m : D) => y) x) fun _ =>
  (bd (rdrB fun m : D => (tor (SM.tb (bd (op2 idxD (pu words) (pu (.int 0))) fun x => bd (pu m) fun r => of (ninK x r))) (SM.tb (op2 neD (opL lenD (ac (pu words) a0)) (bd (pu m) fun r => bd (op2 idxD (pu words) (pu (.int 0))) fun x => of (ixK x r)))))) fun c => if c then
  (bd (pu PyData.none) fun x => pu (.rt x))
  else
  (bd (SM.lc (itS (SM.slice (pu words) (SM.part (pu (.int 1))) part0)) (fun word => (pu true)) (fun word => (cP (u1 m__law_number) (ac (pu word) a0)))) fun numbers =>
  (bd (eand (op2 eqD (op2 idxD (pu words) (pu (.int 0))) (pu (.str "put"))) (op2 eqD (op2 idxD (pu words) (pu (.int 3))) (pu (.str "none")))) fun free =>
  (bd (SM.tb (op2 (inD false) (pu PyData.none) (SM.slice (pu numbers) part0 (SM.part (op2 subD (opL lenD (ac (pu numbers) a0)) (opL intD (ac (pu free) a0))))))) fun c => if c then
  (bd (pu PyData.none) fun x => pu (.rt x))
  else
  (bd (tand (SM.tb (op2 (inD false) (op2 idxD (pu words) (pu (.int 0))) (opL tupD (ac (pu (.str "begin")) (ac (pu (.str "rows")) a0))))) (tor (SM.tb (op2 ltD (op2 idxD (pu numbers) (pu (.int 1))) (pu (.int 1)))) (tnot (SM.tb (SM.chain leD ltD (pu (.int 0)) (op2 idxD (pu numbers) (pu (.int 2))) (pu (.int 251))))))) fun c => if c then
  (bd (pu PyData.none) fun x => pu (.rt x))
  else
  (bd (op2 addD (opL tupD (ac (op2 idxD (pu words) (pu (.int 0))) a0)) (opL tupleD (ac (pu numbers) a0))) fun x => pu (.rt x))))))))) : SM (D) (Fl Unit Empty))
def m__law_read_row (row : D) : SM (List D) D := zbody (fun ts : List D => (.none : D)) (fun m : D => []) (m__law_read_row_b row)
def m__law_read_b (text : D) : SM (Unit) D := fin
  ((bd (SM.tb (op2 eqD (pu text) (pu (.str "")))) fun c => if c then
  (bd (opL lstD a0) fun x => pu (.rt x))
  else
  (bd (SM.lc (itS (mt1 splD (pu text) (pu (.str "\n")))) (fun row => (pu true)) (fun row => (cZ0 (u1 m__law_read_row) (zF (pu row) zN)))) fun deeds =>
  (bd (eif (SM.tb (op2 (inDD false) (pu PyData.none) (pu deeds))) (pu PyData.none) (pu deeds)) fun x => pu (.rt x)))) : SM (Unit) (Fl Unit Empty))
def m__law_read (text : D) : SM (List D) D := zbody (fun ts : List D => (() : Unit)) (fun m : Unit => []) (m__law_read_b text)
def m__law_told_b (text : D) : SM (D) D := fin
  ((bd (bd (pu .none) fun x => putG (fun (y : D) (_m : D) => y) x) fun _ =>
  (bd (pu (.str "")) fun fault =>
  (sq (tryS (fun e => isa (nmX e)) (bd (bd (cZ (u1 m_read_deeds) (zF (pu text) zN)) fun x => putG (fun (y : D) (_m : D) => y) x) fun _ =>
  (pu (.nx fault))) (fun e =>
  (bd (px (m__law_name_of e)) fun fault1 =>
  (pu (.nx fault1))))) fun s3 =>
  (bd (zTup (zT (getG (fun m : D => m)) (zT (pu s3) zN))) fun x => pu (.rt x))))) : SM (D) (Fl Unit Empty))
def m__law_told (text : D) : SM (List D) D := zbody (fun ts : List D => (.none : D)) (fun m : D => []) (m__law_told_b text)
def m_law (script : D) : SM (D × D) D := fin
  ((bd (bd (cP (u2 m__law_deck) (ac (op2 idxD (op2 addD (pu script) (opL lstD (ac (pu (.int 0)) a0))) (pu (.int 0))) (ac (pu (.int 0)) a0))) fun x => putG (fun (y : D) (m : D × D) => (y, m.2)) x) fun _ =>
  (bd (cDl (fun m : D × D => m.1) (fun (y : D) (m : D × D) => (y, m.2)) (u0 m__law_deeds) a0) fun deeds =>
  (bd (opL listD (ac (pu deeds) a0)) fun handed =>
  (bd (cP (u1 m_show_deeds) (ac (pu handed) a0)) fun text =>
  (bd (tor (tnot (SM.tr (op1 (isiD "str") (pu text)))) (tor (SM.tb (op2 neD (pu text) (cP (u1 m__law_text) (ac (pu deeds) a0)))) (SM.tb (op2 neD (pu handed) (pu deeds))))) fun c => if c then
  (bd (pu (.bool false)) fun x => pu (.rt x))
  else
  (sq (bd (itS (op2 addD (SM.slice (pu script) (SM.part (pu (.int 1))) (SM.part (pu (.int 17)))) (opL lstD (ac (pu (.int 0)) a0)))) fun xs => forS xs () fun cell (s5 : Unit) =>
  (bd (bd (cP (u2 m__law_deck) (ac (pu cell) (ac (pu (.int 7900)) a0))) fun x => putG (fun (y : D) (m : D × D) => (y, m.2)) x) fun _ =>
  (bd (pu text) fun bent =>
  (sq (bd (itR (ac (cDl (fun m : D × D => m.1) (fun (y : D) (m : D × D) => (y, m.2)) (u1 m__law_pick) (ac (pu (.int 4)) a0)) a0)) fun xs => forS xs bent fun turn (s17 : D) =>
  (bd (cDl (fun m : D × D => m.1) (fun (y : D) (m : D × D) => (y, m.2)) (u2 m__law_bent) (ac (pu s17) (ac (opL lstD (ac (pu (.str " ")) (ac (pu (.str "\n")) a0))) a0))) fun bent1 =>
  (pu (.nx bent1)))) fun s17 =>
  (bd (cZ0 (u1 m__law_read) (zF (pu s17) zN)) fun due =>
  (sq (bd (itR (ac (pu (.int 2)) a0)) fun xs => forS xs () fun turn1 (s25 : Unit) =>
  (bd (bd (cZ0 (u1 m__law_told) (zF (pu s17) zN)) fun z => unp2 z fun x y => bd (putG (fun (y : D) (m : D × D) => (m.1, y)) x) fun _ => pu y) fun fault =>
  (bd (SM.tb (op2 isD (pu due) (pu PyData.none))) fun c => if c then
  (bd (rdrB fun m : D × D => (tor (SM.tb (op2 isntD (pu m.2) (pu PyData.none))) (SM.tb (op2 neD (pu fault) (pu (.str "NoText+")))))) fun c => if c then
  (bd (pu (.bool false)) fun x => pu (.rt x))
  else
  (pu (.nx ())))
  else
  (bd (rdrB fun m : D × D => (tor (SM.tb (op2 neD (pu fault) (pu (.str "")))) (tor (tnot (SM.tr (op1 (isiD "list") (pu m.2)))) (SM.tb (op2 neD (pu m.2) (pu due)))))) fun c => if c then
  (bd (pu (.bool false)) fun x => pu (.rt x))
  else
  (bd (thr (fun m : D × D => m.2)) fun _ =>
  (bd (bd (nr1 (pu [])) fun p => bd (nr1 (pu PyData.none)) fun y => mdP (fun m : D × D => m.2) (fun (y : D) (m : D × D) => (m.1, y)) p fun r => appD r y) fun _ =>
  (pu (.nx ())))))))) fun s25 =>
  (pu (.nx ())))))))) fun s5 =>
  (sq (bd (itS (opL lstD (ac (op2 addD (pu text) (pu (.str "\n"))) (ac (pu (.str "x")) (ac (pu (.str "put")) a0))))) fun xs => forS xs () fun bent2 (s36 : Unit) =>
  (bd (SM.tb (op2 neD (cZ0 (u1 m__law_told) (zF (pu bent2) zN)) (opL tupD (ac (pu PyData.none) (ac (pu (.str "NoText+")) a0))))) fun c => if c then
  (bd (pu (.bool false)) fun x => pu (.rt x))
  else
  (pu (.nx ())))) fun s36 =>
  (bd (pu (.bool true)) fun x => pu (.rt x))))))))) : SM (D × D) (Fl Unit Empty))
def top (i : Nat) : Stmt := PySem.Challenge.pw_slackfigures_k46_whole_texts_of_deeds.main.body.getD i (.Pass ⟨0, 0, 0, 0⟩)
theorem ls0 {α : Type} {l : List α} (h : l.length = 0) : l = [] := List.eq_nil_of_length_eq_zero h
theorem ls1 {α : Type} {l : List α} (h : l.length = 1) : ∃ a0, l = [a0] := by
  cases l with
  | nil => cases h
  | cons b l =>
    obtain rfl := ls0 (l := l) (Nat.succ.inj h)
    exact ⟨b, rfl⟩
theorem ls2 {α : Type} {l : List α} (h : l.length = 2) : ∃ a0 a1, l = [a0, a1] := by
  cases l with
  | nil => cases h
  | cons b l =>
    obtain ⟨a0, rfl⟩ := ls1 (l := l) (Nat.succ.inj h)
    exact ⟨b, a0, rfl⟩
theorem ls3 {α : Type} {l : List α} (h : l.length = 3) : ∃ a0 a1 a2, l = [a0, a1, a2] := by
  cases l with
  | nil => cases h
  | cons b l =>
    obtain ⟨a0, a1, rfl⟩ := ls2 (l := l) (Nat.succ.inj h)
    exact ⟨b, a0, a1, rfl⟩
abbrev s_number_of : Stmt := top 16
abbrev s_show_word : Stmt := top 19
abbrev s_show_deed : Stmt := top 20
abbrev s_show_deeds : Stmt := top 21
abbrev s_read_number : Stmt := top 22
abbrev s_read_division : Stmt := top 23
abbrev s_read_deed : Stmt := top 24
abbrev s_read_deeds : Stmt := top 25
abbrev s__law_deck : Stmt := top 27
abbrev s__law_pick : Stmt := top 28
abbrev s__law_great : Stmt := top 29
abbrev s__law_name_of : Stmt := top 30
abbrev s__law_signs : Stmt := top 31
abbrev s__law_sign_bent : Stmt := top 32
abbrev s__law_list_bent : Stmt := top 33
abbrev s__law_bent : Stmt := top 34
abbrev s__law_number : Stmt := top 35
abbrev s__law_deeds : Stmt := top 36
abbrev s__law_text : Stmt := top 37
abbrev s__law_read_row : Stmt := top 38
abbrev s__law_read : Stmt := top 39
abbrev s__law_told : Stmt := top 40
abbrev s_law : Stmt := top 41
theorem sc_number_of : FnScope ["word", "digits", "number", "sign"] ["word"] (defScope s_number_of) := ⟨rfl, rfl, rfl, by decide +kernel, rfl, by decide +kernel, by decide +kernel⟩
theorem sc_show_word : FnScope ["thing"] ["thing"] (defScope s_show_word) := ⟨rfl, rfl, rfl, by decide +kernel, rfl, by decide +kernel, by decide +kernel⟩
theorem sc_show_deed : FnScope ["deed", "thing"] ["deed"] (defScope s_show_deed) := ⟨rfl, rfl, rfl, by decide +kernel, rfl, by decide +kernel, by decide +kernel⟩
theorem sc_show_deeds : FnScope ["deeds", "deed"] ["deeds"] (defScope s_show_deeds) := ⟨rfl, rfl, rfl, by decide +kernel, rfl, by decide +kernel, by decide +kernel⟩
theorem sc_read_number : FnScope ["word", "number"] ["word"] (defScope s_read_number) := ⟨rfl, rfl, rfl, by decide +kernel, rfl, by decide +kernel, by decide +kernel⟩
theorem sc_read_division : FnScope ["name", "words", "x", "divisor", "many", "word"] ["name", "words"] (defScope s_read_division) := ⟨rfl, rfl, rfl, by decide +kernel, rfl, by decide +kernel, by decide +kernel⟩
theorem sc_read_deed : FnScope ["line", "words", "x", "divisor", "many", "number", "top", "look", "figure"] ["line"] (defScope s_read_deed) := ⟨rfl, rfl, rfl, by decide +kernel, rfl, by decide +kernel, by decide +kernel⟩
theorem sc_read_deeds : FnScope ["text", "line"] ["text"] (defScope s_read_deeds) := ⟨rfl, rfl, rfl, by decide +kernel, rfl, by decide +kernel, by decide +kernel⟩
theorem sc__law_deck : FnScope ["cell", "turn"] ["cell", "turn"] (defScope s__law_deck) := ⟨rfl, rfl, rfl, by decide +kernel, rfl, by decide +kernel, by decide +kernel⟩
theorem sc__law_pick : FnScope ["deck", "many", "found", "number"] ["deck", "many"] (defScope s__law_pick) := ⟨rfl, rfl, rfl, by decide +kernel, rfl, by decide +kernel, by decide +kernel⟩
theorem sc__law_great : FnScope ["deck", "figures", "size", "turn", "found"] ["deck", "figures"] (defScope s__law_great) := ⟨rfl, rfl, rfl, by decide +kernel, rfl, by decide +kernel, by decide +kernel⟩
theorem sc__law_name_of : FnScope ["e", "kinds", "names", "name", "kind"] ["e"] (defScope s__law_name_of) := ⟨rfl, rfl, rfl, by decide +kernel, rfl, by decide +kernel, by decide +kernel⟩
theorem sc__law_signs : FnScope [] [] (defScope s__law_signs) := ⟨rfl, rfl, rfl, by decide +kernel, rfl, by decide +kernel, by decide +kernel⟩
theorem sc__law_sign_bent : FnScope ["deck", "text", "signs", "at", "sign"] ["deck", "text"] (defScope s__law_sign_bent) := ⟨rfl, rfl, rfl, by decide +kernel, rfl, by decide +kernel, by decide +kernel⟩
theorem sc__law_list_bent : FnScope ["deck", "some", "at", "other", "kind", "crossed"] ["deck", "some"] (defScope s__law_list_bent) := ⟨rfl, rfl, rfl, by decide +kernel, rfl, by decide +kernel, by decide +kernel⟩
theorem sc__law_bent : FnScope ["deck", "text", "joints", "kind", "joint"] ["deck", "text", "joints"] (defScope s__law_bent) := ⟨rfl, rfl, rfl, by decide +kernel, rfl, by decide +kernel, by decide +kernel⟩
theorem sc__law_number : FnScope ["word", "digits", "sign"] ["word"] (defScope s__law_number) := ⟨rfl, rfl, rfl, by decide +kernel, rfl, by decide +kernel, by decide +kernel⟩
theorem sc__law_deeds : FnScope ["deck", "deeds", "k", "kind", "far", "many"] ["deck"] (defScope s__law_deeds) := ⟨rfl, rfl, rfl, by decide +kernel, rfl, by decide +kernel, by decide +kernel⟩
theorem sc__law_text : FnScope ["deeds", "rows", "deed", "part"] ["deeds"] (defScope s__law_text) := ⟨rfl, rfl, rfl, by decide +kernel, rfl, by decide +kernel, by decide +kernel⟩
theorem sc__law_read_row : FnScope ["row", "words", "forms", "numbers", "free", "word"] ["row"] (defScope s__law_read_row) := ⟨rfl, rfl, rfl, by decide +kernel, rfl, by decide +kernel, by decide +kernel⟩
theorem sc__law_read : FnScope ["text", "deeds", "row"] ["text"] (defScope s__law_read) := ⟨rfl, rfl, rfl, by decide +kernel, rfl, by decide +kernel, by decide +kernel⟩
theorem sc__law_told : FnScope ["text", "told", "fault", "e"] ["text"] (defScope s__law_told) := ⟨rfl, rfl, rfl, by decide +kernel, rfl, by decide +kernel, by decide +kernel⟩
theorem sc_law : FnScope ["script", "deck", "deeds", "handed", "text", "cell", "bent", "turn", "due", "told", "fault"] ["script"] (defScope s_law) := ⟨rfl, rfl, rfl, by decide +kernel, rfl, by decide +kernel, by decide +kernel⟩
set_option genInjectivity false
set_option genSizeOf false
set_option genSizeOfSpec false
/-- what the top has left -/
structure Txt (K : PySem.W.Frag) (mg : Str → Option Value) where
  C_NoText : Addr
  g_NoText : mg "NoText" = some (.ref C_NoText)
  C_NoFigure : Addr
  g_NoFigure : mg "NoFigure" = some (.ref C_NoFigure)
  C_NoLooks : Addr
  g_NoLooks : mg "NoLooks" = some (.ref C_NoLooks)
  C_NoRoom : Addr
  g_NoRoom : mg "NoRoom" = some (.ref C_NoRoom)
  C_NoRow : Addr
  g_NoRow : mg "NoRow" = some (.ref C_NoRow)
  C_NoTable : Addr
  g_NoTable : mg "NoTable" = some (.ref C_NoTable)
  C_Spoilt : Addr
  g_Spoilt : mg "Spoilt" = some (.ref C_Spoilt)
  C_NoMore : Addr
  g_NoMore : mg "NoMore" = some (.ref C_NoMore)
  C_NoWork : Addr
  g_NoWork : mg "NoWork" = some (.ref C_NoWork)
  C_NoCell : Addr
  g_NoCell : mg "NoCell" = some (.ref C_NoCell)
  C_NoDeed : Addr
  g_NoDeed : mg "NoDeed" = some (.ref C_NoDeed)
  C_SlackError : Addr
  g_SlackError : mg "SlackError" = some (.ref C_SlackError)
  xb_SlackError : PySem.W.subIn K (.ref C_SlackError) (.type "BaseException") = some true
  xd_SlackError : PySem.W.hasDictIn K C_SlackError = true
  xt_SlackError : PySem.W.typeIn K (.ref C_SlackError) = some (.type "type")
  xu_NoText_SlackError : PySem.W.subIn K (.ref C_NoText) (.ref C_SlackError) = some true
  kc_NoText : PySem.W.keepIn K (.ref C_NoText) = true
  eb_NoText : PySem.W.subIn K (.ref C_NoText) (.type "BaseException") = some true
  et_NoText : PySem.W.typeIn K (.ref C_NoText) = some (.type "type")
  ed_NoText : PySem.W.hasDictIn K C_NoText = true
  eg_NoText : PySem.W.findIn K (.ref C_NoText) "__getattribute__" = some (some (.builtin "BaseException.__getattribute__"))
  ek_NoText : PySem.W.findIn K (.ref C_NoText) "__getattr__" = some none
  ea_NoText : PySem.W.findIn K (.ref C_NoText) "__class__" = some (some (.builtin "object.__class__"))
  em_NoText : PySem.W.mroIn K C_NoText (.type "object") = some true
  xq_NoText : PySem.W.excIn K C_NoText [.type "ValueError", .type "Exception", .type "BaseException", .type "object"] "ValueError.__new__" = true
  ss_NoText : PySem.W.subIn K (.ref C_NoText) (.ref C_NoText) = some true
  ii_NoText_NoFigure : PySem.W.subIn K (.ref C_NoText) (.ref C_NoFigure) = some false
  ii_NoText_NoLooks : PySem.W.subIn K (.ref C_NoText) (.ref C_NoLooks) = some false
  ii_NoText_NoRoom : PySem.W.subIn K (.ref C_NoText) (.ref C_NoRoom) = some false
  ii_NoText_NoRow : PySem.W.subIn K (.ref C_NoText) (.ref C_NoRow) = some false
  ii_NoText_NoTable : PySem.W.subIn K (.ref C_NoText) (.ref C_NoTable) = some false
  ii_NoText_NoText : PySem.W.subIn K (.ref C_NoText) (.ref C_NoText) = some true
  ii_NoText_Spoilt : PySem.W.subIn K (.ref C_NoText) (.ref C_Spoilt) = some false
  ii_NoText_NoMore : PySem.W.subIn K (.ref C_NoText) (.ref C_NoMore) = some false
  ii_NoText_NoWork : PySem.W.subIn K (.ref C_NoText) (.ref C_NoWork) = some false
  ii_NoText_NoCell : PySem.W.subIn K (.ref C_NoText) (.ref C_NoCell) = some false
  ii_NoText_NoDeed : PySem.W.subIn K (.ref C_NoText) (.ref C_NoDeed) = some false
  ii_NoText_ValueError : PySem.W.subIn K (.ref C_NoText) (.type "ValueError") = some true
  id_NoFigure : PySem.W.hasDictIn K C_NoFigure = true
  it_NoFigure : PySem.W.typeIn K (.ref C_NoFigure) = some (.type "type")
  id_NoLooks : PySem.W.hasDictIn K C_NoLooks = true
  it_NoLooks : PySem.W.typeIn K (.ref C_NoLooks) = some (.type "type")
  id_NoRoom : PySem.W.hasDictIn K C_NoRoom = true
  it_NoRoom : PySem.W.typeIn K (.ref C_NoRoom) = some (.type "type")
  id_NoRow : PySem.W.hasDictIn K C_NoRow = true
  it_NoRow : PySem.W.typeIn K (.ref C_NoRow) = some (.type "type")
  id_NoTable : PySem.W.hasDictIn K C_NoTable = true
  it_NoTable : PySem.W.typeIn K (.ref C_NoTable) = some (.type "type")
  id_NoText : PySem.W.hasDictIn K C_NoText = true
  it_NoText : PySem.W.typeIn K (.ref C_NoText) = some (.type "type")
  id_Spoilt : PySem.W.hasDictIn K C_Spoilt = true
  it_Spoilt : PySem.W.typeIn K (.ref C_Spoilt) = some (.type "type")
  id_NoMore : PySem.W.hasDictIn K C_NoMore = true
  it_NoMore : PySem.W.typeIn K (.ref C_NoMore) = some (.type "type")
  id_NoWork : PySem.W.hasDictIn K C_NoWork = true
  it_NoWork : PySem.W.typeIn K (.ref C_NoWork) = some (.type "type")
  id_NoCell : PySem.W.hasDictIn K C_NoCell = true
  it_NoCell : PySem.W.typeIn K (.ref C_NoCell) = some (.type "type")
  id_NoDeed : PySem.W.hasDictIn K C_NoDeed = true
  it_NoDeed : PySem.W.typeIn K (.ref C_NoDeed) = some (.type "type")
  e_n : PySem.W.specialIn K (.builtin "object.__class__") "__get__" = some (some (.builtin "getset_descriptor.__get__"))
  e_k : PySem.W.takesIn K (.builtin "object.__class__") = some true
  a_number_of : Addr
  fd_number_of : FuncData
  F_number_of : Fun K "number_of" "number_of" s_number_of a_number_of fd_number_of
  m_number_of : mg "number_of" = some (.ref a_number_of)
  b_number_of : Binds K fd_number_of ["word"] []
  a_show_word : Addr
  fd_show_word : FuncData
  F_show_word : Fun K "show_word" "show_word" s_show_word a_show_word fd_show_word
  m_show_word : mg "show_word" = some (.ref a_show_word)
  b_show_word : Binds K fd_show_word ["thing"] []
  a_show_deed : Addr
  fd_show_deed : FuncData
  F_show_deed : Fun K "show_deed" "show_deed" s_show_deed a_show_deed fd_show_deed
  m_show_deed : mg "show_deed" = some (.ref a_show_deed)
  b_show_deed : Binds K fd_show_deed ["deed"] []
  a_show_deeds : Addr
  fd_show_deeds : FuncData
  F_show_deeds : Fun K "show_deeds" "show_deeds" s_show_deeds a_show_deeds fd_show_deeds
  m_show_deeds : mg "show_deeds" = some (.ref a_show_deeds)
  b_show_deeds : Binds K fd_show_deeds ["deeds"] []
  a_read_number : Addr
  fd_read_number : FuncData
  F_read_number : Fun K "read_number" "read_number" s_read_number a_read_number fd_read_number
  m_read_number : mg "read_number" = some (.ref a_read_number)
  b_read_number : Binds K fd_read_number ["word"] []
  a_read_division : Addr
  fd_read_division : FuncData
  F_read_division : Fun K "read_division" "read_division" s_read_division a_read_division fd_read_division
  m_read_division : mg "read_division" = some (.ref a_read_division)
  b_read_division : Binds K fd_read_division ["name", "words"] []
  a_read_deed : Addr
  fd_read_deed : FuncData
  F_read_deed : Fun K "read_deed" "read_deed" s_read_deed a_read_deed fd_read_deed
  m_read_deed : mg "read_deed" = some (.ref a_read_deed)
  b_read_deed : Binds K fd_read_deed ["line"] []
  a_read_deeds : Addr
  fd_read_deeds : FuncData
  F_read_deeds : Fun K "read_deeds" "read_deeds" s_read_deeds a_read_deeds fd_read_deeds
  m_read_deeds : mg "read_deeds" = some (.ref a_read_deeds)
  b_read_deeds : Binds K fd_read_deeds ["text"] []
  a__law_deck : Addr
  fd__law_deck : FuncData
  F__law_deck : Fun K "_law_deck" "_law_deck" s__law_deck a__law_deck fd__law_deck
  m__law_deck : mg "_law_deck" = some (.ref a__law_deck)
  b__law_deck : Binds K fd__law_deck ["cell", "turn"] []
  a__law_pick : Addr
  fd__law_pick : FuncData
  F__law_pick : Fun K "_law_pick" "_law_pick" s__law_pick a__law_pick fd__law_pick
  m__law_pick : mg "_law_pick" = some (.ref a__law_pick)
  b__law_pick : Binds K fd__law_pick ["deck", "many"] []
  a__law_great : Addr
  fd__law_great : FuncData
  F__law_great : Fun K "_law_great" "_law_great" s__law_great a__law_great fd__law_great
  m__law_great : mg "_law_great" = some (.ref a__law_great)
  b__law_great : Binds K fd__law_great ["deck", "figures"] []
  a__law_name_of : Addr
  fd__law_name_of : FuncData
  F__law_name_of : Fun K "_law_name_of" "_law_name_of" s__law_name_of a__law_name_of fd__law_name_of
  m__law_name_of : mg "_law_name_of" = some (.ref a__law_name_of)
  b__law_name_of : Binds K fd__law_name_of ["e"] []
  a__law_signs : Addr
  fd__law_signs : FuncData
  F__law_signs : Fun K "_law_signs" "_law_signs" s__law_signs a__law_signs fd__law_signs
  m__law_signs : mg "_law_signs" = some (.ref a__law_signs)
  b__law_signs : Binds K fd__law_signs [] []
  a__law_sign_bent : Addr
  fd__law_sign_bent : FuncData
  F__law_sign_bent : Fun K "_law_sign_bent" "_law_sign_bent" s__law_sign_bent a__law_sign_bent fd__law_sign_bent
  m__law_sign_bent : mg "_law_sign_bent" = some (.ref a__law_sign_bent)
  b__law_sign_bent : Binds K fd__law_sign_bent ["deck", "text"] []
  a__law_list_bent : Addr
  fd__law_list_bent : FuncData
  F__law_list_bent : Fun K "_law_list_bent" "_law_list_bent" s__law_list_bent a__law_list_bent fd__law_list_bent
  m__law_list_bent : mg "_law_list_bent" = some (.ref a__law_list_bent)
  b__law_list_bent : Binds K fd__law_list_bent ["deck", "some"] []
  a__law_bent : Addr
  fd__law_bent : FuncData
  F__law_bent : Fun K "_law_bent" "_law_bent" s__law_bent a__law_bent fd__law_bent
  m__law_bent : mg "_law_bent" = some (.ref a__law_bent)
  b__law_bent : Binds K fd__law_bent ["deck", "text", "joints"] []
  a__law_number : Addr
  fd__law_number : FuncData
  F__law_number : Fun K "_law_number" "_law_number" s__law_number a__law_number fd__law_number
  m__law_number : mg "_law_number" = some (.ref a__law_number)
  b__law_number : Binds K fd__law_number ["word"] []
  a__law_deeds : Addr
  fd__law_deeds : FuncData
  F__law_deeds : Fun K "_law_deeds" "_law_deeds" s__law_deeds a__law_deeds fd__law_deeds
  m__law_deeds : mg "_law_deeds" = some (.ref a__law_deeds)
  b__law_deeds : Binds K fd__law_deeds ["deck"] []
  a__law_text : Addr
  fd__law_text : FuncData
  F__law_text : Fun K "_law_text" "_law_text" s__law_text a__law_text fd__law_text
  m__law_text : mg "_law_text" = some (.ref a__law_text)
  b__law_text : Binds K fd__law_text ["deeds"] []
  a__law_read_row : Addr
  fd__law_read_row : FuncData
  F__law_read_row : Fun K "_law_read_row" "_law_read_row" s__law_read_row a__law_read_row fd__law_read_row
  m__law_read_row : mg "_law_read_row" = some (.ref a__law_read_row)
  b__law_read_row : Binds K fd__law_read_row ["row"] []
  a__law_read : Addr
  fd__law_read : FuncData
  F__law_read : Fun K "_law_read" "_law_read" s__law_read a__law_read fd__law_read
  m__law_read : mg "_law_read" = some (.ref a__law_read)
  b__law_read : Binds K fd__law_read ["text"] []
  a__law_told : Addr
  fd__law_told : FuncData
  F__law_told : Fun K "_law_told" "_law_told" s__law_told a__law_told fd__law_told
  m__law_told : mg "_law_told" = some (.ref a__law_told)
  b__law_told : Binds K fd__law_told ["text"] []
  a_law : Addr
  fd_law : FuncData
  F_law : Fun K "law" "law" s_law a_law fd_law
  m_law : mg "law" = some (.ref a_law)
  b_law : Binds K fd_law ["script"] []
  z_len : mg "len" = none
  z_all : mg "all" = none
  z_int : mg "int" = none
  z_str : mg "str" = none
  z_range : mg "range" = none
  z_isinstance : mg "isinstance" = none
  z_ValueError : mg "ValueError" = none
  z_zip : mg "zip" = none
  z_tuple : mg "tuple" = none
  z_list : mg "list" = none
  u_DIGITS : Value
  m_DIGITS : mg "DIGITS" = some u_DIGITS
  r_DIGITS : RelV (.str "0123456789") u_DIGITS
  u_MOST_DIGITS : Value
  m_MOST_DIGITS : mg "MOST_DIGITS" = some u_MOST_DIGITS
  r_MOST_DIGITS : RelV (.int 60) u_MOST_DIGITS
  u_MOST_FIGURES : Value
  m_MOST_FIGURES : mg "MOST_FIGURES" = some u_MOST_FIGURES
  r_MOST_FIGURES : RelV (.int 250) u_MOST_FIGURES
def Txt.exs {K : PySem.W.Frag} {mg : Str → Option Value} (T : Txt K mg) : List (Str × Addr) := [("NoText", T.C_NoText)]
theorem Txt.ec_NoText {K : PySem.W.Frag} {mg : Str → Option Value} (T : Txt K mg) : ExcC K T.C_NoText := ⟨T.eg_NoText, T.ek_NoText, T.eb_NoText, T.ed_NoText, T.ea_NoText, T.e_n, T.e_k, T.em_NoText⟩
theorem Txt.in_NoText {K : PySem.W.Frag} {mg : Str → Option Value} (T : Txt K mg) : (("NoText" : Str), T.C_NoText) ∈ T.exs := by unfold Txt.exs; simp
theorem Txt.isx_NoFigure {K : PySem.W.Frag} {mg : Str → Option Value} (T : Txt K mg) : ∀ n D, (n, D) ∈ T.exs → ExcC K D ∧ PySem.W.kitOne K (.ref D) (.ref T.C_NoFigure) = some (isq "NoFigure" n) := by
  intro n D h
  have h : (n = "NoText" ∧ D = T.C_NoText) := by
    unfold Txt.exs at h
    simpa using h
  skip
  · rw [h.1, h.2]; exact ⟨T.ec_NoText, (kit_ref T.id_NoFigure T.it_NoFigure T.ss_NoText T.ii_NoText_NoFigure).trans (by decide +kernel)⟩
theorem Txt.isx_NoLooks {K : PySem.W.Frag} {mg : Str → Option Value} (T : Txt K mg) : ∀ n D, (n, D) ∈ T.exs → ExcC K D ∧ PySem.W.kitOne K (.ref D) (.ref T.C_NoLooks) = some (isq "NoLooks" n) := by
  intro n D h
  have h : (n = "NoText" ∧ D = T.C_NoText) := by
    unfold Txt.exs at h
    simpa using h
  skip
  · rw [h.1, h.2]; exact ⟨T.ec_NoText, (kit_ref T.id_NoLooks T.it_NoLooks T.ss_NoText T.ii_NoText_NoLooks).trans (by decide +kernel)⟩
theorem Txt.isx_NoRoom {K : PySem.W.Frag} {mg : Str → Option Value} (T : Txt K mg) : ∀ n D, (n, D) ∈ T.exs → ExcC K D ∧ PySem.W.kitOne K (.ref D) (.ref T.C_NoRoom) = some (isq "NoRoom" n) := by
  intro n D h
  have h : (n = "NoText" ∧ D = T.C_NoText) := by
    unfold Txt.exs at h
    simpa using h
  skip
  · rw [h.1, h.2]; exact ⟨T.ec_NoText, (kit_ref T.id_NoRoom T.it_NoRoom T.ss_NoText T.ii_NoText_NoRoom).trans (by decide +kernel)⟩
theorem Txt.isx_NoRow {K : PySem.W.Frag} {mg : Str → Option Value} (T : Txt K mg) : ∀ n D, (n, D) ∈ T.exs → ExcC K D ∧ PySem.W.kitOne K (.ref D) (.ref T.C_NoRow) = some (isq "NoRow" n) := by
  intro n D h
  have h : (n = "NoText" ∧ D = T.C_NoText) := by
    unfold Txt.exs at h
    simpa using h
  skip
  · rw [h.1, h.2]; exact ⟨T.ec_NoText, (kit_ref T.id_NoRow T.it_NoRow T.ss_NoText T.ii_NoText_NoRow).trans (by decide +kernel)⟩
theorem Txt.isx_NoTable {K : PySem.W.Frag} {mg : Str → Option Value} (T : Txt K mg) : ∀ n D, (n, D) ∈ T.exs → ExcC K D ∧ PySem.W.kitOne K (.ref D) (.ref T.C_NoTable) = some (isq "NoTable" n) := by
  intro n D h
  have h : (n = "NoText" ∧ D = T.C_NoText) := by
    unfold Txt.exs at h
    simpa using h
  skip
  · rw [h.1, h.2]; exact ⟨T.ec_NoText, (kit_ref T.id_NoTable T.it_NoTable T.ss_NoText T.ii_NoText_NoTable).trans (by decide +kernel)⟩
theorem Txt.isx_NoText {K : PySem.W.Frag} {mg : Str → Option Value} (T : Txt K mg) : ∀ n D, (n, D) ∈ T.exs → ExcC K D ∧ PySem.W.kitOne K (.ref D) (.ref T.C_NoText) = some (isq "NoText" n) := by
  intro n D h
  have h : (n = "NoText" ∧ D = T.C_NoText) := by
    unfold Txt.exs at h
    simpa using h
  skip
  · rw [h.1, h.2]; exact ⟨T.ec_NoText, (kit_ref T.id_NoText T.it_NoText T.ss_NoText T.ii_NoText_NoText).trans (by decide +kernel)⟩
theorem Txt.isx_Spoilt {K : PySem.W.Frag} {mg : Str → Option Value} (T : Txt K mg) : ∀ n D, (n, D) ∈ T.exs → ExcC K D ∧ PySem.W.kitOne K (.ref D) (.ref T.C_Spoilt) = some (isq "Spoilt" n) := by
  intro n D h
  have h : (n = "NoText" ∧ D = T.C_NoText) := by
    unfold Txt.exs at h
    simpa using h
  skip
  · rw [h.1, h.2]; exact ⟨T.ec_NoText, (kit_ref T.id_Spoilt T.it_Spoilt T.ss_NoText T.ii_NoText_Spoilt).trans (by decide +kernel)⟩
theorem Txt.isx_NoMore {K : PySem.W.Frag} {mg : Str → Option Value} (T : Txt K mg) : ∀ n D, (n, D) ∈ T.exs → ExcC K D ∧ PySem.W.kitOne K (.ref D) (.ref T.C_NoMore) = some (isq "NoMore" n) := by
  intro n D h
  have h : (n = "NoText" ∧ D = T.C_NoText) := by
    unfold Txt.exs at h
    simpa using h
  skip
  · rw [h.1, h.2]; exact ⟨T.ec_NoText, (kit_ref T.id_NoMore T.it_NoMore T.ss_NoText T.ii_NoText_NoMore).trans (by decide +kernel)⟩
theorem Txt.isx_NoWork {K : PySem.W.Frag} {mg : Str → Option Value} (T : Txt K mg) : ∀ n D, (n, D) ∈ T.exs → ExcC K D ∧ PySem.W.kitOne K (.ref D) (.ref T.C_NoWork) = some (isq "NoWork" n) := by
  intro n D h
  have h : (n = "NoText" ∧ D = T.C_NoText) := by
    unfold Txt.exs at h
    simpa using h
  skip
  · rw [h.1, h.2]; exact ⟨T.ec_NoText, (kit_ref T.id_NoWork T.it_NoWork T.ss_NoText T.ii_NoText_NoWork).trans (by decide +kernel)⟩
theorem Txt.isx_NoCell {K : PySem.W.Frag} {mg : Str → Option Value} (T : Txt K mg) : ∀ n D, (n, D) ∈ T.exs → ExcC K D ∧ PySem.W.kitOne K (.ref D) (.ref T.C_NoCell) = some (isq "NoCell" n) := by
  intro n D h
  have h : (n = "NoText" ∧ D = T.C_NoText) := by
    unfold Txt.exs at h
    simpa using h
  skip
  · rw [h.1, h.2]; exact ⟨T.ec_NoText, (kit_ref T.id_NoCell T.it_NoCell T.ss_NoText T.ii_NoText_NoCell).trans (by decide +kernel)⟩
theorem Txt.isx_NoDeed {K : PySem.W.Frag} {mg : Str → Option Value} (T : Txt K mg) : ∀ n D, (n, D) ∈ T.exs → ExcC K D ∧ PySem.W.kitOne K (.ref D) (.ref T.C_NoDeed) = some (isq "NoDeed" n) := by
  intro n D h
  have h : (n = "NoText" ∧ D = T.C_NoText) := by
    unfold Txt.exs at h
    simpa using h
  skip
  · rw [h.1, h.2]; exact ⟨T.ec_NoText, (kit_ref T.id_NoDeed T.it_NoDeed T.ss_NoText T.ii_NoText_NoDeed).trans (by decide +kernel)⟩
theorem Txt.isx_ValueError {K : PySem.W.Frag} {mg : Str → Option Value} (T : Txt K mg) : ∀ n D, (n, D) ∈ T.exs → ExcC K D ∧ PySem.W.kitOne K (.ref D) (.type "ValueError") = some (isa n) := by
  intro n D h
  have h : (n = "NoText" ∧ D = T.C_NoText) := by
    unfold Txt.exs at h
    simpa using h
  skip
  · rw [h.1, h.2]; exact ⟨T.ec_NoText, (kit_VE T.ii_NoText_ValueError).trans (by decide +kernel)⟩
theorem Txt.exm_SlackError {K : PySem.W.Frag} {mg : Str → Option Value} (T : Txt K mg) : ∀ n D is, (n, D) ∈ T.exs → PySem.W.exmOne K (.ref D) (.ref T.C_SlackError) = some (isa (nmX (exD n is))) := by
  intro n D is h
  have h : (n = "NoText" ∧ D = T.C_NoText) := by
    unfold Txt.exs at h
    simpa using h
  skip
  · rw [h.1, h.2]; exact (PySem.W.exm_ref T.xb_SlackError T.xd_SlackError T.xt_SlackError T.xu_NoText_SlackError).trans (by show _ = some (isa "NoText"); decide +kernel)
section
variable {P : Program} {w : World} {K : PySem.W.Frag} {mg : Str → Option Value} {base : Heap}
set_option maxHeartbeats 0 in
theorem ok_number_of (T : Txt K mg) : FnOk P w K mg base CX0 1 T.a_number_of T.fd_number_of ["word"] (SpP K 1 (u1 m_number_of)) := by
  refine T.F_number_of.ok sc_number_of (fun vs H Q E h => h.1) (fun cdv A outer s H vs Q E hr h => ?_)
  refine ⟨_, (pss_cons (ps_set (i := 1) sc_number_of.nd rfl (Or.inl rfl) (pe_m1 PySem.F.slot_str_removeprefix PySem.F.type_str_removeprefix mt_removeprefix (pv 0) pe_str))
      (pss_cons (ps_if (PW.pt (pw_or (pt_not (pt_chain op_le op_le pe_int (pe_callB call_len (by rfl) T.z_len (by decide +kernel) (pa_cons (pv 1) pa_nil)) (pe_glob rfl T.m_MOST_DIGITS T.r_MOST_DIGITS))) (pw_or1 (pt_not (pt_truth (pe_callB (cr_all rfl) (by rfl) T.z_all (by decide +kernel) (pa_cons (pe_lc (own := [("sign", 3)]) (g := (gName 3)) (tt := tYes) rfl sc_number_of.nd (pi_str (pv 1)) (blkOk_by (own := [("sign", 3)]) (N := ["word", "digits", "number", "sign"]) (sc := defScope s_number_of) (by decide +kernel)) (fun _ _ _ _ _ => (pg_name (i := 3) sc_number_of.nd rfl (Or.inl rfl))) (fun _ _ _ _ _ => pts_nil) (fun _ _ _ _ _ => (pe_cmpR (show OpR _ _ (fun x y H Q => ∃ (c : Nat) (z : Str), x = .str ⟨#[c]⟩ ∧ y = .str z ∧ Q (.bl (decide (c ∈ z.cps.toList))) H) from op_in_sign) (pv 3) (pe_glob rfl T.m_DIGITS T.r_DIGITS) (by rfl)))) pa_nil)) (by intro _; rfl)))))) (pss_cons (ps_ret pe_non)
      pss_nil) pss_nil)
      (pss_cons (ps_set (i := 2) sc_number_of.nd rfl (Or.inl rfl) (pe_callTy call_int_str (by rfl) T.z_int (by decide +kernel) (pa_cons (pv 0) pa_nil)))
      (pss_cons (ps_ret (pe_ifExp (pt_cmpR (op_eqD hr.units) (pe_callTy call_str_int (by rfl) T.z_str (by decide +kernel) (pa_cons (pv 2) pa_nil)) (pv 0) (nomark _)) (pv 2) pe_non))
      pss_nil)))), body_P h fun ds O hl => ?_⟩
  have h1 := h.1
  obtain ⟨v_0, rfl⟩ := ls1 (l := vs) (by first | exact h1 | exact Nat.succ.inj h1)
  obtain ⟨x_0, rfl⟩ := ls1 (l := ds) (by first | exact hl.symm | exact hl)
  refine ⟨_, rfl, ?_⟩
  refine sv_st (σ' := [some v_0, none, none, none]) rfl ?_
  refine sv_asg sub0 (ev_m1 ms_removeprefix (ev_var rfl (.head _)) ev_str) (σ' := (fun v1 => [some v_0, some v1, none, none])) (fun _ => rfl) fun v1 x8 => ?_
  refine sv_if sub0 (tv_or (tv_not (tv_test (ev_chain os_le os_le ev_int (ev_cb cs_len (av_cons (ev_var rfl (.head _)) av_nil)) ev_int))) (tv_not (tv_tr (ev_cb cs_all (av_cons (ev_lc1 (σ2 := fun v2 => [some v_0, some v1, none, some v2]) (iv_txt (ev_var rfl (.head _))) (fun _ => rfl) (fun _ => rfl) (fun v2 x3 => tv_yes) (fun v2 x3 => (ev_op os_sgn (ev_var rfl (.head _)) ev_str))) av_nil))))) ?_ ?_
  · refine sv_assoc ?_
    exact sv_ret sub0 ev_non
  · refine sv_skip ?_
    refine sv_asg sub0 (ev_cb cs_tint (av_cons (ev_var rfl (.tail _ (.head _))) av_nil)) (σ' := (fun v4 => [some v_0, some v1, some v4, none])) (fun _ => rfl) fun v4 x5 => ?_
    exact sv_ret sub0 (ev_if (tv_test (ev_op os_eq (ev_cb cs_str (av_cons (ev_var rfl (.head _)) av_nil)) (ev_var rfl (.tail _ (.tail _ (.head _)))))) (ev_var rfl (.head _)) ev_non)
set_option maxHeartbeats 0 in
theorem ok_show_word (T : Txt K mg) : FnOk P w K mg base CX0 1 T.a_show_word T.fd_show_word ["thing"] (SpP K 1 (u1 m_show_word)) := by
  refine T.F_show_word.ok sc_show_word (fun vs H Q E h => h.1) (fun cdv A outer s H vs Q E hr h => ?_)
  refine ⟨_, (pss_cons (ps_ret (pe_ifExp (pt_cmpR op_isU (pv 0) pe_non (nomark _)) pe_str (pe_callTy call_strX (by rfl) T.z_str (by decide +kernel) (pa_cons (pv 0) pa_nil))))
      pss_nil), body_P h fun ds O hl => ?_⟩
  have h1 := h.1
  obtain ⟨v_0, rfl⟩ := ls1 (l := vs) (by first | exact h1 | exact Nat.succ.inj h1)
  obtain ⟨x_0, rfl⟩ := ls1 (l := ds) (by first | exact hl.symm | exact hl)
  refine ⟨_, rfl, ?_⟩
  refine sv_st (σ' := [some v_0]) rfl ?_
  exact sv_ret sub0 (ev_if (tv_test (ev_op os_is (ev_var rfl (.head _)) ev_non)) ev_str (ev_cb cs_strX (av_cons (ev_var rfl (.head _)) av_nil)))
set_option maxHeartbeats 0 in
theorem ok_show_deed (T : Txt K mg) : FnOk P w K mg base CX0 2 T.a_show_deed T.fd_show_deed ["deed"] (SpP K 1 (u1 m_show_deed)) := by
  refine T.F_show_deed.ok sc_show_deed (fun vs H Q E h => h.1) (fun cdv A outer s H vs Q E hr h => ?_)
  refine ⟨_, (pss_cons (ps_ret (pe_join pe_str (pe_lc (own := [("thing", 1)]) (g := (gName 1)) (tt := tYes) rfl sc_show_deed.nd (pi_seq (pv 0)) (blkOk_by (own := [("thing", 1)]) (N := ["deed", "thing"]) (sc := defScope s_show_deed) (by decide +kernel)) (fun _ _ _ _ _ => (pg_name (i := 1) sc_show_deed.nd rfl (Or.inl rfl))) (fun _ _ _ _ _ => pts_nil) (fun _ _ _ _ _ => (pe_call (ok_show_word T) (hr.mono (by decide)) (by exact rfl) T.m_show_word T.F_show_word.kp T.b_show_word .nil pass0 (pa_cons (pv 1) pa_nil))))))
      pss_nil), body_P h fun ds O hl => ?_⟩
  have h1 := h.1
  obtain ⟨v_0, rfl⟩ := ls1 (l := vs) (by first | exact h1 | exact Nat.succ.inj h1)
  obtain ⟨x_0, rfl⟩ := ls1 (l := ds) (by first | exact hl.symm | exact hl)
  refine ⟨_, rfl, ?_⟩
  refine sv_st (σ' := [some v_0, none]) rfl ?_
  exact sv_ret sub0 (ev_join ev_str (ev_lc1 (σ2 := fun v1 => [some v_0, some v1]) (iv_seq (ev_var rfl (.head _))) (fun _ => rfl) (fun _ => rfl) (fun v1 x2 => tv_yes) (fun v1 x2 => (ev_cP (fun _ => u1_len) (av_cons (ev_var rfl (.head _)) av_nil)))))
set_option maxHeartbeats 0 in
theorem ok_show_deeds (T : Txt K mg) : FnOk P w K mg base CX0 3 T.a_show_deeds T.fd_show_deeds ["deeds"] (SpP K 1 (u1 m_show_deeds)) := by
  refine T.F_show_deeds.ok sc_show_deeds (fun vs H Q E h => h.1) (fun cdv A outer s H vs Q E hr h => ?_)
  refine ⟨_, (pss_cons (ps_ret (pe_join pe_str (pe_lc (own := [("deed", 1)]) (g := (gName 1)) (tt := tYes) rfl sc_show_deeds.nd (pi_seq (pv 0)) (blkOk_by (own := [("deed", 1)]) (N := ["deeds", "deed"]) (sc := defScope s_show_deeds) (by decide +kernel)) (fun _ _ _ _ _ => (pg_name (i := 1) sc_show_deeds.nd rfl (Or.inl rfl))) (fun _ _ _ _ _ => pts_nil) (fun _ _ _ _ _ => (pe_call (ok_show_deed T) (hr.mono (by decide)) (by exact rfl) T.m_show_deed T.F_show_deed.kp T.b_show_deed .nil pass0 (pa_cons (pv 1) pa_nil))))))
      pss_nil), body_P h fun ds O hl => ?_⟩
  have h1 := h.1
  obtain ⟨v_0, rfl⟩ := ls1 (l := vs) (by first | exact h1 | exact Nat.succ.inj h1)
  obtain ⟨x_0, rfl⟩ := ls1 (l := ds) (by first | exact hl.symm | exact hl)
  refine ⟨_, rfl, ?_⟩
  refine sv_st (σ' := [some v_0, none]) rfl ?_
  exact sv_ret sub0 (ev_join ev_str (ev_lc1 (σ2 := fun v1 => [some v_0, some v1]) (iv_seq (ev_var rfl (.head _))) (fun _ => rfl) (fun _ => rfl) (fun v1 x2 => tv_yes) (fun v1 x2 => (ev_cP (fun _ => u1_len) (av_cons (ev_var rfl (.head _)) av_nil)))))
set_option maxHeartbeats 0 in
theorem ok_read_number (T : Txt K mg) : FnOk P w K mg base (L2N.CX P w) 2 T.a_read_number T.fd_read_number ["word"] (SpPX K (rootX T.exs) 1 (u1 m_read_number)) := by
  refine okN T.F_read_number sc_read_number (fun vs H Q E h => h.1) (fun cdv A outer s H vs Q E hr h => ?_)
  refine ⟨_, (pss_cons (ps_set (i := 1) sc_read_number.nd rfl (Or.inl rfl) (pe_call (ok_number_of T) (hr.mono (by decide)) rfl T.m_number_of T.F_number_of.kp T.b_number_of .nil pass0 (pa_cons (pv 0) pa_nil)))
      (pss_cons (ps_if (pt_cmpR op_isU (pv 1) pe_non (nomark _)) (pss_cons (L2N.ps_raise rfl (L2N.takes_of rfl rfl rfl rfl) (L2N.pmk_own PySem.F.excBase_ValueError T.xq_NoText T.g_NoText T.kc_NoText (raises_own T.eb_NoText T.et_NoText) rfl))
      pss_nil) pss_nil)
      (pss_cons (ps_ret (pv 1))
      pss_nil))), body_PX h fun ds O hl => ?_⟩
  have h1 := h.1
  obtain ⟨v_0, rfl⟩ := ls1 (l := vs) (by first | exact h1 | exact Nat.succ.inj h1)
  obtain ⟨x_0, rfl⟩ := ls1 (l := ds) (by first | exact hl.symm | exact hl)
  refine ⟨_, rfl, ?_⟩
  refine sv_st (σ' := [some v_0, none]) rfl ?_
  refine sv_asg sub0 (ev_cP (fun _ => u1_len) (av_cons (ev_var rfl (.head _)) av_nil)) (σ' := (fun v1 => [some v_0, some v1])) (fun _ => rfl) fun v1 x2 => ?_
  refine sv_if sub0 (tv_test (ev_op os_is (ev_var rfl (.head _)) ev_non)) ?_ ?_
  · refine sv_assoc ?_
    exact sv_raise0 (n := "NoText") sub0 rfl T.in_NoText (by decide +kernel)
  · refine sv_skip ?_
    exact sv_ret sub0 (ev_var rfl (.head _))
set_option maxHeartbeats 0 in
theorem ok_read_division (T : Txt K mg) : FnOk P w K mg base (L2N.CX P w) 3 T.a_read_division T.fd_read_division ["name", "words"] (SpPX K (rootX T.exs) 2 (u2 m_read_division)) := by
  refine okN T.F_read_division sc_read_division (fun vs H Q E h => h.1) (fun cdv A outer s H vs Q E hr h => ?_)
  refine ⟨_, (pss_cons (ps_asg (pe_lcX rfl rfl (L2N.takes_of rfl rfl rfl rfl) (fun _ _ _ _ h => h) (own := [("word", 5)]) (g := (gName 5)) (tt := tYes) rfl sc_read_division.nd (pi_seq (pv 1)) (blkOk_by (own := [("word", 5)]) (N := ["name", "words", "x", "divisor", "many", "word"]) (sc := defScope s_read_division) (by decide +kernel)) (fun _ _ _ _ _ => (pg_name (i := 5) sc_read_division.nd rfl (Or.inl rfl))) (fun _ _ _ _ _ => pts_nil) (fun _ _ _ _ _ xe pB => (pe_call (ok_read_number T) (hr.mono (by decide)) (by exact rfl) T.m_read_number T.F_read_number.kp T.b_read_number .nil (pB fun _ _ _ h => h) (pa_cons (pv 5) pa_nil)))) (pg_unl rfl (pgs_cons (pg_name (i := 2) sc_read_division.nd rfl (Or.inl rfl)) (pgs_cons (pg_name (i := 3) sc_read_division.nd rfl (Or.inl rfl)) (pgs_cons (pg_name (i := 4) sc_read_division.nd rfl (Or.inl rfl)) pgs_nil)))))
      (pss_cons (ps_if (PW.pt (pw_or (pt_cmpR op_lt (pv 3) pe_int (nomark _)) (pw_or1 (pt_not (pt_chain op_le op_le pe_int (pv 4) (pe_glob rfl T.m_MOST_FIGURES T.r_MOST_FIGURES)))))) (pss_cons (L2N.ps_raise rfl (L2N.takes_of rfl rfl rfl rfl) (L2N.pmk_own PySem.F.excBase_ValueError T.xq_NoText T.g_NoText T.kc_NoText (raises_own T.eb_NoText T.et_NoText) rfl))
      pss_nil) pss_nil)
      (pss_cons (ps_ret (pe_tup (pa_cons (pv 0) (pa_cons (pv 2) (pa_cons (pv 3) (pa_cons (pv 4) pa_nil))))))
      pss_nil))), body_PX h fun ds O hl => ?_⟩
  have h1 := h.1
  obtain ⟨v_0, v_1, rfl⟩ := ls2 (l := vs) (by first | exact h1 | exact Nat.succ.inj h1)
  obtain ⟨x_0, x_1, rfl⟩ := ls2 (l := ds) (by first | exact hl.symm | exact hl)
  refine ⟨_, rfl, ?_⟩
  refine sv_st (σ' := [some v_0, some v_1, none, none, none, none]) rfl ?_
  refine sv_asgT sub0 (ev_lc1 (σ2 := fun v1 => [some v_0, some v_1, none, none, none, some v1]) (iv_seq (ev_var rfl (.tail _ (.head _)))) (fun _ => rfl) (fun _ => rfl) (fun v1 x2 => tv_yes) (fun v1 x2 => (ev_cPX (fun _ => u1_len) (av_cons (ev_var rfl (.head _)) av_nil)))) fun v3 x11 => tgl_tup3 (.head _) fun v5 v6 v7 x8 x9 x10 => tgs_cons (tg_name (σ' := [some v_0, some v_1, some v5, none, none, none]) rfl (tgs_cons (tg_name (σ' := [some v_0, some v_1, some v5, some v6, none, none]) rfl (tgs_cons (tg_name (σ' := [some v_0, some v_1, some v5, some v6, some v7, none]) rfl (tgs_nil (?_)))))))
  refine sv_if sub0 (tv_or (tv_test (ev_op os_lt (ev_var rfl (.tail _ (.head _))) ev_int)) (tv_not (tv_test (ev_chain os_le os_le ev_int (ev_var rfl (.tail _ (.tail _ (.head _)))) ev_int)))) ?_ ?_
  · refine sv_assoc ?_
    exact sv_raise0 (n := "NoText") sub0 rfl T.in_NoText (by decide +kernel)
  · refine sv_skip ?_
    exact sv_ret sub0 (ev_tup (av_cons (ev_var rfl (.tail _ (.tail _ (.tail _ (.tail _ (.head _)))))) (av_cons (ev_var rfl (.head _)) (av_cons (ev_var rfl (.tail _ (.head _))) (av_cons (ev_var rfl (.tail _ (.tail _ (.head _)))) av_nil)))))
set_option maxHeartbeats 0 in
theorem ok_read_deed (T : Txt K mg) : FnOk P w K mg base (L2N.CX P w) 4 T.a_read_deed T.fd_read_deed ["line"] (SpZ K (rootX T.exs) [false] [] [] .fr (u1 m_read_deed)) := by
  refine okN T.F_read_deed sc_read_deed (fun vs H Q E h => h.1) (fun cdv A outer s H vs Q E hr h => ?_)
  refine ⟨_, (pss_cons (ps_set (i := 1) sc_read_deed.nd rfl (Or.inl rfl) (pe_split (pv 0) pe_str))
      (pss_cons (ps_match (pv 1) (pmc_case rfl sc_read_deed.nd (.cons (i := 2) rfl (Or.inl rfl) (by first | exact .inr rfl | exact .inl rfl) (.cons (i := 3) rfl (Or.inl rfl) (by first | exact .inr rfl | exact .inl rfl) (.cons (i := 4) rfl (Or.inl rfl) (by first | exact .inr rfl | exact .inl rfl) .nil))) (pss_cons (ps_ret (pe_call (ok_read_division T) (hr.mono (by decide)) rfl T.m_read_division T.F_read_division.kp T.b_read_division .nil (L2N.passes_call (L2N.takes_of rfl rfl rfl rfl) fun _ _ _ _ h => h) (pa_cons pe_str (pa_cons (pe_lst (pa_cons (pv 2) (pa_cons (pv 3) (pa_cons (pv 4) pa_nil)))) pa_nil))))
      pss_nil) (pmc_case rfl sc_read_deed.nd (.cons (i := 2) rfl (Or.inl rfl) (by first | exact .inr rfl | exact .inl rfl) (.cons (i := 3) rfl (Or.inl rfl) (by first | exact .inr rfl | exact .inl rfl) (.cons (i := 4) rfl (Or.inl rfl) (by first | exact .inr rfl | exact .inl rfl) .nil))) (pss_cons (ps_ret (pe_call (ok_read_division T) (hr.mono (by decide)) rfl T.m_read_division T.F_read_division.kp T.b_read_division .nil (L2N.passes_call (L2N.takes_of rfl rfl rfl rfl) fun _ _ _ _ h => h) (pa_cons pe_str (pa_cons (pe_lst (pa_cons (pv 2) (pa_cons (pv 3) (pa_cons (pv 4) pa_nil)))) pa_nil))))
      pss_nil) (pmc_case rfl sc_read_deed.nd (.cons (i := 5) rfl (Or.inl rfl) (by first | exact .inr rfl | exact .inl rfl) .nil) (pss_cons (ps_ret (pe_tup (pa_cons pe_str (pa_cons (pe_call (ok_read_number T) (hr.mono (by decide)) rfl T.m_read_number T.F_read_number.kp T.b_read_number .nil (L2N.passes_call (L2N.takes_of rfl rfl rfl rfl) fun _ _ _ _ h => h) (pa_cons (pv 5) pa_nil)) pa_nil))))
      pss_nil) (pmc_case rfl sc_read_deed.nd (.cons (i := 6) rfl (Or.inl rfl) (by first | exact .inr rfl | exact .inl rfl) (.cons (i := 7) rfl (Or.inl rfl) (by first | exact .inr rfl | exact .inl rfl) (.cons (i := 8) rfl (Or.inl rfl) (by first | exact .inr rfl | exact .inl rfl) .nil))) (pss_cons (ps_ret (pe_tup (pa_cons pe_str (pa_cons (pe_call (ok_read_number T) (hr.mono (by decide)) rfl T.m_read_number T.F_read_number.kp T.b_read_number .nil (L2N.passes_call (L2N.takes_of rfl rfl rfl rfl) fun _ _ _ _ h => h) (pa_cons (pv 6) pa_nil)) (pa_cons (pe_call (ok_read_number T) (hr.mono (by decide)) rfl T.m_read_number T.F_read_number.kp T.b_read_number .nil (L2N.passes_call (L2N.takes_of rfl rfl rfl rfl) fun _ _ _ _ h => h) (pa_cons (pv 7) pa_nil)) (pa_cons (pe_ifExp (pt_cmpR (op_eqD hr.units) (pv 8) pe_str (nomark _)) pe_non (pe_call (ok_read_number T) (hr.mono (by decide)) rfl T.m_read_number T.F_read_number.kp T.b_read_number .nil (L2N.passes_call (L2N.takes_of rfl rfl rfl rfl) fun _ _ _ _ h => h) (pa_cons (pv 8) pa_nil))) pa_nil))))))
      pss_nil) (pmc_any (pss_cons (L2N.ps_raise rfl (L2N.takes_of rfl rfl rfl rfl) (L2N.pmk_own PySem.F.excBase_ValueError T.xq_NoText T.g_NoText T.kc_NoText (raises_own T.eb_NoText T.et_NoText) rfl))
      pss_nil)))))))
      pss_nil)), body_Z h (fun ts : List D => (() : Unit)) (fun m : Unit => []) (fun _ => rfl) fun us ws ds O mx0 hl1 hl2 => ?_⟩
  obtain ⟨v_0, vs_0, us_0, rfl, rfl, mx1⟩ := mx0.fr_inv
  obtain ⟨rfl, rfl, rfl⟩ := mx1.nil_inv
  obtain ⟨x_0, rfl⟩ := ls1 (l := ds) (by first | exact hl1.symm | exact hl1)
  refine ⟨(fun m : Unit => []), _, rfl, (by intro ts ht; obtain rfl := ls0 (l := ts) ht; rfl), ?_⟩
  refine sv_cp (Cp' := (fun m : Unit => [])) rfl ?_
  refine sv_st (σ' := [some v_0, none, none, none, none, none, none, none, none]) rfl ?_
  refine sv_asg (fun _ => (List.nil_sublist _)) (ev_m1 ms_split (ev_var rfl (.head _)) ev_str) (σ' := (fun v1 => [some v_0, some v1, none, none, none, none, none, none, none])) (fun _ => rfl) fun v1 x25 => ?_
  refine sv_match (fun _ => (List.nil_sublist _)) (ev_var rfl (.head _)) fun v2 x24 => ?_
  refine sv_mcase3 (σ' := fun v4 v5 v6 => [some v_0, some v1, some v4, some v5, some v6, none, none, none, none]) (.head _) (fun _ _ _ => rfl) (fun v4 v5 v6 x21 x22 x23 => ?_) ?_
  · refine sv_assoc ?_
    exact sv_retS (fun _ => (List.nil_sublist _)) (fts_fr (ev_cPX (fun _ => u2_len) (av_cons ev_str (av_cons (ev_lst (av_cons (ev_var rfl (.head _)) (av_cons (ev_var rfl (.tail _ (.head _))) (av_cons (ev_var rfl (.tail _ (.tail _ (.head _)))) av_nil)))) av_nil))))
  · refine sv_mcase3 (σ' := fun v7 v8 v9 => [some v_0, some v1, some v7, some v8, some v9, none, none, none, none]) (.head _) (fun _ _ _ => rfl) (fun v7 v8 v9 x18 x19 x20 => ?_) ?_
    · refine sv_assoc ?_
      exact sv_retS (fun _ => (List.nil_sublist _)) (fts_fr (ev_cPX (fun _ => u2_len) (av_cons ev_str (av_cons (ev_lst (av_cons (ev_var rfl (.head _)) (av_cons (ev_var rfl (.tail _ (.head _))) (av_cons (ev_var rfl (.tail _ (.tail _ (.head _)))) av_nil)))) av_nil))))
    · refine sv_mcase1 (σ' := fun v10 => [some v_0, some v1, none, none, none, some v10, none, none, none]) (.head _) (fun _ => rfl) (fun v10 x17 => ?_) ?_
      · refine sv_assoc ?_
        exact sv_retS (fun _ => (List.nil_sublist _)) (fts_fr (ev_tup (av_cons ev_str (av_cons (ev_cPX (fun _ => u1_len) (av_cons (ev_var rfl (.head _)) av_nil)) av_nil))))
      · refine sv_mcase3 (σ' := fun v11 v12 v13 => [some v_0, some v1, none, none, none, none, some v11, some v12, some v13]) (.head _) (fun _ _ _ => rfl) (fun v11 v12 v13 x14 x15 x16 => ?_) ?_
        · refine sv_assoc ?_
          exact sv_retS (fun _ => (List.nil_sublist _)) (fts_fr (ev_tup (av_cons ev_str (av_cons (ev_cPX (fun _ => u1_len) (av_cons (ev_var rfl (.head _)) av_nil)) (av_cons (ev_cPX (fun _ => u1_len) (av_cons (ev_var rfl (.tail _ (.head _))) av_nil)) (av_cons (ev_if (tv_test (ev_op os_eq (ev_var rfl (.tail _ (.tail _ (.head _)))) ev_str)) ev_non (ev_cPX (fun _ => u1_len) (av_cons (ev_var rfl (.tail _ (.tail _ (.head _)))) av_nil))) av_nil))))))
        · refine sv_assoc ?_
          exact sv_raise0 (n := "NoText") (fun _ => (List.nil_sublist _)) rfl T.in_NoText (by decide +kernel)
set_option maxHeartbeats 0 in
theorem ok_read_deeds (T : Txt K mg) : FnOk P w K mg base (L2N.CX P w) 5 T.a_read_deeds T.fd_read_deeds ["text"] (SpZ K (rootX T.exs) [false] [] [] (.ls .fr) (u1 m_read_deeds)) := by
  refine okN T.F_read_deeds sc_read_deeds (fun vs H Q E h => h.1) (fun cdv A outer s H vs Q E hr h => ?_)
  refine ⟨_, (pss_cons (ps_if (pt_cmpR (op_eqD hr.units) (pv 0) pe_str (nomark _)) (pss_cons (ps_ret (pe_lst pa_nil))
      pss_nil) pss_nil)
      (pss_cons (ps_ret (pe_lcX rfl rfl (L2N.takes_of rfl rfl rfl rfl) (fun _ _ _ _ h => h) (own := [("line", 1)]) (g := (gName 1)) (tt := tYes) rfl sc_read_deeds.nd (pi_seq (pe_split (pv 0) pe_str)) (blkOk_by (own := [("line", 1)]) (N := ["text", "line"]) (sc := defScope s_read_deeds) (by decide +kernel)) (fun _ _ _ _ _ => (pg_name (i := 1) sc_read_deeds.nd rfl (Or.inl rfl))) (fun _ _ _ _ _ => pts_nil) (fun _ _ _ _ _ xe pB => (pe_call (ok_read_deed (P := P) (w := w) T) (hr.mono (by decide)) (by exact rfl) T.m_read_deed T.F_read_deed.kp T.b_read_deed .nil (pB fun _ _ _ h => h) (pa_cons (pv 1) pa_nil)))))
      pss_nil)), body_Z h (fun ts : List D => (() : Unit)) (fun m : Unit => []) (fun _ => rfl) fun us ws ds O mx0 hl1 hl2 => ?_⟩
  obtain ⟨v_0, vs_0, us_0, rfl, rfl, mx1⟩ := mx0.fr_inv
  obtain ⟨rfl, rfl, rfl⟩ := mx1.nil_inv
  obtain ⟨x_0, rfl⟩ := ls1 (l := ds) (by first | exact hl1.symm | exact hl1)
  refine ⟨(fun m : Unit => []), _, rfl, (by intro ts ht; obtain rfl := ls0 (l := ts) ht; rfl), ?_⟩
  refine sv_cp (Cp' := (fun m : Unit => [])) rfl ?_
  refine sv_st (σ' := [some v_0, none]) rfl ?_
  refine sv_if (fun _ => (List.nil_sublist _)) (tv_test (ev_op os_eq (ev_var rfl (.head _)) ev_str)) ?_ ?_
  · refine sv_assoc ?_
    exact sv_retS (fun _ => (List.nil_sublist _)) (fts_fv (fv_lst av_nil))
  · refine sv_skip ?_
    exact sv_retS (fun _ => (List.nil_sublist _)) (fts_fv (fv_lc1 (σ2 := fun v1 => [some v_0, some v1]) (iv_seq (ev_m1 ms_split (ev_var rfl (.head _)) ev_str)) (fun _ => rfl) (fun _ => rfl) (fun v1 x2 => tv_yes) (fun v1 x2 => (ev_fts rfl (fts_cZ (fun _ h => h) (as_fr (fun _ => List.Sublist.refl _) (ev_var rfl (.head _)) as_nil))))))
set_option maxHeartbeats 0 in
theorem ok__law_deck (T : Txt K mg) : FnOk P w K mg base CX0 1 T.a__law_deck T.fd__law_deck ["cell", "turn"] (SpN K 2 (u2 m__law_deck)) := by
  refine T.F__law_deck.ok sc__law_deck (fun vs H Q E h => h.1) (fun cdv A outer s H vs Q E hr h => ?_)
  refine ⟨_, (pss_cons (ps_if (pt_cmpR op_ge (pv 0) (pe_op op_pow pe_int pe_int) (nomark _)) (pss_cons (ps_ret (pe_lst (pa_cons (pe_op op_sub (pv 0) (pe_op op_pow pe_int pe_int)) (pa_cons (pe_op op_mod (pv 0) pe_int) (pa_cons (pv 1) pa_nil)))))
      pss_nil) pss_nil)
      (pss_cons (ps_ret (pe_lst (pa_cons pe_int (pa_cons (pe_op op_mod (pv 0) pe_int) (pa_cons (pv 1) pa_nil)))))
      pss_nil)), body_N h fun ds O hl => ?_⟩
  have h1 := h.1
  obtain ⟨v_0, v_1, rfl⟩ := ls2 (l := vs) (by first | exact h1 | exact Nat.succ.inj h1)
  obtain ⟨x_0, x_1, rfl⟩ := ls2 (l := ds) (by first | exact hl.symm | exact hl)
  refine ⟨_, rfl, ?_⟩
  refine nv_st (σ' := [some v_0, some v_1]) rfl ?_
  refine nv_if (tv_test (ev_op os_ge (ev_var rfl (.head _)) (ev_op os_pow ev_int ev_int))) ?_ ?_
  · refine nv_assoc ?_
    exact nv_ret (av_cons (ev_op os_sub (ev_var rfl (.head _)) (ev_op os_pow ev_int ev_int)) (av_cons (ev_op os_mod (ev_var rfl (.head _)) ev_int) (av_cons (ev_var rfl (.tail _ (.head _))) av_nil)))
  · refine nv_skip ?_
    exact nv_ret (av_cons ev_int (av_cons (ev_op os_mod (ev_var rfl (.head _)) ev_int) (av_cons (ev_var rfl (.tail _ (.head _))) av_nil)))
set_option maxHeartbeats 0 in
theorem ok__law_pick (T : Txt K mg) : FnOk P w K mg base CX0 1 T.a__law_pick T.fd__law_pick ["deck", "many"] (SpD K 1 (u1 m__law_pick)) := by
  refine T.F__law_pick.ok sc__law_pick (fun vs H Q E h => h.1) (fun cdv A outer s H vs Q E hr h => ?_)
  refine ⟨_, (pss_cons (ps_if (pt_cmpR op_gt (pe_ix ix_seq (pv 0) pe_int (fun _ _ => rfl)) pe_int (nomark _)) (pss_cons (ps_set (i := 2) sc__law_pick.nd rfl (Or.inl rfl) (pe_op op_mod (pe_ix ix_seq (pv 0) pe_int (fun _ _ => rfl)) (pv 1)))
      (pss_cons (ps_asg (pe_op op_fdivU (pe_ix ix_seq (pv 0) pe_int (fun _ _ => rfl)) (pv 1)) (pg_sub (pv 0) pe_int set_list))
      (pss_cons (ps_ret (pv 2))
      pss_nil))) pss_nil)
      (pss_cons (ps_asg (pe_op op_addU (pe_ix ix_seq (pv 0) pe_int (fun _ _ => rfl)) pe_int) (pg_sub (pv 0) pe_int set_list))
      (pss_cons (ps_set (i := 3) sc__law_pick.nd rfl (Or.inl rfl) (pe_op op_mod (pe_op op_pow (pe_op op_addU (pe_ix ix_seq (pv 0) pe_int (fun _ _ => rfl)) (pe_op op_mulU pe_int (pe_ix ix_seq (pv 0) pe_int (fun _ _ => rfl)))) pe_int) pe_int))
      (pss_cons (ps_set (i := 2) sc__law_pick.nd rfl (Or.inl rfl) (pe_op op_fdivU (pe_op op_mod (pe_op op_pow (pe_op op_addU (pv 3) (pe_op op_mulU pe_int (pe_ix ix_seq (pv 0) pe_int (fun _ _ => rfl)))) pe_int) pe_int) pe_int))
      (pss_cons (ps_if (pt_cmpR op_gt (pv 1) pe_int (nomark _)) (pss_cons (ps_ret (pe_op op_mod (pe_op op_addU (pe_op op_mulU (pv 2) pe_int) (pv 3)) (pv 1)))
      pss_nil) pss_nil)
      (pss_cons (ps_ret (pe_op op_mod (pv 2) (pv 1)))
      pss_nil)))))), body_D h fun a us ds O hv hl => ?_⟩
  have h1 := h.1
  subst hv
  obtain ⟨v_1, rfl⟩ := ls1 (l := us) (by first | exact h1 | exact Nat.succ.inj h1)
  obtain ⟨x_1, rfl⟩ := ls1 (l := ds) (by first | exact hl.symm | exact hl)
  refine ⟨_, rfl, ?_⟩
  refine sv_st (σ' := [some (.ref a), some v_1, none, none]) rfl ?_
  refine sv_if sub1 (tv_test (ev_op os_gt (ev_sidx rfl ev_int) ev_int)) ?_ ?_
  · refine sv_assoc ?_
    refine sv_asg sub1 (ev_op os_mod (ev_sidx rfl ev_int) (ev_var rfl (.head _))) (σ' := (fun v1 => [some (.ref a), some v_1, some v1, none])) (fun _ => rfl) fun v1 x2 => ?_
    refine sv_assoc ?_
    refine sv_sset sub1 rfl (ev_op os_fdiv (ev_sidx rfl ev_int) (ev_var rfl (.tail _ (.head _)))) ev_int ?_
    refine sv_assoc ?_
    exact sv_ret sub1 (ev_var rfl (.head _))
  · refine sv_skip ?_
    refine sv_sset sub1 rfl (ev_op os_add (ev_sidx rfl ev_int) ev_int) ev_int ?_
    refine sv_asg sub1 (ev_op os_mod (ev_op os_pow (ev_op os_add (ev_sidx rfl ev_int) (ev_op os_mul ev_int (ev_sidx rfl ev_int))) ev_int) ev_int) (σ' := (fun v3 => [some (.ref a), some v_1, none, some v3])) (fun _ => rfl) fun v3 x6 => ?_
    refine sv_asg sub1 (ev_op os_fdiv (ev_op os_mod (ev_op os_pow (ev_op os_add (ev_var rfl (.head _)) (ev_op os_mul ev_int (ev_sidx rfl ev_int))) ev_int) ev_int) ev_int) (σ' := (fun v4 => [some (.ref a), some v_1, some v4, some v3])) (fun _ => rfl) fun v4 x5 => ?_
    refine sv_if sub1 (tv_test (ev_op os_gt (ev_var rfl (.tail _ (.tail _ (.head _)))) ev_int)) ?_ ?_
    · refine sv_assoc ?_
      exact sv_ret sub1 (ev_op os_mod (ev_op os_add (ev_op os_mul (ev_var rfl (.head _)) ev_int) (ev_var rfl (.tail _ (.head _)))) (ev_var rfl (.tail _ (.tail _ (.head _)))))
    · refine sv_skip ?_
      exact sv_ret sub1 (ev_op os_mod (ev_var rfl (.head _)) (ev_var rfl (.tail _ (.tail _ (.head _)))))
set_option maxHeartbeats 0 in
theorem ok__law_great (T : Txt K mg) : FnOk P w K mg base CX0 2 T.a__law_great T.fd__law_great ["deck", "figures"] (SpD K 1 (u1 m__law_great)) := by
  refine T.F__law_great.ok sc__law_great (fun vs H Q E h => h.1) (fun cdv A outer s H vs Q E hr h => ?_)
  refine ⟨_, (pss_cons (ps_set (i := 2) sc__law_great.nd rfl (Or.inl rfl) pe_int)
      (pss_cons (ps_for PassesOwn.never rfl (pi_range1 (by rfl) T.z_range (pa_cons (pe_call (ok__law_pick T) (hr.mono (by decide)) rfl T.m__law_pick T.F__law_pick.kp T.b__law_pick .nil pass0 (pa_cons (pv 0) (pa_cons (pe_op op_addU (pv 1) pe_int) pa_nil))) pa_nil)) (pg_name (i := 3) sc__law_great.nd rfl (Or.inl rfl)) (pss_cons (ps_set (i := 2) sc__law_great.nd rfl (Or.inl rfl) (pe_op op_mulU (pv 2) pe_int))
      pss_nil))
      (pss_cons (ps_set (i := 4) sc__law_great.nd rfl (Or.inl rfl) pe_int)
      (pss_cons (ps_for PassesOwn.never rfl (pi_range1 (by rfl) T.z_range (pa_cons pe_int pa_nil)) (pg_name (i := 3) sc__law_great.nd rfl (Or.inl rfl)) (pss_cons (ps_set (i := 4) sc__law_great.nd rfl (Or.inl rfl) (pe_op op_addU (pe_op op_mulU (pv 4) (pe_op op_pow pe_int pe_int)) (pe_call (ok__law_pick T) (hr.mono (by decide)) rfl T.m__law_pick T.F__law_pick.kp T.b__law_pick .nil pass0 (pa_cons (pv 0) (pa_cons (pe_op op_pow pe_int pe_int) pa_nil)))))
      pss_nil))
      (pss_cons (ps_ret (pe_op op_mod (pv 4) (pv 2)))
      pss_nil))))), body_D h fun a us ds O hv hl => ?_⟩
  have h1 := h.1
  subst hv
  obtain ⟨v_1, rfl⟩ := ls1 (l := us) (by first | exact h1 | exact Nat.succ.inj h1)
  obtain ⟨x_1, rfl⟩ := ls1 (l := ds) (by first | exact hl.symm | exact hl)
  refine ⟨_, rfl, ?_⟩
  refine sv_st (σ' := [some (.ref a), some v_1, none, none, none]) rfl ?_
  refine sv_asg sub1 ev_int (σ' := (fun v1 => [some (.ref a), some v_1, some v1, none, none])) (fun _ => rfl) fun v1 x18 => ?_
  refine sv_seq (J1 := (fun (s2 : D) σ' L2 C2 => ∃ (v3 : V) (o4 : Option V), σ' = [some (.ref a), some v_1, some v3, o4, none] ∧ L2 = ([(v3, s2)] : List (V × D)) ∧ C2 = (fun m => rootL K a m :: []))) (sv_for sub1 (iv_rng1 (av_cons (ev_cD rfl (fun _ _ => u1_len) (av_cons (ev_op os_add (ev_var rfl (.tail _ (.head _))) ev_int) av_nil)) av_nil)) ⟨v1, none, rfl, rfl, rfl⟩ (lcons (.head _) lnil) (by intro s2 _ _ _ hJ; obtain ⟨v3, o4, rfl, rfl, rfl⟩ := hJ; exact sub1) ?_) ?_
  · intro s2 _ _ _ hJ v5 x6
    obtain ⟨v3, o4, rfl, rfl, rfl⟩ := hJ
    refine tg_name (σ' := [some (.ref a), some v_1, some v3, some v5, none]) rfl (?_)
    refine sv_asg sub1 (ev_op os_mul (ev_var rfl (.tail _ (.head _))) ev_int) (σ' := (fun v7 => [some (.ref a), some v_1, some v7, some v5, none])) (fun _ => rfl) fun v7 x8 => ?_
    exact sv_nil ⟨v7, (some v5), rfl, rfl, rfl⟩ (lcons (.head _) lnil)
  · intro s2 _ _ _ hJ
    obtain ⟨v3, o4, rfl, rfl, rfl⟩ := hJ
    refine sv_asg sub1 ev_int (σ' := (fun v9 => [some (.ref a), some v_1, some v3, o4, some v9])) (fun _ => rfl) fun v9 x17 => ?_
    refine sv_seq (J1 := (fun (s10 : D) σ' L2 C2 => ∃ (v11 : V) (o12 : Option V), σ' = [some (.ref a), some v_1, some v3, o12, some v11] ∧ L2 = ([(v11, s10)] : List (V × D)) ∧ C2 = (fun m => rootL K a m :: []))) (sv_for sub1 (iv_rng1 (av_cons ev_int av_nil)) ⟨v9, o4, rfl, rfl, rfl⟩ (lcons (.head _) lnil) (by intro s10 _ _ _ hJ; obtain ⟨v11, o12, rfl, rfl, rfl⟩ := hJ; exact sub1) ?_) ?_
    · intro s10 _ _ _ hJ v13 x14
      obtain ⟨v11, o12, rfl, rfl, rfl⟩ := hJ
      refine tg_name (σ' := [some (.ref a), some v_1, some v3, some v13, some v11]) rfl (?_)
      refine sv_asg sub1 (ev_op os_add (ev_op os_mul (ev_var rfl (.tail _ (.head _))) (ev_op os_pow ev_int ev_int)) (ev_cD rfl (fun _ _ => u1_len) (av_cons (ev_op os_pow ev_int ev_int) av_nil))) (σ' := (fun v15 => [some (.ref a), some v_1, some v3, some v13, some v15])) (fun _ => rfl) fun v15 x16 => ?_
      exact sv_nil ⟨v15, (some v13), rfl, rfl, rfl⟩ (lcons (.head _) lnil)
    · intro s10 _ _ _ hJ
      obtain ⟨v11, o12, rfl, rfl, rfl⟩ := hJ
      exact sv_ret sub1 (ev_op os_mod (ev_var rfl (.head _)) (ev_var rfl (.tail _ (.tail _ (.head _)))))
set_option maxHeartbeats 0 in
theorem ok__law_name_of (T : Txt K mg) : FnX P w K mg base CX0 1 T.a__law_name_of T.fd__law_name_of ["e"] (SpE K (rootX T.exs) m__law_name_of) := by
  refine okFX T.F__law_name_of sc__law_name_of (fun a cls d vs H Q E h => h.1) (fun cdv A outer s H vs Q E p cls d hot hz hr h => ?_)
  have hf : ∃ vs, p.2.data = .fields vs := hot.2.imp fun _ h => h.1
  refine ⟨_, (pss_cons (ps_set (i := 1) sc__law_name_of.nd rfl (Or.inl rfl) (pe_lst (pa_cons (pe_callB (show CallR _ (.builtin "isinstance") (rIsX K cls d p.1) from call_isX (pa := p.1) (po := p.2) (.head _) hz hf) (by rfl) T.z_isinstance (by decide +kernel) (pa_cons (pv 0) (pa_cons (pe_glob (v := .ref T.C_NoFigure) (by exact rfl) T.g_NoFigure (by exact rfl)) pa_nil))) (pa_cons (pe_callB (show CallR _ (.builtin "isinstance") (rIsX K cls d p.1) from call_isX (pa := p.1) (po := p.2) (.head _) hz hf) (by rfl) T.z_isinstance (by decide +kernel) (pa_cons (pv 0) (pa_cons (pe_glob (v := .ref T.C_NoLooks) (by exact rfl) T.g_NoLooks (by exact rfl)) pa_nil))) (pa_cons (pe_callB (show CallR _ (.builtin "isinstance") (rIsX K cls d p.1) from call_isX (pa := p.1) (po := p.2) (.head _) hz hf) (by rfl) T.z_isinstance (by decide +kernel) (pa_cons (pv 0) (pa_cons (pe_glob (v := .ref T.C_NoRoom) (by exact rfl) T.g_NoRoom (by exact rfl)) pa_nil))) (pa_cons (pe_callB (show CallR _ (.builtin "isinstance") (rIsX K cls d p.1) from call_isX (pa := p.1) (po := p.2) (.head _) hz hf) (by rfl) T.z_isinstance (by decide +kernel) (pa_cons (pv 0) (pa_cons (pe_glob (v := .ref T.C_NoRow) (by exact rfl) T.g_NoRow (by exact rfl)) pa_nil))) pa_nil))))))
      (pss_cons (ps_set (i := 1) sc__law_name_of.nd rfl (Or.inl rfl) (pe_op op_addU (pv 1) (pe_lst (pa_cons (pe_callB (show CallR _ (.builtin "isinstance") (rIsX K cls d p.1) from call_isX (pa := p.1) (po := p.2) (.head _) hz hf) (by rfl) T.z_isinstance (by decide +kernel) (pa_cons (pv 0) (pa_cons (pe_glob (v := .ref T.C_NoTable) (by exact rfl) T.g_NoTable (by exact rfl)) pa_nil))) (pa_cons (pe_callB (show CallR _ (.builtin "isinstance") (rIsX K cls d p.1) from call_isX (pa := p.1) (po := p.2) (.head _) hz hf) (by rfl) T.z_isinstance (by decide +kernel) (pa_cons (pv 0) (pa_cons (pe_glob (v := .ref T.C_NoText) (by exact rfl) T.g_NoText (by exact rfl)) pa_nil))) (pa_cons (pe_callB (show CallR _ (.builtin "isinstance") (rIsX K cls d p.1) from call_isX (pa := p.1) (po := p.2) (.head _) hz hf) (by rfl) T.z_isinstance (by decide +kernel) (pa_cons (pv 0) (pa_cons (pe_glob (v := .ref T.C_Spoilt) (by exact rfl) T.g_Spoilt (by exact rfl)) pa_nil))) (pa_cons (pe_callB (show CallR _ (.builtin "isinstance") (rIsX K cls d p.1) from call_isX (pa := p.1) (po := p.2) (.head _) hz hf) (by rfl) T.z_isinstance (by decide +kernel) (pa_cons (pv 0) (pa_cons (pe_glob (v := .ref T.C_NoMore) (by exact rfl) T.g_NoMore (by exact rfl)) pa_nil))) pa_nil)))))))
      (pss_cons (ps_set (i := 1) sc__law_name_of.nd rfl (Or.inl rfl) (pe_op op_addU (pv 1) (pe_lst (pa_cons (pe_callB (show CallR _ (.builtin "isinstance") (rIsX K cls d p.1) from call_isX (pa := p.1) (po := p.2) (.head _) hz hf) (by rfl) T.z_isinstance (by decide +kernel) (pa_cons (pv 0) (pa_cons (pe_glob (v := .ref T.C_NoWork) (by exact rfl) T.g_NoWork (by exact rfl)) pa_nil))) (pa_cons (pe_callB (show CallR _ (.builtin "isinstance") (rIsX K cls d p.1) from call_isX (pa := p.1) (po := p.2) (.head _) hz hf) (by rfl) T.z_isinstance (by decide +kernel) (pa_cons (pv 0) (pa_cons (pe_glob (v := .ref T.C_NoCell) (by exact rfl) T.g_NoCell (by exact rfl)) pa_nil))) (pa_cons (pe_callB (show CallR _ (.builtin "isinstance") (rIsX K cls d p.1) from call_isX (pa := p.1) (po := p.2) (.head _) hz hf) (by rfl) T.z_isinstance (by decide +kernel) (pa_cons (pv 0) (pa_cons (pe_glob (v := .ref T.C_NoDeed) (by exact rfl) T.g_NoDeed (by exact rfl)) pa_nil))) (pa_cons (pe_callB (show CallR _ (.builtin "isinstance") (rIsX K cls d p.1) from call_isX (pa := p.1) (po := p.2) (.head _) hz hf) (by rfl) T.z_isinstance (by decide +kernel) (pa_cons (pv 0) (pa_cons (pe_bltn (v := .ty "ValueError") (u := .type "ValueError") (by rfl) T.z_ValueError (by decide +kernel) (by exact rfl)) pa_nil))) pa_nil)))))))
      (pss_cons (ps_set (i := 2) sc__law_name_of.nd rfl (Or.inl rfl) (pe_lst (pa_cons pe_str (pa_cons pe_str (pa_cons pe_str (pa_cons pe_str (pa_cons pe_str (pa_cons pe_str (pa_cons pe_str (pa_cons pe_str (pa_cons pe_str (pa_cons pe_str pa_nil))))))))))))
      (pss_cons (ps_ret (pe_join pe_str (pe_lcS (own := [("name", 3), ("kind", 4)]) (g := (gTup K 2 (gCons (gName 3) (gCons (gName 4) gNil)))) ⟨p, hot, .head _⟩ sc__law_name_of.nd (pi_zipS (by rfl) T.z_zip (pa_cons (pe_op op_addU (pv 2) (pe_lst (pa_cons pe_str (pa_cons pe_str pa_nil)))) (pa_cons (pv 1) pa_nil))) (blkOk_by (own := [("name", 3), ("kind", 4)]) (N := ["e", "kinds", "names", "name", "kind"]) (sc := defScope s__law_name_of) (by decide +kernel)) (fun _ _ _ _ _ hS => (pg_tupS hS (pgs_cons (pg_name (i := 3) sc__law_name_of.nd rfl (Or.inl rfl)) (pgs_cons (pg_name (i := 4) sc__law_name_of.nd rfl (Or.inl rfl)) pgs_nil)))) (fun _ _ _ _ _ => (pts_one (show PT _ _ (tTru K _) from pt_truth (pv 4) (by intro _; rfl)))) (fun _ _ _ _ _ => (pv 3)))))
      pss_nil))))), body_E h fun e O => ?_⟩
  refine ⟨_, rfl, ?_⟩
  refine sv_st (σ' := [some (.ref p.1), none, none, none, none]) rfl ?_
  refine sv_asg sub1 (ev_lst (av_cons (ev_isX rfl (fun _ h => h) T.isx_NoFigure) (av_cons (ev_isX rfl (fun _ h => h) T.isx_NoLooks) (av_cons (ev_isX rfl (fun _ h => h) T.isx_NoRoom) (av_cons (ev_isX rfl (fun _ h => h) T.isx_NoRow) av_nil))))) (σ' := (fun v1 => [some (.ref p.1), some v1, none, none, none])) (fun _ => rfl) fun v1 x12 => ?_
  refine sv_asg sub1 (ev_op os_add (ev_var rfl (.head _)) (ev_lst (av_cons (ev_isX rfl (fun _ h => h) T.isx_NoTable) (av_cons (ev_isX rfl (fun _ h => h) T.isx_NoText) (av_cons (ev_isX rfl (fun _ h => h) T.isx_Spoilt) (av_cons (ev_isX rfl (fun _ h => h) T.isx_NoMore) av_nil)))))) (σ' := (fun v2 => [some (.ref p.1), some v2, none, none, none])) (fun _ => rfl) fun v2 x11 => ?_
  refine sv_asg sub1 (ev_op os_add (ev_var rfl (.head _)) (ev_lst (av_cons (ev_isX rfl (fun _ h => h) T.isx_NoWork) (av_cons (ev_isX rfl (fun _ h => h) T.isx_NoCell) (av_cons (ev_isX rfl (fun _ h => h) T.isx_NoDeed) (av_cons (ev_isX rfl (fun _ h => h) T.isx_ValueError) av_nil)))))) (σ' := (fun v3 => [some (.ref p.1), some v3, none, none, none])) (fun _ => rfl) fun v3 x10 => ?_
  refine sv_asg sub1 (ev_lst (av_cons ev_str (av_cons ev_str (av_cons ev_str (av_cons ev_str (av_cons ev_str (av_cons ev_str (av_cons ev_str (av_cons ev_str (av_cons ev_str (av_cons ev_str av_nil))))))))))) (σ' := (fun v4 => [some (.ref p.1), some v3, some v4, none, none])) (fun _ => rfl) fun v4 x9 => ?_
  exact sv_ret sub1 (ev_join ev_str (ev_lc2 (σ2 := fun v5 v6 => [some (.ref p.1), some v3, some v4, some v5, some v6]) (iv_zipL (av_cons (ev_op os_add (ev_var rfl (.head _)) (ev_lst (av_cons ev_str (av_cons ev_str av_nil)))) (av_cons (ev_var rfl (.tail _ (.head _))) av_nil))) (fun _ _ => rfl) (fun _ _ => rfl) (fun v5 v6 x7 x8 => (tv_tr (ev_var rfl (.tail _ (.head _))))) (fun v5 v6 x7 x8 => (ev_var rfl (.head _)))))
set_option maxHeartbeats 0 in
theorem ok__law_signs (T : Txt K mg) : FnOk P w K mg base CX0 1 T.a__law_signs T.fd__law_signs [] (SpP K 0 (u0 m__law_signs)) := by
  refine T.F__law_signs.ok sc__law_signs (fun vs H Q E h => h.1) (fun cdv A outer s H vs Q E hr h => ?_)
  refine ⟨_, (pss_cons (ps_ret pe_str)
      pss_nil), body_P h fun ds O hl => ?_⟩
  have h1 := h.1
  obtain rfl := ls0 (l := vs) (by first | exact h1 | exact Nat.succ.inj h1)
  obtain rfl := ls0 (l := ds) (by first | exact hl.symm | exact hl)
  refine ⟨((bd (pu (.str " !\"#$&'()*+,-./0123456789:;<=>?@ABCDEFGHIJKLMNOPQRSTUVWXYZ[\\]^_`abcdefghijklmnopqrstuvwxyz{|}~\n")) fun x => pu (.rt x)) : SM Unit (Fl Unit Empty)), rfl, ?_⟩
  refine sv_st (σ' := []) rfl ?_
  exact sv_ret sub0 ev_str
set_option maxHeartbeats 0 in
theorem ok__law_sign_bent (T : Txt K mg) : FnOk P w K mg base CX0 2 T.a__law_sign_bent T.fd__law_sign_bent ["deck", "text"] (SpD K 1 (u1 m__law_sign_bent)) := by
  refine T.F__law_sign_bent.ok sc__law_sign_bent (fun vs H Q E h => h.1) (fun cdv A outer s H vs Q E hr h => ?_)
  refine ⟨_, (pss_cons (ps_set (i := 2) sc__law_sign_bent.nd rfl (Or.inl rfl) (pe_call0 (ok__law_signs T) (hr.mono (by decide)) rfl T.m__law_signs T.F__law_signs.kp T.b__law_signs .nil pass0))
      (pss_cons (ps_set (i := 3) sc__law_sign_bent.nd rfl (Or.inl rfl) (pe_call (ok__law_pick T) (hr.mono (by decide)) rfl T.m__law_pick T.F__law_pick.kp T.b__law_pick .nil pass0 (pa_cons (pv 0) (pa_cons (pe_op op_addU (pe_callB call_len (by rfl) T.z_len (by decide +kernel) (pa_cons (pv 1) pa_nil)) pe_int) pa_nil))))
      (pss_cons (ps_set (i := 4) sc__law_sign_bent.nd rfl (Or.inl rfl) (pe_ix ix_str (pv 2) (pe_call (ok__law_pick T) (hr.mono (by decide)) rfl T.m__law_pick T.F__law_pick.kp T.b__law_pick .nil pass0 (pa_cons (pv 0) (pa_cons pe_int pa_nil))) (fun _ _ => rfl)))
      (pss_cons (ps_if (PW.pt (pw_and (pt_cmpR (op_eqD hr.units) (pe_call (ok__law_pick T) (hr.mono (by decide)) rfl T.m__law_pick T.F__law_pick.kp T.b__law_pick .nil pass0 (pa_cons (pv 0) (pa_cons pe_int pa_nil))) pe_int (nomark _)) (pw_and1 (pt_cmpR (op_neD hr.units) (pv 1) pe_str (nomark _))))) (pss_cons (ps_set (i := 4) sc__law_sign_bent.nd rfl (Or.inl rfl) (pe_ix ix_str (pv 1) (pe_call (ok__law_pick T) (hr.mono (by decide)) rfl T.m__law_pick T.F__law_pick.kp T.b__law_pick .nil pass0 (pa_cons (pv 0) (pa_cons (pe_callB call_len (by rfl) T.z_len (by decide +kernel) (pa_cons (pv 1) pa_nil)) pa_nil))) (fun _ _ => rfl)))
      pss_nil) pss_nil)
      (pss_cons (ps_ret (pe_op op_addU (pe_op op_addU (pe_slice sl_str (pv 1) po_none (po_some (pv 3))) (pe_ix ix_seq (pe_lst (pa_cons (pv 4) (pa_cons (pv 4) (pa_cons pe_str pa_nil)))) (pe_call (ok__law_pick T) (hr.mono (by decide)) rfl T.m__law_pick T.F__law_pick.kp T.b__law_pick .nil pass0 (pa_cons (pv 0) (pa_cons pe_int pa_nil))) (fun _ _ => rfl))) (pe_slice sl_str (pv 1) (po_some (pe_op op_addU (pv 3) (pe_call (ok__law_pick T) (hr.mono (by decide)) rfl T.m__law_pick T.F__law_pick.kp T.b__law_pick .nil pass0 (pa_cons (pv 0) (pa_cons pe_int pa_nil))))) po_none)))
      pss_nil))))), body_D h fun a us ds O hv hl => ?_⟩
  have h1 := h.1
  subst hv
  obtain ⟨v_1, rfl⟩ := ls1 (l := us) (by first | exact h1 | exact Nat.succ.inj h1)
  obtain ⟨x_1, rfl⟩ := ls1 (l := ds) (by first | exact hl.symm | exact hl)
  refine ⟨_, rfl, ?_⟩
  refine sv_st (σ' := [some (.ref a), some v_1, none, none, none]) rfl ?_
  refine sv_asg sub1 (ev_cP0 (fun _ => u0_len)) (σ' := (fun v1 => [some (.ref a), some v_1, some v1, none, none])) (fun _ => rfl) fun v1 x10 => ?_
  refine sv_asg sub1 (ev_cD rfl (fun _ _ => u1_len) (av_cons (ev_op os_add (ev_cb cs_len (av_cons (ev_var rfl (.tail _ (.head _))) av_nil)) ev_int) av_nil)) (σ' := (fun v2 => [some (.ref a), some v_1, some v1, some v2, none])) (fun _ => rfl) fun v2 x9 => ?_
  refine sv_asg sub1 (ev_op os_ixt (ev_var rfl (.tail _ (.head _))) (ev_cD rfl (fun _ _ => u1_len) (av_cons ev_int av_nil))) (σ' := (fun v3 => [some (.ref a), some v_1, some v1, some v2, some v3])) (fun _ => rfl) fun v3 x8 => ?_
  refine sv_seq (J1 := (fun (s4 : D) σ' L2 C2 => ∃ (v5 : V), σ' = [some (.ref a), some v_1, some v1, some v2, some v5] ∧ L2 = ([(v5, s4)] : List (V × D)) ∧ C2 = (fun m => rootL K a m :: []))) (sv_if1 sub1 (tv_and (tv_test (ev_op os_eq (ev_cD rfl (fun _ _ => u1_len) (av_cons ev_int av_nil)) ev_int)) (tv_test (ev_op os_ne (ev_var rfl (.tail _ (.tail _ (.tail _ (.head _))))) ev_str))) ?_ ?_) ?_
  · refine sv_asg sub1 (ev_op os_ixt (ev_var rfl (.tail _ (.tail _ (.tail _ (.head _))))) (ev_cD rfl (fun _ _ => u1_len) (av_cons (ev_cb cs_len (av_cons (ev_var rfl (.tail _ (.tail _ (.tail _ (.head _))))) av_nil)) av_nil))) (σ' := (fun v6 => [some (.ref a), some v_1, some v1, some v2, some v6])) (fun _ => rfl) fun v6 x7 => ?_
    exact sv_nil ⟨v6, rfl, rfl, rfl⟩ (lcons (.head _) lnil)
  · exact sv_nil ⟨v3, rfl, rfl, rfl⟩ (lcons (.head _) lnil)
  · intro s4 _ _ _ hJ
    obtain ⟨v5, rfl, rfl, rfl⟩ := hJ
    exact sv_ret sub1 (ev_op os_add (ev_op os_add (ev_sliceT (ev_var rfl (.tail _ (.tail _ (.tail _ (.tail _ (.head _)))))) pv_none (pv_some (ev_var rfl (.tail _ (.tail _ (.head _)))))) (ev_op os_idx (ev_lst (av_cons (ev_var rfl (.head _)) (av_cons (ev_var rfl (.head _)) (av_cons ev_str av_nil)))) (ev_cD rfl (fun _ _ => u1_len) (av_cons ev_int av_nil)))) (ev_sliceT (ev_var rfl (.tail _ (.tail _ (.tail _ (.tail _ (.head _)))))) (pv_some (ev_op os_add (ev_var rfl (.tail _ (.tail _ (.head _)))) (ev_cD rfl (fun _ _ => u1_len) (av_cons ev_int av_nil)))) pv_none))
set_option maxHeartbeats 0 in
theorem ok__law_list_bent (T : Txt K mg) : FnOk P w K mg base CX0 2 T.a__law_list_bent T.fd__law_list_bent ["deck", "some"] (SpD K 1 (u1 m__law_list_bent)) := by
  refine T.F__law_list_bent.ok sc__law_list_bent (fun vs H Q E h => h.1) (fun cdv A outer s H vs Q E hr h => ?_)
  refine ⟨_, (pss_cons (ps_set (i := 2) sc__law_list_bent.nd rfl (Or.inl rfl) (pe_call (ok__law_pick T) (hr.mono (by decide)) rfl T.m__law_pick T.F__law_pick.kp T.b__law_pick .nil pass0 (pa_cons (pv 0) (pa_cons (pe_callB call_len (by rfl) T.z_len (by decide +kernel) (pa_cons (pv 1) pa_nil)) pa_nil))))
      (pss_cons (ps_set (i := 3) sc__law_list_bent.nd rfl (Or.inl rfl) (pe_ix ix_seq (pv 1) (pe_call (ok__law_pick T) (hr.mono (by decide)) rfl T.m__law_pick T.F__law_pick.kp T.b__law_pick .nil pass0 (pa_cons (pv 0) (pa_cons (pe_callB call_len (by rfl) T.z_len (by decide +kernel) (pa_cons (pv 1) pa_nil)) pa_nil))) (fun _ _ => rfl)))
      (pss_cons (ps_set (i := 4) sc__law_list_bent.nd rfl (Or.inl rfl) (pe_call (ok__law_pick T) (hr.mono (by decide)) rfl T.m__law_pick T.F__law_pick.kp T.b__law_pick .nil pass0 (pa_cons (pv 0) (pa_cons pe_int pa_nil))))
      (pss_cons (ps_if (pt_cmpR (op_eqD hr.units) (pv 4) pe_int (nomark _)) (pss_cons (ps_ret (pe_op op_addU (pe_slice sl_u (pv 1) po_none (po_some (pv 2))) (pe_slice sl_u (pv 1) (po_some (pe_op op_addU (pv 2) pe_int)) po_none)))
      pss_nil) pss_nil)
      (pss_cons (ps_if (pt_cmpR (op_eqD hr.units) (pv 4) pe_int (nomark _)) (pss_cons (ps_ret (pe_op op_addU (pe_op op_addU (pe_slice sl_u (pv 1) po_none (po_some (pv 2))) (pe_lst (pa_cons (pv 3) pa_nil))) (pe_slice sl_u (pv 1) (po_some (pv 2)) po_none)))
      pss_nil) pss_nil)
      (pss_cons (ps_if (pt_cmpR (op_eqD hr.units) (pv 4) pe_int (nomark _)) (pss_cons (ps_ret (pe_op op_addU (pv 1) (pe_lst (pa_cons (pv 3) pa_nil))))
      pss_nil) pss_nil)
      (pss_cons (ps_if (pt_cmpR (op_eqD hr.units) (pv 4) pe_int (nomark _)) (pss_cons (ps_ret (pe_op op_addU (pe_op op_addU (pe_slice sl_u (pv 1) po_none (po_some (pv 2))) (pe_lst (pa_cons (pv 3) pa_nil))) (pe_slice sl_u (pv 1) (po_some (pe_op op_addU (pv 2) pe_int)) po_none)))
      pss_nil) pss_nil)
      (pss_cons (ps_set (i := 5) sc__law_list_bent.nd rfl (Or.inl rfl) (pe_op op_addU (pe_slice sl_u (pv 1) (po_some (pe_op op_addU (pv 2) pe_int)) (po_some (pe_op op_addU (pv 2) pe_int))) (pe_slice sl_u (pv 1) (po_some (pv 2)) (po_some (pe_op op_addU (pv 2) pe_int)))))
      (pss_cons (ps_ret (pe_op op_addU (pe_op op_addU (pe_slice sl_u (pv 1) po_none (po_some (pv 2))) (pv 5)) (pe_slice sl_u (pv 1) (po_some (pe_op op_addU (pv 2) pe_int)) po_none)))
      pss_nil))))))))), body_D h fun a us ds O hv hl => ?_⟩
  have h1 := h.1
  subst hv
  obtain ⟨v_1, rfl⟩ := ls1 (l := us) (by first | exact h1 | exact Nat.succ.inj h1)
  obtain ⟨x_1, rfl⟩ := ls1 (l := ds) (by first | exact hl.symm | exact hl)
  refine ⟨_, rfl, ?_⟩
  refine sv_st (σ' := [some (.ref a), some v_1, none, none, none, none]) rfl ?_
  refine sv_asg sub1 (ev_cD rfl (fun _ _ => u1_len) (av_cons (ev_cb cs_len (av_cons (ev_var rfl (.head _)) av_nil)) av_nil)) (σ' := (fun v1 => [some (.ref a), some v_1, some v1, none, none, none])) (fun _ => rfl) fun v1 x38 => ?_
  refine sv_asg sub1 (ev_op os_idx (ev_var rfl (.tail _ (.head _))) (ev_cD rfl (fun _ _ => u1_len) (av_cons (ev_cb cs_len (av_cons (ev_var rfl (.tail _ (.head _))) av_nil)) av_nil))) (σ' := (fun v2 => [some (.ref a), some v_1, some v1, some v2, none, none])) (fun _ => rfl) fun v2 x37 => ?_
  refine sv_asg sub1 (ev_cD rfl (fun _ _ => u1_len) (av_cons ev_int av_nil)) (σ' := (fun v3 => [some (.ref a), some v_1, some v1, some v2, some v3, none])) (fun _ => rfl) fun v3 x36 => ?_
  refine sv_if sub1 (tv_test (ev_op os_eq (ev_var rfl (.head _)) ev_int)) ?_ ?_
  · refine sv_assoc ?_
    exact sv_ret sub1 (ev_op os_add (ev_slice (ev_var rfl (.tail _ (.tail _ (.tail _ (.head _))))) pv_none (pv_some (ev_var rfl (.tail _ (.tail _ (.head _)))))) (ev_slice (ev_var rfl (.tail _ (.tail _ (.tail _ (.head _))))) (pv_some (ev_op os_add (ev_var rfl (.tail _ (.tail _ (.head _)))) ev_int)) pv_none))
  · refine sv_skip ?_
    refine sv_if sub1 (tv_test (ev_op os_eq (ev_var rfl (.head _)) ev_int)) ?_ ?_
    · refine sv_assoc ?_
      exact sv_ret sub1 (ev_op os_add (ev_op os_add (ev_slice (ev_var rfl (.tail _ (.tail _ (.tail _ (.head _))))) pv_none (pv_some (ev_var rfl (.tail _ (.tail _ (.head _)))))) (ev_lst (av_cons (ev_var rfl (.tail _ (.head _))) av_nil))) (ev_slice (ev_var rfl (.tail _ (.tail _ (.tail _ (.head _))))) (pv_some (ev_var rfl (.tail _ (.tail _ (.head _))))) pv_none))
    · refine sv_skip ?_
      refine sv_if sub1 (tv_test (ev_op os_eq (ev_var rfl (.head _)) ev_int)) ?_ ?_
      · refine sv_assoc ?_
        exact sv_ret sub1 (ev_op os_add (ev_var rfl (.tail _ (.tail _ (.tail _ (.head _))))) (ev_lst (av_cons (ev_var rfl (.tail _ (.head _))) av_nil)))
      · refine sv_skip ?_
        refine sv_if sub1 (tv_test (ev_op os_eq (ev_var rfl (.head _)) ev_int)) ?_ ?_
        · refine sv_assoc ?_
          exact sv_ret sub1 (ev_op os_add (ev_op os_add (ev_slice (ev_var rfl (.tail _ (.tail _ (.tail _ (.head _))))) pv_none (pv_some (ev_var rfl (.tail _ (.tail _ (.head _)))))) (ev_lst (av_cons (ev_var rfl (.tail _ (.head _))) av_nil))) (ev_slice (ev_var rfl (.tail _ (.tail _ (.tail _ (.head _))))) (pv_some (ev_op os_add (ev_var rfl (.tail _ (.tail _ (.head _)))) ev_int)) pv_none))
        · refine sv_skip ?_
          refine sv_asg sub1 (ev_op os_add (ev_slice (ev_var rfl (.tail _ (.tail _ (.tail _ (.head _))))) (pv_some (ev_op os_add (ev_var rfl (.tail _ (.tail _ (.head _)))) ev_int)) (pv_some (ev_op os_add (ev_var rfl (.tail _ (.tail _ (.head _)))) ev_int))) (ev_slice (ev_var rfl (.tail _ (.tail _ (.tail _ (.head _))))) (pv_some (ev_var rfl (.tail _ (.tail _ (.head _))))) (pv_some (ev_op os_add (ev_var rfl (.tail _ (.tail _ (.head _)))) ev_int)))) (σ' := (fun v4 => [some (.ref a), some v_1, some v1, some v2, some v3, some v4])) (fun _ => rfl) fun v4 x5 => ?_
          exact sv_ret sub1 (ev_op os_add (ev_op os_add (ev_slice (ev_var rfl (.tail _ (.tail _ (.tail _ (.tail _ (.head _)))))) pv_none (pv_some (ev_var rfl (.tail _ (.tail _ (.tail _ (.head _))))))) (ev_var rfl (.head _))) (ev_slice (ev_var rfl (.tail _ (.tail _ (.tail _ (.tail _ (.head _)))))) (pv_some (ev_op os_add (ev_var rfl (.tail _ (.tail _ (.tail _ (.head _))))) ev_int)) pv_none))
set_option maxHeartbeats 0 in
theorem ok__law_bent (T : Txt K mg) : FnOk P w K mg base CX0 3 T.a__law_bent T.fd__law_bent ["deck", "text", "joints"] (SpD K 2 (u2 m__law_bent)) := by
  refine T.F__law_bent.ok sc__law_bent (fun vs H Q E h => h.1) (fun cdv A outer s H vs Q E hr h => ?_)
  refine ⟨_, (pss_cons (ps_set (i := 3) sc__law_bent.nd rfl (Or.inl rfl) (pe_call (ok__law_pick T) (hr.mono (by decide)) rfl T.m__law_pick T.F__law_pick.kp T.b__law_pick .nil pass0 (pa_cons (pv 0) (pa_cons (pe_op op_addU pe_int (pe_callB call_len (by rfl) T.z_len (by decide +kernel) (pa_cons (pv 2) pa_nil))) pa_nil))))
      (pss_cons (ps_if (pt_cmpR op_lt (pv 3) pe_int (nomark _)) (pss_cons (ps_ret (pe_call (ok__law_sign_bent T) (hr.mono (by decide)) rfl T.m__law_sign_bent T.F__law_sign_bent.kp T.b__law_sign_bent .nil pass0 (pa_cons (pv 0) (pa_cons (pv 1) pa_nil))))
      pss_nil) pss_nil)
      (pss_cons (ps_set (i := 4) sc__law_bent.nd rfl (Or.inl rfl) (pe_ix ix_seq (pv 2) (pe_op op_sub (pv 3) pe_int) (fun _ _ => rfl)))
      (pss_cons (ps_ret (pe_join (pv 4) (pe_call (ok__law_list_bent T) (hr.mono (by decide)) rfl T.m__law_list_bent T.F__law_list_bent.kp T.b__law_list_bent .nil pass0 (pa_cons (pv 0) (pa_cons (pe_split (pv 1) (pv 4)) pa_nil)))))
      pss_nil)))), body_D h fun a us ds O hv hl => ?_⟩
  have h1 := h.1
  subst hv
  obtain ⟨v_1, v_2, rfl⟩ := ls2 (l := us) (by first | exact h1 | exact Nat.succ.inj h1)
  obtain ⟨x_1, x_2, rfl⟩ := ls2 (l := ds) (by first | exact hl.symm | exact hl)
  refine ⟨_, rfl, ?_⟩
  refine sv_st (σ' := [some (.ref a), some v_1, some v_2, none, none]) rfl ?_
  refine sv_asg sub1 (ev_cD rfl (fun _ _ => u1_len) (av_cons (ev_op os_add ev_int (ev_cb cs_len (av_cons (ev_var rfl (.tail _ (.head _))) av_nil))) av_nil)) (σ' := (fun v1 => [some (.ref a), some v_1, some v_2, some v1, none])) (fun _ => rfl) fun v1 x6 => ?_
  refine sv_if sub1 (tv_test (ev_op os_lt (ev_var rfl (.head _)) ev_int)) ?_ ?_
  · refine sv_assoc ?_
    exact sv_ret sub1 (ev_cD rfl (fun _ _ => u1_len) (av_cons (ev_var rfl (.tail _ (.head _))) av_nil))
  · refine sv_skip ?_
    refine sv_asg sub1 (ev_op os_idx (ev_var rfl (.tail _ (.tail _ (.head _)))) (ev_op os_sub (ev_var rfl (.head _)) ev_int)) (σ' := (fun v2 => [some (.ref a), some v_1, some v_2, some v1, some v2])) (fun _ => rfl) fun v2 x3 => ?_
    exact sv_ret sub1 (ev_join (ev_var rfl (.head _)) (ev_cD rfl (fun _ _ => u1_len) (av_cons (ev_m1 ms_split (ev_var rfl (.tail _ (.tail _ (.head _)))) (ev_var rfl (.head _))) av_nil)))
set_option maxHeartbeats 0 in
theorem ok__law_number (T : Txt K mg) : FnOk P w K mg base CX0 1 T.a__law_number T.fd__law_number ["word"] (SpP K 1 (u1 m__law_number)) := by
  refine T.F__law_number.ok sc__law_number (fun vs H Q E h => h.1) (fun cdv A outer s H vs Q E hr h => ?_)
  refine ⟨_, (pss_cons (ps_set (i := 1) sc__law_number.nd rfl (Or.inl rfl) (pe_ifExp (pt_cmpR (op_eqD hr.units) (pe_slice sl_str (pv 0) po_none (po_some pe_int)) pe_str (nomark _)) (pe_slice sl_str (pv 0) (po_some pe_int) po_none) (pv 0)))
      (pss_cons (ps_if (PW.pt (pw_or (pt_not (pt_chain op_lt op_lt pe_int (pe_callB call_len (by rfl) T.z_len (by decide +kernel) (pa_cons (pv 1) pa_nil)) pe_int)) (pw_or1 (pt_cmpR (op_neD hr.units) (pe_lc (own := [("sign", 2)]) (g := (gName 2)) rfl sc__law_number.nd (pi_str (pv 1)) (blkOk_by (own := [("sign", 2)]) (N := ["word", "digits", "sign"]) (sc := defScope s__law_number) (by decide +kernel)) (fun _ _ _ _ _ => (pg_name (i := 2) sc__law_number.nd rfl (Or.inl rfl))) (fun _ _ _ _ _ => (pts_one (pt_not (pt_chain (show OpR _ _ (fun x y H Q => ∃ i j, x = .str i ∧ y = .str j ∧ Q (.bl (!decide (j.cps.toList < i.cps.toList))) H) from op_le_str) (show OpR _ _ (fun x y H Q => ∃ i j, x = .str i ∧ y = .str j ∧ Q (.bl (!decide (j.cps.toList < i.cps.toList))) H) from op_le_str) pe_str (pv 2) pe_str)))) (fun _ _ _ _ _ => (pv 2))) (pe_lst pa_nil) (nomark _))))) (pss_cons (ps_ret pe_non)
      pss_nil) pss_nil)
      (pss_cons (ps_ret (pe_ifExp (PW.pt (pw_and (pt_cmpR (op_eqD hr.units) (pe_ix ix_str (pv 1) pe_int (fun _ _ => rfl)) pe_str (nomark _)) (pw_and1 (pt_cmpR (op_neD hr.units) (pv 0) pe_str (nomark _))))) pe_non (pe_callTy call_int_str (by rfl) T.z_int (by decide +kernel) (pa_cons (pv 0) pa_nil))))
      pss_nil))), body_P h fun ds O hl => ?_⟩
  have h1 := h.1
  obtain ⟨v_0, rfl⟩ := ls1 (l := vs) (by first | exact h1 | exact Nat.succ.inj h1)
  obtain ⟨x_0, rfl⟩ := ls1 (l := ds) (by first | exact hl.symm | exact hl)
  refine ⟨_, rfl, ?_⟩
  refine sv_st (σ' := [some v_0, none, none]) rfl ?_
  refine sv_asg sub0 (ev_if (tv_test (ev_op os_eq (ev_sliceT (ev_var rfl (.head _)) pv_none (pv_some ev_int)) ev_str)) (ev_sliceT (ev_var rfl (.head _)) (pv_some ev_int) pv_none) (ev_var rfl (.head _))) (σ' := (fun v1 => [some v_0, some v1, none])) (fun _ => rfl) fun v1 x4 => ?_
  refine sv_if sub0 (tv_or (tv_not (tv_test (ev_chain os_lt os_lt ev_int (ev_cb cs_len (av_cons (ev_var rfl (.head _)) av_nil)) ev_int))) (tv_test (ev_op os_ne (ev_lc1 (σ2 := fun v2 => [some v_0, some v1, some v2]) (iv_txt (ev_var rfl (.head _))) (fun _ => rfl) (fun _ => rfl) (fun v2 x3 => (tv_not (tv_test (ev_chain os_let os_let ev_str (ev_var rfl (.head _)) ev_str)))) (fun v2 x3 => (ev_var rfl (.head _)))) (ev_lst av_nil)))) ?_ ?_
  · refine sv_assoc ?_
    exact sv_ret sub0 ev_non
  · refine sv_skip ?_
    exact sv_ret sub0 (ev_if (tv_and (tv_test (ev_op os_eq (ev_op os_ixt (ev_var rfl (.head _)) ev_int) ev_str)) (tv_test (ev_op os_ne (ev_var rfl (.tail _ (.head _))) ev_str))) ev_non (ev_cb cs_tint (av_cons (ev_var rfl (.tail _ (.head _))) av_nil)))
set_option maxHeartbeats 0 in
theorem ok__law_deeds (T : Txt K mg) : FnOk P w K mg base CX0 3 T.a__law_deeds T.fd__law_deeds ["deck"] (SpD K 0 (u0 m__law_deeds)) := by
  refine T.F__law_deeds.ok sc__law_deeds (fun vs H Q E h => h.1) (fun cdv A outer s H vs Q E hr h => ?_)
  refine ⟨_, (pss_cons (ps_set (i := 1) sc__law_deeds.nd rfl (Or.inl rfl) (pe_lst pa_nil))
      (pss_cons (ps_for PassesOwn.never rfl (pi_range1 (by rfl) T.z_range (pa_cons (pe_ix ix_seq (pe_lst (pa_cons (pe_call (ok__law_pick T) (hr.mono (by decide)) rfl T.m__law_pick T.F__law_pick.kp T.b__law_pick .nil pass0 (pa_cons (pv 0) (pa_cons pe_int pa_nil))) (pa_cons pe_int pa_nil))) (pe_callTy call_int1 (by rfl) T.z_int (by decide +kernel) (pa_cons (pe_cmpR (op_eqD hr.units) (pe_call (ok__law_pick T) (hr.mono (by decide)) rfl T.m__law_pick T.F__law_pick.kp T.b__law_pick .nil pass0 (pa_cons (pv 0) (pa_cons pe_int pa_nil))) pe_int (nomark _)) pa_nil)) (fun _ _ => rfl)) pa_nil)) (pg_name (i := 2) sc__law_deeds.nd rfl (Or.inl rfl)) (pss_cons (ps_set (i := 3) sc__law_deeds.nd rfl (Or.inl rfl) (pe_call (ok__law_pick T) (hr.mono (by decide)) rfl T.m__law_pick T.F__law_pick.kp T.b__law_pick .nil pass0 (pa_cons (pv 0) (pa_cons pe_int pa_nil))))
      (pss_cons (ps_set (i := 4) sc__law_deeds.nd rfl (Or.inl rfl) (pe_op op_mulU (pe_ix ix_seq (pe_lst (pa_cons (pe_call (ok__law_great T) (hr.mono (by decide)) rfl T.m__law_great T.F__law_great.kp T.b__law_great .nil pass0 (pa_cons (pv 0) (pa_cons pe_int pa_nil))) (pa_cons (pe_call (ok__law_pick T) (hr.mono (by decide)) rfl T.m__law_pick T.F__law_pick.kp T.b__law_pick .nil pass0 (pa_cons (pv 0) (pa_cons pe_int pa_nil))) (pa_cons pe_int pa_nil)))) (pe_call (ok__law_pick T) (hr.mono (by decide)) rfl T.m__law_pick T.F__law_pick.kp T.b__law_pick .nil pass0 (pa_cons (pv 0) (pa_cons pe_int pa_nil))) (fun _ _ => rfl)) (pe_ix ix_seq (pe_lst (pa_cons pe_int (pa_cons (pe_un un_neg pe_int) pa_nil))) (pe_call (ok__law_pick T) (hr.mono (by decide)) rfl T.m__law_pick T.F__law_pick.kp T.b__law_pick .nil pass0 (pa_cons (pv 0) (pa_cons pe_int pa_nil))) (fun _ _ => rfl))))
      (pss_cons (ps_if (pt_cmpR op_lt (pv 3) pe_int (nomark _)) (pss_cons (ps_set (i := 5) sc__law_deeds.nd rfl (Or.inl rfl) (pe_ix ix_seq (pe_lst (pa_cons (pe_call (ok__law_pick T) (hr.mono (by decide)) rfl T.m__law_pick T.F__law_pick.kp T.b__law_pick .nil pass0 (pa_cons (pv 0) (pa_cons pe_int pa_nil))) (pa_cons pe_int (pa_cons pe_int pa_nil)))) (pe_call (ok__law_pick T) (hr.mono (by decide)) rfl T.m__law_pick T.F__law_pick.kp T.b__law_pick .nil pass0 (pa_cons (pv 0) (pa_cons pe_int pa_nil))) (fun _ _ => rfl)))
      (pss_cons (ps_expr (pe_bm PySem.F.plainAttrs_list PySem.F.slot_list_append PySem.F.type_list_append mt_append (pv 1) (pa_cons (pe_tup (pa_cons (pe_ix ix_seq (pe_lst (pa_cons pe_str (pa_cons pe_str pa_nil))) (pv 3) (fun _ _ => rfl)) (pa_cons (pv 4) (pa_cons (pe_op op_addU pe_int (pe_call (ok__law_pick T) (hr.mono (by decide)) rfl T.m__law_pick T.F__law_pick.kp T.b__law_pick .nil pass0 (pa_cons (pv 0) (pa_cons (pe_op op_pow pe_int pe_int) pa_nil)))) (pa_cons (pv 5) pa_nil))))) pa_nil)))
      pss_nil)) (pss_cons (ps_if (pt_cmpR op_lt (pv 3) pe_int (nomark _)) (pss_cons (ps_expr (pe_bm PySem.F.plainAttrs_list PySem.F.slot_list_append PySem.F.type_list_append mt_append (pv 1) (pa_cons (pe_tup (pa_cons pe_str (pa_cons (pe_ix ix_seq (pe_lst (pa_cons (pe_call (ok__law_pick T) (hr.mono (by decide)) rfl T.m__law_pick T.F__law_pick.kp T.b__law_pick .nil pass0 (pa_cons (pv 0) (pa_cons pe_int pa_nil))) (pa_cons (pv 4) pa_nil))) (pe_call (ok__law_pick T) (hr.mono (by decide)) rfl T.m__law_pick T.F__law_pick.kp T.b__law_pick .nil pass0 (pa_cons (pv 0) (pa_cons pe_int pa_nil))) (fun _ _ => rfl)) pa_nil))) pa_nil)))
      pss_nil) (pss_cons (ps_expr (pe_bm PySem.F.plainAttrs_list PySem.F.slot_list_append PySem.F.type_list_append mt_append (pv 1) (pa_cons (pe_tup (pa_cons pe_str (pa_cons (pe_call (ok__law_pick T) (hr.mono (by decide)) rfl T.m__law_pick T.F__law_pick.kp T.b__law_pick .nil pass0 (pa_cons (pv 0) (pa_cons pe_int pa_nil))) (pa_cons (pv 4) (pa_cons (pe_ix ix_seq (pe_lst (pa_cons pe_non (pa_cons (pe_op op_sub pe_int (pe_call (ok__law_pick T) (hr.mono (by decide)) rfl T.m__law_pick T.F__law_pick.kp T.b__law_pick .nil pass0 (pa_cons (pv 0) (pa_cons pe_int pa_nil)))) pa_nil))) (pe_call (ok__law_pick T) (hr.mono (by decide)) rfl T.m__law_pick T.F__law_pick.kp T.b__law_pick .nil pass0 (pa_cons (pv 0) (pa_cons pe_int pa_nil))) (fun _ _ => rfl)) pa_nil))))) pa_nil)))
      pss_nil))
      pss_nil))
      pss_nil))))
      (pss_cons (ps_ret (pv 1))
      pss_nil))), body_D h fun a us ds O hv hl => ?_⟩
  have h1 := h.1
  subst hv
  obtain rfl := ls0 (l := us) (by first | exact h1 | exact Nat.succ.inj h1)
  obtain rfl := ls0 (l := ds) (by first | exact hl.symm | exact hl)
  refine ⟨_, rfl, ?_⟩
  refine sv_st (σ' := [some (.ref a), none, none, none, none, none]) rfl ?_
  refine sv_new sub1 av_nil (σ' := fun v2 => [some (.ref a), some v2, none, none, none, none]) (fun _ => rfl) (C' := fun p1 deeds m => [rootL K a m, rootL K p1 deeds]) (fun p1 deeds m => (List.perm_append_singleton _ [rootL K a m]).symm) fun p1 deeds hp1 => ?_
  refine sv_seq (J1 := (fun (s3 : D) σ' L2 C2 => ∃ (o4 : Option V) (o5 : Option V) (o6 : Option V) (o7 : Option V), σ' = [some (.ref a), some (.ref p1), o7, o4, o5, o6] ∧ L2 = ([] : List (V × D)) ∧ C2 = (fun m => rootL K a m :: [rootL K p1 s3]))) (sv_for sub1 (iv_rng1 (av_cons (ev_op os_idx (ev_lst (av_cons (ev_cD rfl (fun _ _ => u1_len) (av_cons ev_int av_nil)) (av_cons ev_int av_nil))) (ev_cb cs_int (av_cons (ev_op os_eq (ev_cD rfl (fun _ _ => u1_len) (av_cons ev_int av_nil)) ev_int) av_nil))) av_nil)) ⟨none, none, none, none, rfl, rfl, rfl⟩ lnil (by intro s3 _ _ _ hJ; obtain ⟨o4, o5, o6, o7, rfl, rfl, rfl⟩ := hJ; exact sub1) ?_) ?_
  · intro s3 _ _ _ hJ v8 x9
    obtain ⟨o4, o5, o6, o7, rfl, rfl, rfl⟩ := hJ
    refine tg_name (σ' := [some (.ref a), some (.ref p1), some v8, o4, o5, o6]) rfl (?_)
    refine sv_asg sub1 (ev_cD rfl (fun _ _ => u1_len) (av_cons ev_int av_nil)) (σ' := (fun v10 => [some (.ref a), some (.ref p1), some v8, some v10, o5, o6])) (fun _ => rfl) fun v10 x15 => ?_
    refine sv_asg sub1 (ev_op os_mul (ev_op os_idx (ev_lst (av_cons (ev_cD rfl (fun _ _ => u1_len) (av_cons ev_int av_nil)) (av_cons (ev_cD rfl (fun _ _ => u1_len) (av_cons ev_int av_nil)) (av_cons ev_int av_nil)))) (ev_cD rfl (fun _ _ => u1_len) (av_cons ev_int av_nil))) (ev_op os_idx (ev_lst (av_cons ev_int (av_cons (ev_un us_neg ev_int) av_nil))) (ev_cD rfl (fun _ _ => u1_len) (av_cons ev_int av_nil)))) (σ' := (fun v11 => [some (.ref a), some (.ref p1), some v8, some v10, some v11, o6])) (fun _ => rfl) fun v11 x14 => ?_
    refine sv_if sub1 (tv_test (ev_op os_lt (ev_var rfl (.tail _ (.head _))) ev_int)) ?_ ?_
    · refine sv_assoc ?_
      refine sv_asg sub1 (ev_op os_idx (ev_lst (av_cons (ev_cD rfl (fun _ _ => u1_len) (av_cons ev_int av_nil)) (av_cons ev_int (av_cons ev_int av_nil)))) (ev_cD rfl (fun _ _ => u1_len) (av_cons ev_int av_nil))) (σ' := (fun v12 => [some (.ref a), some (.ref p1), some v8, some v10, some v11, some v12])) (fun _ => rfl) fun v12 x13 => ?_
      refine sv_assoc ?_
      refine sv_app sub1 rfl (ev_tup (av_cons (ev_op os_idx (ev_lst (av_cons ev_str (av_cons ev_str av_nil))) (ev_var rfl (.tail _ (.tail _ (.head _))))) (av_cons (ev_var rfl (.tail _ (.head _))) (av_cons (ev_op os_add ev_int (ev_cD rfl (fun _ _ => u1_len) (av_cons (ev_op os_pow ev_int ev_int) av_nil))) (av_cons (ev_var rfl (.head _)) av_nil))))) (Z := fun m => [rootL K a m]) (fun m => List.perm_middle (l₁ := [rootL K a m]) (l₂ := [])) (C' := fun d m => [rootL K a m, rootL K p1 d]) (fun d m => (List.perm_middle (l₁ := [rootL K a m]) (l₂ := [])).symm) fun deeds1 => ?_
      refine sv_skip ?_
      exact sv_nil ⟨(some v10), (some v11), (some v12), (some v8), rfl, rfl, rfl⟩ lnil
    · refine sv_assoc ?_
      refine sv_if sub1 (tv_test (ev_op os_lt (ev_var rfl (.tail _ (.head _))) ev_int)) ?_ ?_
      · refine sv_assoc ?_
        refine sv_app sub1 rfl (ev_tup (av_cons ev_str (av_cons (ev_op os_idx (ev_lst (av_cons (ev_cD rfl (fun _ _ => u1_len) (av_cons ev_int av_nil)) (av_cons (ev_var rfl (.head _)) av_nil))) (ev_cD rfl (fun _ _ => u1_len) (av_cons ev_int av_nil))) av_nil))) (Z := fun m => [rootL K a m]) (fun m => List.perm_middle (l₁ := [rootL K a m]) (l₂ := [])) (C' := fun d m => [rootL K a m, rootL K p1 d]) (fun d m => (List.perm_middle (l₁ := [rootL K a m]) (l₂ := [])).symm) fun deeds2 => ?_
        refine sv_skip ?_
        refine sv_skip ?_
        exact sv_nil ⟨(some v10), (some v11), o6, (some v8), rfl, rfl, rfl⟩ lnil
      · refine sv_assoc ?_
        refine sv_app sub1 rfl (ev_tup (av_cons ev_str (av_cons (ev_cD rfl (fun _ _ => u1_len) (av_cons ev_int av_nil)) (av_cons (ev_var rfl (.head _)) (av_cons (ev_op os_idx (ev_lst (av_cons ev_non (av_cons (ev_op os_sub ev_int (ev_cD rfl (fun _ _ => u1_len) (av_cons ev_int av_nil))) av_nil))) (ev_cD rfl (fun _ _ => u1_len) (av_cons ev_int av_nil))) av_nil))))) (Z := fun m => [rootL K a m]) (fun m => List.perm_middle (l₁ := [rootL K a m]) (l₂ := [])) (C' := fun d m => [rootL K a m, rootL K p1 d]) (fun d m => (List.perm_middle (l₁ := [rootL K a m]) (l₂ := [])).symm) fun deeds3 => ?_
        refine sv_skip ?_
        refine sv_skip ?_
        exact sv_nil ⟨(some v10), (some v11), o6, (some v8), rfl, rfl, rfl⟩ lnil
  · intro s3 _ _ _ hJ
    obtain ⟨o4, o5, o6, o7, rfl, rfl, rfl⟩ := hJ
    refine sv_freeze (C' := fun m => [rootL K a m]) (fun m => List.perm_middle (l₁ := [rootL K a m]) (l₂ := [])) hp1 ?_
    exact sv_ret sub1 (ev_var rfl (.head _))
set_option maxHeartbeats 0 in
theorem ok__law_text (T : Txt K mg) : FnOk P w K mg base CX0 1 T.a__law_text T.fd__law_text ["deeds"] (SpP K 1 (u1 m__law_text)) := by
  refine T.F__law_text.ok sc__law_text (fun vs H Q E h => h.1) (fun cdv A outer s H vs Q E hr h => ?_)
  refine ⟨_, (pss_cons (ps_set (i := 1) sc__law_text.nd rfl (Or.inl rfl) (pe_lst pa_nil))
      (pss_cons (ps_for PassesOwn.never rfl (pi_seq (pv 0)) (pg_name (i := 2) sc__law_text.nd rfl (Or.inl rfl)) (pss_cons (ps_expr (pe_bm PySem.F.plainAttrs_list PySem.F.slot_list_append PySem.F.type_list_append mt_append (pv 1) (pa_cons (pe_join pe_str (pe_lc (own := [("part", 3)]) (g := (gName 3)) (tt := tYes) rfl sc__law_text.nd (pi_seq (pv 2)) (blkOk_by (own := [("part", 3)]) (N := ["deeds", "rows", "deed", "part"]) (sc := defScope s__law_text) (by decide +kernel)) (fun _ _ _ _ _ => (pg_name (i := 3) sc__law_text.nd rfl (Or.inl rfl))) (fun _ _ _ _ _ => pts_nil) (fun _ _ _ _ _ => (pe_ifExp (pt_cmpR op_isU (pv 3) pe_non (nomark _)) pe_str (pe_callTy (show CallR _ (.type "str") (fun xs H Q => (∃ i : Int, xs = [.int i] ∧ i.natAbs.log2 < 1920 ∧ Q (.str (toString i)) H) ∨ ∃ a, xs = [.str a] ∧ Q (.str a) H) from call_strX) (by rfl) T.z_str (by decide +kernel) (pa_cons (pv 3) pa_nil)))))) pa_nil)))
      pss_nil))
      (pss_cons (ps_ret (pe_join pe_str (pv 1)))
      pss_nil))), body_P h fun ds O hl => ?_⟩
  have h1 := h.1
  obtain ⟨v_0, rfl⟩ := ls1 (l := vs) (by first | exact h1 | exact Nat.succ.inj h1)
  obtain ⟨x_0, rfl⟩ := ls1 (l := ds) (by first | exact hl.symm | exact hl)
  refine ⟨_, rfl, ?_⟩
  refine sv_st (σ' := [some v_0, none, none, none]) rfl ?_
  refine sv_new sub0 av_nil (σ' := fun v2 => [some v_0, some v2, none, none]) (fun _ => rfl) (C' := fun p1 rows m => [rootL K p1 rows]) (fun p1 rows m => (List.perm_append_singleton _ []).symm) fun p1 rows hp1 => ?_
  refine sv_seq (J1 := (fun (s3 : D) σ' L2 C2 => ∃ (o4 : Option V), σ' = [some v_0, some (.ref p1), o4, none] ∧ L2 = ([] : List (V × D)) ∧ C2 = (fun _ => [rootL K p1 s3]))) (sv_for sub0 (iv_seq (ev_var rfl (.head _))) ⟨none, rfl, rfl, rfl⟩ lnil (by intro s3 _ _ _ hJ; obtain ⟨o4, rfl, rfl, rfl⟩ := hJ; exact sub0) ?_) ?_
  · intro s3 _ _ _ hJ v5 x6
    obtain ⟨o4, rfl, rfl, rfl⟩ := hJ
    refine tg_name (σ' := [some v_0, some (.ref p1), some v5, none]) rfl (?_)
    refine sv_app sub0 rfl (ev_join ev_str (ev_lc1 (σ2 := fun v7 => [some v_0, some (.ref p1), some v5, some v7]) (iv_seq (ev_var rfl (.head _))) (fun _ => rfl) (fun _ => rfl) (fun v7 x8 => tv_yes) (fun v7 x8 => (ev_if (tv_test (ev_op os_is (ev_var rfl (.head _)) ev_non)) ev_str (ev_cb cs_strX (av_cons (ev_var rfl (.head _)) av_nil)))))) (Z := fun m => []) (fun m => List.perm_middle (l₁ := []) (l₂ := [])) (C' := fun d m => [rootL K p1 d]) (fun d m => (List.perm_middle (l₁ := []) (l₂ := [])).symm) fun rows1 => ?_
    exact sv_nil ⟨(some v5), rfl, rfl, rfl⟩ lnil
  · intro s3 _ _ _ hJ
    obtain ⟨o4, rfl, rfl, rfl⟩ := hJ
    refine sv_freeze (C' := fun m => []) (fun m => List.perm_middle (l₁ := []) (l₂ := [])) hp1 ?_
    exact sv_ret sub0 (ev_join ev_str (ev_var rfl (.head _)))
set_option maxHeartbeats 0 in
theorem ok__law_read_row (T : Txt K mg) : FnOk P w K mg base CX0 2 T.a__law_read_row T.fd__law_read_row ["row"] (SpZ K noX [false] [] [] .fr (qz (u1 m__law_read_row))) := by
  refine T.F__law_read_row.ok sc__law_read_row (fun vs H Q E h => h.1) (fun cdv A outer s H vs Q E hr h => ?_)
  refine ⟨_, (pss_cons (ps_set (i := 1) sc__law_read_row.nd rfl (Or.inl rfl) (pe_split (pv 0) pe_str))
      (pss_cons (ps_set (i := 2) sc__law_read_row.nd rfl (Or.inl rfl) (pe_disp (pps_cons pe_str pe_int (pps_cons pe_str pe_int (pps_cons pe_str pe_int (pps_cons pe_str pe_int pps_nil)))) (by rfl) (by rfl) (fun z => by cases z) (by decide)))
      (pss_cons (ps_if (PW.pt (pw_or (pt_cmp (pc_dnotin hr.units1 (pe_ix ix_seq (pv 1) pe_int (fun _ _ => rfl)) (pv 2)) (by rfl)) (pw_or1 (pt_cmpR (op_neD hr.units) (pe_callB call_len (by rfl) T.z_len (by decide +kernel) (pa_cons (pv 1) pa_nil)) (pe_dget hr.units1 (pv 2) (pe_ix ix_seq (pv 1) pe_int (fun _ _ => rfl)) (fun _ _ => rfl)) (nomark _))))) (pss_cons (ps_ret pe_non)
      pss_nil) pss_nil)
      (pss_cons (ps_setLc (i := 3) (own := [("word", 5)]) (g := (gName 5)) (tt := tYes) rfl sc__law_read_row.nd rfl rfl (sw_true rfl rfl rfl (by decide +kernel)) (pi_seq (pe_slice sl_u (pv 1) (po_some pe_int) po_none)) (blkOk_by (own := [("word", 5)]) (N := ["row", "words", "forms", "numbers", "free", "word"]) (sc := defScope s__law_read_row) (by decide +kernel)) (fun _ _ _ _ _ => (pg_name (i := 5) sc__law_read_row.nd rfl (Or.inl rfl))) (fun _ _ _ _ _ => pts_nil) (fun _ _ _ _ _ => (pe_call (ok__law_number T) (hr.mono (by decide)) (by exact rfl) T.m__law_number T.F__law_number.kp T.b__law_number .nil pass0 (pa_cons (pv 5) pa_nil))))
      (pss_cons (ps_set (i := 4) sc__law_read_row.nd rfl (Or.inl rfl) (pe_and (pe_cmpR (op_eqD hr.units) (pe_ix ix_seq (pv 1) pe_int (fun _ _ => rfl)) pe_str (nomark _)) (pe_one (pe_cmpR (op_eqD hr.units) (pe_ix ix_seq (pv 1) pe_int (fun _ _ => rfl)) pe_str (nomark _)))))
      (pss_cons (ps_if (pt_cmpR op_in_seq pe_non (pe_slice sl_u (pv 3) po_none (po_some (pe_op op_sub (pe_callB call_len (by rfl) T.z_len (by decide +kernel) (pa_cons (pv 3) pa_nil)) (pe_callTy call_int1 (by rfl) T.z_int (by decide +kernel) (pa_cons (pv 4) pa_nil))))) (by rfl)) (pss_cons (ps_ret pe_non)
      pss_nil) pss_nil)
      (pss_cons (ps_if (PW.pt (pw_and (pt_cmpR op_in_seq (pe_ix ix_seq (pv 1) pe_int (fun _ _ => rfl)) (pe_tup (pa_cons pe_str (pa_cons pe_str pa_nil))) (by rfl)) (pw_and1 (PW.pt (pw_or (pt_cmpR op_lt (pe_ix ix_seq (pv 3) pe_int (fun _ _ => rfl)) pe_int (nomark _)) (pw_or1 (pt_not (pt_chain op_le op_lt pe_int (pe_ix ix_seq (pv 3) pe_int (fun _ _ => rfl)) pe_int)))))))) (pss_cons (ps_ret pe_non)
      pss_nil) pss_nil)
      (pss_cons (ps_ret (pe_op op_addU (pe_tup (pa_cons (pe_ix ix_seq (pv 1) pe_int (fun _ _ => rfl)) pa_nil)) (pe_callTy call_tuple_of (by rfl) T.z_tuple (by decide +kernel) (pa_cons (pv 3) pa_nil))))
      pss_nil)))))))), body_Zq h (fun ts : List D => (.none : D)) (fun m : D => []) (fun _ => rfl) fun us ws ds O mx0 hl1 hl2 => ?_⟩
  obtain ⟨v_0, vs_0, us_0, rfl, rfl, mx1⟩ := mx0.fr_inv
  obtain ⟨rfl, rfl, rfl⟩ := mx1.nil_inv
  obtain ⟨x_0, rfl⟩ := ls1 (l := ds) (by first | exact hl1.symm | exact hl1)
  refine ⟨(fun m : D => []), _, rfl, (by intro ts ht; obtain rfl := ls0 (l := ts) ht; rfl), ?_⟩
  refine sv_cp (Cp' := (fun m : D => [])) rfl ?_
  refine sv_st (σ' := [some v_0, none, none, none, none, none]) rfl ?_
  refine sv_asg (fun _ => (List.nil_sublist _)) (ev_m1 ms_split (ev_var rfl (.head _)) ev_str) (σ' := (fun v1 => [some v_0, some v1, none, none, none, none])) (fun _ => rfl) fun v1 x15 => ?_
  refine sv_asgS (put := (fun (y : D) (_m : D) => y)) (C2 := fun v2 => (fun m : D => [rootS K (fun q => q ∉ O.fp) .dk v2 m])) (fun _ => (List.nil_sublist _)) (fts_disp (ps := ([("begin", 4), ("rows", 4), ("step", 2), ("put", 4)] : List (Str × Int))) (by decide)) (σ' := fun v2 => [some v_0, some v1, some v2, none, none, none]) (fun _ => rfl) (fun v2 x m => (List.perm_append_singleton _ []).symm) fun v2 => ?_
  refine sv_if (fun _ => (List.nil_sublist _)) (tv_rdr (A := (fun m : D => [rootS K (fun q => q ∉ O.fp) .dk v2 m])) (Z := (fun m : D => [])) (CF := fun m : D => [rootF K .dk v2 m]) (fun m => (.refl _)) (fun m => (.cons .nil)) (fun m O' => (tv_or (tv_test (ev_dkninF (ev_op os_idx (ev_var rfl (.head _)) ev_int) (pf_var rfl (fun _ => (.head _))))) (tv_test (ev_op os_ne (ev_cb cs_len (av_cons (ev_var rfl (.head _)) av_nil)) (ev_dkixF (pf_var rfl (fun _ => (.head _))) (ev_op os_idx (ev_var rfl (.head _)) ev_int))))))) ?_ ?_
  · refine sv_assoc ?_
    exact sv_retS (fun _ => (List.nil_sublist _)) (fts_fr ev_non)
  · refine sv_skip ?_
    refine sv_asg (fun _ => (List.nil_sublist _)) (ev_lc1 (σ2 := fun v3 => [some v_0, some v1, some v2, none, none, some v3]) (iv_seq (ev_slice (ev_var rfl (.head _)) (pv_some ev_int) pv_none)) (fun _ => rfl) (fun _ => rfl) (fun v3 x4 => tv_yes) (fun v3 x4 => (ev_cP (fun _ => u1_len) (av_cons (ev_var rfl (.head _)) av_nil)))) (σ' := (fun v5 => [some v_0, some v1, some v2, some v5, none, none])) (fun _ => rfl) fun v5 x8 => ?_
    refine sv_asg (fun _ => (List.nil_sublist _)) (ev_and (ev_op os_eq (ev_op os_idx (ev_var rfl (.tail _ (.head _))) ev_int) ev_str) (ev_op os_eq (ev_op os_idx (ev_var rfl (.tail _ (.head _))) ev_int) ev_str)) (σ' := (fun v6 => [some v_0, some v1, some v2, some v5, some v6, none])) (fun _ => rfl) fun v6 x7 => ?_
    refine sv_if (fun _ => (List.nil_sublist _)) (tv_test (ev_op os_in ev_non (ev_slice (ev_var rfl (.tail _ (.head _))) pv_none (pv_some (ev_op os_sub (ev_cb cs_len (av_cons (ev_var rfl (.tail _ (.head _))) av_nil)) (ev_cb cs_int (av_cons (ev_var rfl (.head _)) av_nil))))))) ?_ ?_
    · refine sv_assoc ?_
      exact sv_retS (fun _ => (List.nil_sublist _)) (fts_fr ev_non)
    · refine sv_skip ?_
      refine sv_if (fun _ => (List.nil_sublist _)) (tv_and (tv_test (ev_op os_in (ev_op os_idx (ev_var rfl (.tail _ (.tail _ (.head _)))) ev_int) (ev_tup (av_cons ev_str (av_cons ev_str av_nil))))) (tv_or (tv_test (ev_op os_lt (ev_op os_idx (ev_var rfl (.tail _ (.head _))) ev_int) ev_int)) (tv_not (tv_test (ev_chain os_le os_lt ev_int (ev_op os_idx (ev_var rfl (.tail _ (.head _))) ev_int) ev_int))))) ?_ ?_
      · refine sv_assoc ?_
        exact sv_retS (fun _ => (List.nil_sublist _)) (fts_fr ev_non)
      · refine sv_skip ?_
        exact sv_retS (fun _ => (List.nil_sublist _)) (fts_fr (ev_op os_add (ev_tup (av_cons (ev_op os_idx (ev_var rfl (.tail _ (.tail _ (.head _)))) ev_int) av_nil)) (ev_cb cs_tuple (av_cons (ev_var rfl (.tail _ (.head _))) av_nil))))
set_option maxHeartbeats 0 in
theorem ok__law_read (T : Txt K mg) : FnOk P w K mg base CX0 3 T.a__law_read T.fd__law_read ["text"] (SpZ K noX [false] [] [] .fr (qz (u1 m__law_read))) := by
  refine T.F__law_read.ok sc__law_read (fun vs H Q E h => h.1) (fun cdv A outer s H vs Q E hr h => ?_)
  refine ⟨_, (pss_cons (ps_if (pt_cmpR (op_eqD hr.units) (pv 0) pe_str (nomark _)) (pss_cons (ps_ret (pe_lst pa_nil))
      pss_nil) pss_nil)
      (pss_cons (ps_setLc (i := 1) (own := [("row", 2)]) (g := (gName 2)) (tt := tYes) rfl sc__law_read.nd rfl rfl (sw_true rfl rfl rfl (by decide +kernel)) (pi_seq (pe_split (pv 0) pe_str)) (blkOk_by (own := [("row", 2)]) (N := ["text", "deeds", "row"]) (sc := defScope s__law_read) (by decide +kernel)) (fun _ _ _ _ _ => (pg_name (i := 2) sc__law_read.nd rfl (Or.inl rfl))) (fun _ _ _ _ _ => pts_nil) (fun _ _ _ _ _ => (pe_call (ok__law_read_row (P := P) (w := w) T) (hr.mono (by decide)) (by exact rfl) T.m__law_read_row T.F__law_read_row.kp T.b__law_read_row .nil pass0 (pa_cons (pv 2) pa_nil))))
      (pss_cons (ps_ret (pe_ifExp (pt_cmpR (op_inD (units65 hr)) pe_non (pv 1) (by rfl)) pe_non (pv 1)))
      pss_nil))), body_Zq h (fun ts : List D => (() : Unit)) (fun m : Unit => []) (fun _ => rfl) fun us ws ds O mx0 hl1 hl2 => ?_⟩
  obtain ⟨v_0, vs_0, us_0, rfl, rfl, mx1⟩ := mx0.fr_inv
  obtain ⟨rfl, rfl, rfl⟩ := mx1.nil_inv
  obtain ⟨x_0, rfl⟩ := ls1 (l := ds) (by first | exact hl1.symm | exact hl1)
  refine ⟨(fun m : Unit => []), _, rfl, (by intro ts ht; obtain rfl := ls0 (l := ts) ht; rfl), ?_⟩
  refine sv_cp (Cp' := (fun m : Unit => [])) rfl ?_
  refine sv_st (σ' := [some v_0, none, none]) rfl ?_
  refine sv_if (fun _ => (List.nil_sublist _)) (tv_test (ev_op os_eq (ev_var rfl (.head _)) ev_str)) ?_ ?_
  · refine sv_assoc ?_
    exact sv_retS (fun _ => (List.nil_sublist _)) (fts_fr (ev_lst av_nil))
  · refine sv_skip ?_
    refine sv_asg (fun _ => (List.nil_sublist _)) (ev_lc1 (σ2 := fun v1 => [some v_0, none, some v1]) (iv_seq (ev_m1 ms_split (ev_var rfl (.head _)) ev_str)) (fun _ => rfl) (fun _ => rfl) (fun v1 x2 => tv_yes) (fun v1 x2 => (ev_fts rfl (fts_cZq (fun _ h => h) (as_fr (fun _ => List.Sublist.refl _) (ev_var rfl (.head _)) as_nil))))) (σ' := (fun v3 => [some v_0, some v3, none])) (fun _ => rfl) fun v3 x4 => ?_
    exact sv_retS (fun _ => (List.nil_sublist _)) (fts_fr (ev_if (tv_test (ev_op os_inD ev_non (ev_var rfl (.head _)))) ev_non (ev_var rfl (.head _))))
set_option maxHeartbeats 0 in
theorem ok__law_told (T : Txt K mg) : FnOk P w K mg base CX0 6 T.a__law_told T.fd__law_told ["text"] (SpZ K noX [false] [] [] (.tp [(.op (.ls .fr)), .fr]) (qz (u1 m__law_told))) := by
  refine T.F__law_told.ok sc__law_told (fun vs H Q E h => h.1) (fun cdv A outer s H vs Q E hr h => ?_)
  refine ⟨_, (pss_cons (ps_set (i := 1) sc__law_told.nd rfl (Or.inl rfl) pe_non)
      (pss_cons (ps_set (i := 2) sc__law_told.nd rfl (Or.inl rfl) pe_str)
      (pss_cons (ps_tryA (i := 3) rfl rfl sc__law_told.nd rfl rfl ⟨rfl, by decide, .inl T.g_SlackError⟩ takes0N (fun W pn xe tk pa => (pss_cons (ps_set (i := 1) sc__law_told.nd rfl (Or.inl rfl) (pe_callS (ok_read_deeds (P := P) (w := w) T) (hr.mono (by decide)) (by exact rfl) T.m_read_deeds T.F_read_deeds.kp T.b_read_deeds (fun σ => passAtN tk σ) (pa_cons (pv 0) pa_nil)))
      pss_nil)) (fun a oe cls d pn hz hf => (pss_cons (ps_set (i := 2) sc__law_told.nd rfl (Or.inl rfl) (pe_callX (pa := a) (po := oe) ⟨by exact rfl, hf.imp fun _ h => ⟨h, hz.2.2 _ h⟩⟩ (.head _) hz.zc (ok__law_name_of T) (roomH_mk hr (by decide)) (by exact rfl) T.m__law_name_of T.F__law_name_of.kp T.b__law_name_of passS0 (pa_cons (pv 3) pa_nil)))
      pss_nil)))
      (pss_cons (ps_ret (pe_tup (pa_cons (pv 1) (pa_cons (pv 2) pa_nil))))
      pss_nil)))), body_Zq h (fun ts : List D => (.none : D)) (fun m : D => []) (fun _ => rfl) fun us ws ds O mx0 hl1 hl2 => ?_⟩
  obtain ⟨v_0, vs_0, us_0, rfl, rfl, mx1⟩ := mx0.fr_inv
  obtain ⟨rfl, rfl, rfl⟩ := mx1.nil_inv
  obtain ⟨x_0, rfl⟩ := ls1 (l := ds) (by first | exact hl1.symm | exact hl1)
  refine ⟨(fun m : D => []), _, rfl, (by intro ts ht; obtain rfl := ls0 (l := ts) ht; rfl), ?_⟩
  refine sv_cp (Cp' := (fun m : D => [])) rfl ?_
  refine sv_st (σ' := [some v_0, none, none, none]) rfl ?_
  refine sv_asgS (put := (fun (y : D) (_m : D) => y)) (C2 := fun v1 => (fun m : D => [rootS K (fun q => q ∉ O.fp) (.op (.ls .fr)) v1 m])) (fun _ => (List.nil_sublist _)) fts_non (σ' := fun v1 => [some v_0, some v1, none, none]) (fun _ => rfl) (fun v1 x m => (List.perm_append_singleton _ []).symm) fun v1 => ?_
  refine sv_asg (fun _ => (List.nil_sublist _)) ev_str (σ' := (fun v2 => [some v_0, some v1, some v2, none])) (fun _ => rfl) fun v2 x9 => ?_
  refine sv_seq (J1 := (fun (s3 : D) σ' L2 C2 => ∃ (v4 : V) (v5 : V), σ' = [some v_0, some v4, some v5, none] ∧ L2 = ([(v5, s3)] : List (V × D)) ∧ C2 = (fun m : D => [rootS K (fun q => q ∉ O.fp) (.op (.ls .fr)) v4 m]))) (sv_try (i := 3) (cl := T.exs) (mt := fun e => isa (nmX e)) (fun _ => (List.nil_sublist _)) (.inr rfl) T.exm_SlackError (fun W => ?_) (fun a cls d e he => ?_)) ?_
  · refine sv_asgSd (put := (fun (y : D) (_m : D) => y)) (C2' := fun v6 => (fun m : D => [rootS K (fun q => q ∉ O.fp) (.op (.ls .fr)) v6 m])) (fun _ => (List.Sublist.cons₂ _ (List.nil_sublist _))) (fun m => (.cons _ .slnil)) (fts_op (fts_cZS (fun _ _ _ h => h) (fun _ h => h) (as_fr (fun _ => List.Sublist.refl _) (ev_var rfl (.tail _ (.head _))) as_nil))) (σ' := fun v6 => [some v_0, some v6, some v2, none]) (fun _ => rfl) (fun v6 x m => (List.perm_append_singleton _ []).symm) fun v6 => ?_
    exact sv_nil ⟨v6, v2, rfl, rfl, rfl⟩ (lcons (.head _) lnil)
  · refine sv_st (σ' := [some v_0, some v1, some v2, some (.ref a)]) rfl ?_
    refine sv_asg (fun _ => (List.Sublist.cons _ (List.nil_sublist _))) (ev_cE rfl) (σ' := (fun v7 => [some v_0, some v1, some v7, some (.ref a)])) (fun _ => rfl) fun v7 x8 => ?_
    refine sv_drop (C' := (fun m : D => [rootS K (fun q => q ∉ O.fp) (.op (.ls .fr)) v1 m])) (fun _ => List.sublist_cons_self _ _) ?_
    exact sv_nil ⟨v1, v7, rfl, rfl, rfl⟩ (lcons (.head _) lnil)
  · intro s3 _ _ _ hJ
    obtain ⟨v4, v5, rfl, rfl, rfl⟩ := hJ
    exact sv_retS (fun _ => (List.nil_sublist _)) (fts_tp (by simp) (by simp) (by decide) (as_ft (bb := false) (fun _ => List.Sublist.refl _) (fts_mv (get := (fun m : D => m)) rfl (fun m => List.perm_middle (l₁ := []) (l₂ := []))) (as_ft (bb := false) (fun _ => List.Sublist.refl _) (fts_fr (ev_var rfl (.head _))) as_nil)))
set_option maxHeartbeats 0 in
theorem ok_law_of (T : Txt K mg) (hm : ∀ ns : List Int, ns.length ≤ 63 → (∀ z ∈ ns, Builtin.Int.intBits z ≤ 1048576) → ∃ m', m_law (scrD (ns.map .int)) (.none, .none) = .ok (.bool true) m') : FnOk P w K mg base CX0 7 T.a_law T.fd_law ["script"] (sp_law K) := by
  refine T.F_law.ok sc_law (fun vs H Q E h => by obtain ⟨a, ns, rfl, _⟩ := h; rfl) (fun cdv A outer s H vs Q E hr h => ?_)
  refine ⟨_, (pss_cons (ps_set (i := 1) sc_law.nd rfl (Or.inl rfl) (pe_call (ok__law_deck T) (hr.mono (by decide)) rfl T.m__law_deck T.F__law_deck.kp T.b__law_deck .nil pass0 (pa_cons (pe_ix ix_seq (pe_op op_addU (pv 0) (pe_lst (pa_cons pe_int pa_nil))) pe_int (fun _ _ => rfl)) (pa_cons pe_int pa_nil))))
      (pss_cons (ps_set (i := 2) sc_law.nd rfl (Or.inl rfl) (pe_call (ok__law_deeds T) (hr.mono (by decide)) rfl T.m__law_deeds T.F__law_deeds.kp T.b__law_deeds .nil pass0 (pa_cons (pv 1) pa_nil)))
      (pss_cons (ps_set (i := 3) sc_law.nd rfl (Or.inl rfl) (pe_callTy call_list_of (by rfl) T.z_list (by decide +kernel) (pa_cons (pv 2) pa_nil)))
      (pss_cons (ps_set (i := 4) sc_law.nd rfl (Or.inl rfl) (pe_call (ok_show_deeds T) (hr.mono (by decide)) rfl T.m_show_deeds T.F_show_deeds.kp T.b_show_deeds .nil pass0 (pa_cons (pv 3) pa_nil)))
      (pss_cons (ps_if (PW.pt (pw_or (pt_not (pt_truth (pe_callB call_isi (by rfl) T.z_isinstance (by decide +kernel) (pa_cons (pv 4) (pa_cons (pe_bltn (v := .ty "str") (u := .type "str") (by rfl) T.z_str (by decide +kernel) rfl) pa_nil))) (by intro _; rfl))) (pw_or (pt_cmpR (op_neD hr.units) (pv 4) (pe_call (ok__law_text T) (hr.mono (by decide)) rfl T.m__law_text T.F__law_text.kp T.b__law_text .nil pass0 (pa_cons (pv 2) pa_nil)) (nomark _)) (pw_or1 (pt_cmpR (op_neD hr.units) (pv 3) (pv 2) (nomark _)))))) (pss_cons (ps_ret pe_bl)
      pss_nil) pss_nil)
      (pss_cons (ps_for PassesOwn.never rfl (pi_seq (pe_op op_addU (pe_slice sl_u (pv 0) (po_some pe_int) (po_some pe_int)) (pe_lst (pa_cons pe_int pa_nil)))) (pg_name (i := 5) sc_law.nd rfl (Or.inl rfl)) (pss_cons (ps_set (i := 1) sc_law.nd rfl (Or.inl rfl) (pe_call (ok__law_deck T) (hr.mono (by decide)) rfl T.m__law_deck T.F__law_deck.kp T.b__law_deck .nil pass0 (pa_cons (pv 5) (pa_cons pe_int pa_nil))))
      (pss_cons (ps_set (i := 6) sc_law.nd rfl (Or.inl rfl) (pv 4))
      (pss_cons (ps_for PassesOwn.never rfl (pi_range1 (by rfl) T.z_range (pa_cons (pe_call (ok__law_pick T) (hr.mono (by decide)) rfl T.m__law_pick T.F__law_pick.kp T.b__law_pick .nil pass0 (pa_cons (pv 1) (pa_cons pe_int pa_nil))) pa_nil)) (pg_name (i := 7) sc_law.nd rfl (Or.inl rfl)) (pss_cons (ps_set (i := 6) sc_law.nd rfl (Or.inl rfl) (pe_call (ok__law_bent T) (hr.mono (by decide)) rfl T.m__law_bent T.F__law_bent.kp T.b__law_bent .nil pass0 (pa_cons (pv 1) (pa_cons (pv 6) (pa_cons (pe_lst (pa_cons pe_str (pa_cons pe_str pa_nil))) pa_nil)))))
      pss_nil))
      (pss_cons (ps_set (i := 8) sc_law.nd rfl (Or.inl rfl) (pe_call (ok__law_read T) (hr.mono (by decide)) rfl T.m__law_read T.F__law_read.kp T.b__law_read .nil pass0 (pa_cons (pv 6) pa_nil)))
      (pss_cons (ps_for PassesOwn.never rfl (pi_range1 (by rfl) T.z_range (pa_cons pe_int pa_nil)) (pg_name (i := 7) sc_law.nd rfl (Or.inl rfl)) (pss_cons (ps_asg (pe_call (ok__law_told T) (hr.mono (by decide)) rfl T.m__law_told T.F__law_told.kp T.b__law_told .nil pass0 (pa_cons (pv 6) pa_nil)) (pg_tup rfl (pgs_cons (pg_name (i := 9) sc_law.nd rfl (Or.inl rfl)) (pgs_cons (pg_name (i := 10) sc_law.nd rfl (Or.inl rfl)) pgs_nil))))
      (pss_cons (ps_if (pt_cmpR op_isU (pv 8) pe_non (nomark _)) (pss_cons (ps_if (PW.pt (pw_or (pt_cmpR op_isntU (pv 9) pe_non (nomark _)) (pw_or1 (pt_cmpR (op_neD hr.units) (pv 10) pe_str (nomark _))))) (pss_cons (ps_ret pe_bl)
      pss_nil) pss_nil)
      pss_nil) (pss_cons (ps_if (PW.pt (pw_or (pt_cmpR (op_neD hr.units) (pv 10) pe_str (nomark _)) (pw_or (pt_not (pt_truth (pe_callB call_isi (by rfl) T.z_isinstance (by decide +kernel) (pa_cons (pv 9) (pa_cons (pe_bltn (v := .ty "list") (u := .type "list") (by rfl) T.z_list (by decide +kernel) rfl) pa_nil))) (by intro _; rfl))) (pw_or1 (pt_cmpR (op_neD hr.units) (pv 9) (pv 8) (nomark _)))))) (pss_cons (ps_ret pe_bl)
      pss_nil) pss_nil)
      (pss_cons (ps_expr (pe_bm PySem.F.plainAttrs_list PySem.F.slot_list_append PySem.F.type_list_append mt_append (pv 9) (pa_cons pe_non pa_nil)))
      pss_nil)))
      pss_nil)))
      pss_nil))))))
      (pss_cons (ps_for PassesOwn.never rfl (pi_seq (pe_lst (pa_cons (pe_op op_addU (pv 4) pe_str) (pa_cons pe_str (pa_cons pe_str pa_nil))))) (pg_name (i := 6) sc_law.nd rfl (Or.inl rfl)) (pss_cons (ps_if (pt_cmpR (op_neD hr.units) (pe_call (ok__law_told T) (hr.mono (by decide)) rfl T.m__law_told T.F__law_told.kp T.b__law_told .nil pass0 (pa_cons (pv 6) pa_nil)) (pe_tup (pa_cons pe_non (pa_cons pe_str pa_nil))) (nomark _)) (pss_cons (ps_ret pe_bl)
      pss_nil) pss_nil)
      pss_nil))
      (pss_cons (ps_ret pe_bl)
      pss_nil)))))))), body_lawZ m_law (.none, .none) h hm fun v_0 x_0 O hv => ?_⟩
  subst hv
  refine ⟨_, rfl, ?_⟩
  refine sv_st (σ' := [some v_0, none, none, none, none, none, none, none, none, none, none]) rfl ?_
  refine sv_asgS (put := (fun (y : D) (m : D × D) => (y, m.2))) (C2 := fun v1 => (fun m : D × D => [rootS K (fun q => q ∉ O.fp) (.ls .fr) v1 m.1])) (fun _ => (List.nil_sublist _)) (fts_fv (fv_call (fun _ => u2_len) (av_cons (ev_op os_idx (ev_op os_add (ev_var rfl (.head _)) (ev_lst (av_cons ev_int av_nil))) ev_int) (av_cons ev_int av_nil)))) (σ' := fun v1 => [some v_0, some v1, none, none, none, none, none, none, none, none, none]) (fun _ => rfl) (fun v1 x m => (List.perm_append_singleton _ []).symm) fun v1 => ?_
  refine sv_asg (fun _ => (List.nil_sublist _)) (ev_cDS (get := (fun m : D × D => m.1)) (put := (fun (y : D) (m : D × D) => (y, m.2))) rfl (fun _ _ => u0_len) av_nil (fun m => List.perm_middle (l₁ := []) (l₂ := [])) (fun m d => (List.perm_middle (l₁ := []) (l₂ := [])).symm)) (σ' := (fun v2 => [some v_0, some v1, some v2, none, none, none, none, none, none, none, none])) (fun _ => rfl) fun v2 x77 => ?_
  refine sv_asg (fun _ => (List.nil_sublist _)) (ev_fts rfl (fts_fv (fv_list (av_cons (ev_var rfl (.head _)) av_nil)))) (σ' := (fun v3 => [some v_0, some v1, some v2, some v3, none, none, none, none, none, none, none])) (fun _ => rfl) fun v3 x76 => ?_
  refine sv_asg (fun _ => (List.nil_sublist _)) (ev_cP (fun _ => u1_len) (av_cons (ev_var rfl (.head _)) av_nil)) (σ' := (fun v4 => [some v_0, some v1, some v2, some v3, some v4, none, none, none, none, none, none])) (fun _ => rfl) fun v4 x75 => ?_
  refine sv_if (fun _ => (List.nil_sublist _)) (tv_or (tv_not (tv_tr (ev_isi (ev_var rfl (.head _))))) (tv_or (tv_test (ev_op os_ne (ev_var rfl (.head _)) (ev_cP (fun _ => u1_len) (av_cons (ev_var rfl (.tail _ (.tail _ (.head _)))) av_nil)))) (tv_test (ev_op os_ne (ev_var rfl (.tail _ (.head _))) (ev_var rfl (.tail _ (.tail _ (.head _)))))))) ?_ ?_
  · refine sv_assoc ?_
    exact sv_ret (fun _ => (List.nil_sublist _)) ev_bl
  · refine sv_skip ?_
    refine sv_seq (J1 := (fun (s5 : Unit) σ' L2 C2 => ∃ (v6 : V) (o7 : Option V) (o8 : Option V) (o9 : Option V) (o10 : Option V) (o11 : Option V) (o12 : Option V), σ' = [some v_0, some v6, some v2, some v3, some v4, o12, o8, o9, o10, o7, o11] ∧ L2 = ([] : List (V × D)) ∧ C2 = (fun m : D × D => [rootS K (fun q => q ∉ O.fp) (.ls .fr) v6 m.1]))) (sv_for (fun _ => (List.nil_sublist _)) (iv_seq (ev_op os_add (ev_slice (ev_var rfl (.tail _ (.tail _ (.tail _ (.head _))))) (pv_some ev_int) (pv_some ev_int)) (ev_lst (av_cons ev_int av_nil)))) ⟨v1, none, none, none, none, none, none, rfl, rfl, rfl⟩ lnil (by intro s5 _ _ _ hJ; obtain ⟨v6, o7, o8, o9, o10, o11, o12, rfl, rfl, rfl⟩ := hJ; exact (fun _ => (List.nil_sublist _))) ?_) ?_
    · intro s5 _ _ _ hJ v13 x14
      obtain ⟨v6, o7, o8, o9, o10, o11, o12, rfl, rfl, rfl⟩ := hJ
      refine tg_name (σ' := [some v_0, some v6, some v2, some v3, some v4, some v13, o8, o9, o10, o7, o11]) rfl (?_)
      refine sv_asgS (put := (fun (y : D) (m : D × D) => (y, m.2))) (C2 := fun v15 => (fun m : D × D => [rootS K (fun q => q ∉ O.fp) (.ls .fr) v15 m.1])) (fun _ => (List.nil_sublist _)) (fts_drop (fts_fv (fv_call (fun _ => u2_len) (av_cons (ev_var rfl (.head _)) (av_cons ev_int av_nil)))) (fun m => (.cons _ .slnil))) (σ' := fun v15 => [some v_0, some v15, some v2, some v3, some v4, some v13, o8, o9, o10, o7, o11]) (fun _ => rfl) (fun v15 x m => (List.perm_append_singleton _ []).symm) fun v15 => ?_
      refine sv_asg (fun _ => (List.nil_sublist _)) (ev_var rfl (.tail _ (.head _))) (σ' := (fun v16 => [some v_0, some v15, some v2, some v3, some v4, some v13, some v16, o9, o10, o7, o11])) (fun _ => rfl) fun v16 x35 => ?_
      refine sv_seq (J1 := (fun (s17 : D) σ' L2 C2 => ∃ (v18 : V) (o19 : Option V), σ' = [some v_0, some v15, some v2, some v3, some v4, some v13, some v18, o19, o10, o7, o11] ∧ L2 = ([(v18, s17)] : List (V × D)) ∧ C2 = (fun m : D × D => [rootS K (fun q => q ∉ O.fp) (.ls .fr) v15 m.1]))) (sv_for (fun _ => (List.nil_sublist _)) (iv_rng1 (av_cons (ev_cDS (get := (fun m : D × D => m.1)) (put := (fun (y : D) (m : D × D) => (y, m.2))) rfl (fun _ _ => u1_len) (av_cons ev_int av_nil) (fun m => List.perm_middle (l₁ := []) (l₂ := [])) (fun m d => (List.perm_middle (l₁ := []) (l₂ := [])).symm)) av_nil)) ⟨v16, o9, rfl, rfl, rfl⟩ (lcons (.head _) lnil) (by intro s17 _ _ _ hJ; obtain ⟨v18, o19, rfl, rfl, rfl⟩ := hJ; exact (fun _ => (List.nil_sublist _))) ?_) ?_
      · intro s17 _ _ _ hJ v20 x21
        obtain ⟨v18, o19, rfl, rfl, rfl⟩ := hJ
        refine tg_name (σ' := [some v_0, some v15, some v2, some v3, some v4, some v13, some v18, some v20, o10, o7, o11]) rfl (?_)
        refine sv_asg (fun _ => (List.nil_sublist _)) (ev_cDS (get := (fun m : D × D => m.1)) (put := (fun (y : D) (m : D × D) => (y, m.2))) rfl (fun _ _ => u2_len) (av_cons (ev_var rfl (.tail _ (.head _))) (av_cons (ev_lst (av_cons ev_str (av_cons ev_str av_nil))) av_nil)) (fun m => List.perm_middle (l₁ := []) (l₂ := [])) (fun m d => (List.perm_middle (l₁ := []) (l₂ := [])).symm)) (σ' := (fun v22 => [some v_0, some v15, some v2, some v3, some v4, some v13, some v22, some v20, o10, o7, o11])) (fun _ => rfl) fun v22 x23 => ?_
        exact sv_nil ⟨v22, (some v20), rfl, rfl, rfl⟩ (lcons (.head _) lnil)
      · intro s17 _ _ _ hJ
        obtain ⟨v18, o19, rfl, rfl, rfl⟩ := hJ
        refine sv_asg (fun _ => (List.nil_sublist _)) (ev_fts rfl (fts_cZq (fun _ h => h) (as_fr (fun _ => List.Sublist.refl _) (ev_var rfl (.head _)) as_nil))) (σ' := (fun v24 => [some v_0, some v15, some v2, some v3, some v4, some v13, some v18, o19, some v24, o7, o11])) (fun _ => rfl) fun v24 x34 => ?_
        refine sv_seq (J1 := (fun (s25 : Unit) σ' L2 C2 => ∃ (o26 : Option V) (o27 : Option V) (o28 : Option V), σ' = [some v_0, some v15, some v2, some v3, some v4, some v13, some v18, o28, some v24, o26, o27] ∧ L2 = ([] : List (V × D)) ∧ C2 = (fun m : D × D => [rootS K (fun q => q ∉ O.fp) (.ls .fr) v15 m.1]))) (sv_for (fun _ => (List.nil_sublist _)) (iv_rng1 (av_cons ev_int av_nil)) ⟨o7, o11, o19, rfl, rfl, rfl⟩ lnil (by intro s25 _ _ _ hJ; obtain ⟨o26, o27, o28, rfl, rfl, rfl⟩ := hJ; exact (fun _ => (List.nil_sublist _))) ?_) ?_
        · intro s25 _ _ _ hJ v29 x30
          obtain ⟨o26, o27, o28, rfl, rfl, rfl⟩ := hJ
          refine tg_name (σ' := [some v_0, some v15, some v2, some v3, some v4, some v13, some v18, some v29, some v24, o26, o27]) rfl (?_)
          refine sv_unpTF (put := (fun (y : D) (m : D × D) => (m.1, y))) (C2 := fun v31 => (fun m : D × D => [rootS K (fun q => q ∉ O.fp) (.ls .fr) v15 m.1, rootS K (fun q => q ∉ O.fp) (.op (.ls .fr)) v31 m.2])) (fun _ => (List.nil_sublist _)) (fts_cZq (fun _ h => h) (as_fr (fun _ => List.Sublist.refl _) (ev_var rfl (.tail _ (.tail _ (.head _)))) as_nil)) (σ' := fun v31 v32 => [some v_0, some v15, some v2, some v3, some v4, some v13, some v18, some v29, some v24, some v31, some v32]) (fun _ _ => rfl) (fun v31 x m => (List.perm_append_singleton _ [rootS K (fun q => q ∉ O.fp) (.ls .fr) v15 m.1]).symm) fun v31 v32 x33 => ?_
          refine sv_if (fun _ => (List.nil_sublist _)) (tv_test (ev_op os_is (ev_var rfl (.tail _ (.tail _ (.head _)))) ev_non)) ?_ ?_
          · refine sv_assoc ?_
            refine sv_if (fun _ => (List.nil_sublist _)) (tv_rdr (A := (fun m : D × D => [rootS K (fun q => q ∉ O.fp) (.op (.ls .fr)) v31 m.2])) (Z := (fun m : D × D => [rootS K (fun q => q ∉ O.fp) (.ls .fr) v15 m.1])) (CF := fun m : D × D => [rootF K (.op (.ls .fr)) v31 m.2]) (fun m => ((List.perm_middle (l₁ := [rootS K (fun q => q ∉ O.fp) (.ls .fr) v15 m.1]) (l₂ := [])).trans (List.Perm.cons _ (.refl _)))) (fun m => (.cons .nil)) (fun m O' => (tv_or (tv_test (ev_op os_isnt (ev_pf rfl (pf_var rfl (fun _ => (.head _)))) ev_non)) (tv_test (ev_op os_ne (ev_var rfl (.head _)) ev_str))))) ?_ ?_
            · refine sv_assoc ?_
              exact sv_ret (fun _ => (List.nil_sublist _)) ev_bl
            · refine sv_skip ?_
              refine sv_skip ?_
              refine sv_drop (C' := (fun m : D × D => [rootS K (fun q => q ∉ O.fp) (.ls .fr) v15 m.1])) (fun m => (.cons₂ _ (.cons _ .slnil))) ?_
              exact sv_nil ⟨(some v31), (some v32), (some v29), rfl, rfl, rfl⟩ lnil
          · refine sv_assoc ?_
            refine sv_if (fun _ => (List.nil_sublist _)) (tv_rdr (A := (fun m : D × D => [rootS K (fun q => q ∉ O.fp) (.op (.ls .fr)) v31 m.2])) (Z := (fun m : D × D => [rootS K (fun q => q ∉ O.fp) (.ls .fr) v15 m.1])) (CF := fun m : D × D => [rootF K (.op (.ls .fr)) v31 m.2]) (fun m => ((List.perm_middle (l₁ := [rootS K (fun q => q ∉ O.fp) (.ls .fr) v15 m.1]) (l₂ := [])).trans (List.Perm.cons _ (.refl _)))) (fun m => (.cons .nil)) (fun m O' => (tv_or (tv_test (ev_op os_ne (ev_var rfl (.head _)) ev_str)) (tv_or (tv_not (tv_tr (ev_isi (ev_pf rfl (pf_var rfl (fun _ => (.head _))))))) (tv_test (ev_op os_ne (ev_pf rfl (pf_var rfl (fun _ => (.head _)))) (ev_var rfl (.tail _ (.tail _ (.head _)))))))))) ?_ ?_
            · refine sv_assoc ?_
              exact sv_ret (fun _ => (List.nil_sublist _)) ev_bl
            · refine sv_skip ?_
              refine sv_thr (get := (fun m : D × D => m.2)) (C2 := (fun m : D × D => [rootS K (fun q => q ∉ O.fp) (.ls .fr) v15 m.1, rootS K (fun q => q ∉ O.fp) (.ls .fr) v31 m.2])) (fun m => List.perm_middle (l₁ := [rootS K (fun q => q ∉ O.fp) (.ls .fr) v15 m.1]) (l₂ := [])) (fun m => (List.perm_middle (l₁ := [rootS K (fun q => q ∉ O.fp) (.ls .fr) v15 m.1]) (l₂ := [])).symm) ?_
              refine sv_assoc ?_
              refine sv_appS (C2 := (fun m : D × D => [rootS K (fun q => q ∉ O.fp) (.ls .fr) v15 m.1, rootS K (fun q => q ∉ O.fp) (.ls .fr) v31 m.2])) (put := (fun (y : D) (m : D × D) => (m.1, y))) (pls_var rfl (fun m => List.perm_middle (l₁ := [rootS K (fun q => q ∉ O.fp) (.ls .fr) v15 m.1]) (l₂ := []))) (fts_fr ev_non) (SM.pr_keep _) (fun m d => (List.perm_middle (l₁ := [rootS K (fun q => q ∉ O.fp) (.ls .fr) v15 m.1]) (l₂ := [])).symm) ?_
              refine sv_skip ?_
              refine sv_drop (C' := (fun m : D × D => [rootS K (fun q => q ∉ O.fp) (.ls .fr) v15 m.1])) (fun m => (.cons₂ _ (.cons _ .slnil))) ?_
              exact sv_nil ⟨(some v31), (some v32), (some v29), rfl, rfl, rfl⟩ lnil
        · intro s25 _ _ _ hJ
          obtain ⟨o26, o27, o28, rfl, rfl, rfl⟩ := hJ
          exact sv_nil ⟨v15, o26, (some v18), o28, (some v24), o27, (some v13), rfl, rfl, rfl⟩ lnil
    · intro s5 _ _ _ hJ
      obtain ⟨v6, o7, o8, o9, o10, o11, o12, rfl, rfl, rfl⟩ := hJ
      refine sv_seq (J1 := (fun (s36 : Unit) σ' L2 C2 => ∃ (o37 : Option V), σ' = [some v_0, some v6, some v2, some v3, some v4, o12, o37, o9, o10, o7, o11] ∧ L2 = ([] : List (V × D)) ∧ C2 = (fun m : D × D => [rootS K (fun q => q ∉ O.fp) (.ls .fr) v6 m.1]))) (sv_for (fun _ => (List.nil_sublist _)) (iv_seq (ev_lst (av_cons (ev_op os_add (ev_var rfl (.head _)) ev_str) (av_cons ev_str (av_cons ev_str av_nil))))) ⟨o8, rfl, rfl, rfl⟩ lnil (by intro s36 _ _ _ hJ; obtain ⟨o37, rfl, rfl, rfl⟩ := hJ; exact (fun _ => (List.nil_sublist _))) ?_) ?_
      · intro s36 _ _ _ hJ v38 x39
        obtain ⟨o37, rfl, rfl, rfl⟩ := hJ
        refine tg_name (σ' := [some v_0, some v6, some v2, some v3, some v4, o12, some v38, o9, o10, o7, o11]) rfl (?_)
        refine sv_if (fun _ => (List.nil_sublist _)) (tv_test (ev_op os_ne (ev_fts rfl (fts_cZq (fun _ h => h) (as_fr (fun _ => List.Sublist.refl _) (ev_var rfl (.head _)) as_nil))) (ev_tup (av_cons ev_non (av_cons ev_str av_nil))))) ?_ ?_
        · refine sv_assoc ?_
          exact sv_ret (fun _ => (List.nil_sublist _)) ev_bl
        · refine sv_skip ?_
          exact sv_nil ⟨(some v38), rfl, rfl, rfl⟩ lnil
      · intro s36 _ _ _ hJ
        obtain ⟨o37, rfl, rfl, rfl⟩ := hJ
        exact sv_ret (fun _ => (List.nil_sublist _)) ev_bl
end
/-- a proof that simp does not take for rfl -/
theorem nr {α : Type} {a b : α} (h : a = b) : a = b := h
theorem r_bd {μ α β : Type} (a : α) (f : α → SM μ β) : bd (pu a) f = f a := nr rfl
theorem r_as {μ α β γ : Type} (x : SM μ α) (f : α → SM μ β) (g : β → SM μ γ) : bd (bd x f) g = bd x fun a => bd (f a) g := bd_assoc x f g
theorem r_op2 {μ : Type} {f : D → D → Option D} (a b : D) : (op2 f (pu a) (pu b) : SM μ D) = of (f a b) := nr rfl
theorem r_op1 {μ : Type} {f : D → Option D} (a : D) : (op1 f (pu a) : SM μ D) = of (f a) := nr rfl
theorem r_opL {μ : Type} {f : List D → Option D} (l : List D) : (opL f (pu l) : SM μ D) = of (f l) := nr rfl
theorem r_ac {μ : Type} (a : D) (l : List D) : (ac (pu a) (pu l) : SM μ (List D)) = pu (a :: l) := nr rfl
theorem r_a0 {μ : Type} : (a0 : SM μ (List D)) = pu [] := nr rfl
theorem r_of {μ α : Type} (a : α) : (of (some a) : SM μ α) = pu a := nr rfl
theorem r_cP {μ : Type} {mf : List D → SM Unit D} (l : List D) : (cP mf (pu l) : SM μ D) = px (mf l) := nr rfl
theorem r_cPX {μ : Type} {mf : List D → SM Unit D} (l : List D) : (cPX mf (pu l) : SM μ D) = p0 (mf l) := nr rfl
theorem r_p0 {μ α : Type} (a : α) : (p0 (pu a) : SM μ α) = pu a := nr rfl
theorem r_p0r {μ α : Type} (e : D) : (p0 (raise e) : SM μ α) = raise e := nr rfl
theorem r_rbd {μ α β : Type} (e : D) (f : α → SM μ β) : bd (raise e : SM μ α) f = raise e := nr rfl
theorem r_cD {μ : Type} {mf : List D → SM μ D} (l : List D) : cD mf (pu l) = qx (mf l) := nr rfl
theorem r_px {μ α : Type} (a : α) : (px (pu a) : SM μ α) = pu a := nr rfl
theorem r_qx {μ α : Type} (a : α) : (qx (pu a) : SM μ α) = pu a := nr rfl
theorem r_tb {μ : Type} (b : Bool) : (SM.tb (pu (.bool b)) : SM μ Bool) = pu b := nr rfl
theorem r_tr {μ : Type} (a : D) : (SM.tr (pu a) : SM μ Bool) = of (truD a) := nr rfl
theorem r_tand {μ : Type} (b : Bool) (x : SM μ Bool) : tand (pu b) x = if b then x else pu false := nr rfl
theorem r_tor {μ : Type} (b : Bool) (x : SM μ Bool) : tor (pu b) x = if b then pu true else x := nr rfl
theorem r_tnot {μ : Type} (b : Bool) : (tnot (pu b) : SM μ Bool) = pu (!b) := nr rfl
theorem r_eand {μ : Type} (b : Bool) (x : SM μ D) : eand (pu (.bool b)) x = if b then x else pu (.bool false) := nr rfl
theorem r_eor {μ : Type} (b : Bool) (x : SM μ D) : eor (pu (.bool b)) x = if b then pu (.bool true) else x := nr rfl
theorem r_enot {μ : Type} (b : Bool) : (enot (pu (.bool b)) : SM μ D) = pu (.bool (!b)) := nr rfl
theorem r_eif {μ : Type} (b : Bool) (x y : SM μ D) : eif (pu b) x y = if b then x else y := nr rfl
theorem r_chain {μ : Type} {f g : D → D → Option D} (a b : D) (z : SM μ D) : SM.chain f g (pu a) (pu b) z = bd (SM.tb (of (f a b))) fun c => if c then bd z fun z => of (g b z) else pu (.bool false) := nr rfl
theorem r_fin {μ α ρ : Type} (x : SM μ α) (k : α → SM μ (Fl Unit ρ)) : fin (bd x k) = bd x fun a => fin (k a) := bd_assoc _ _ _
theorem r_rt {μ ρ : Type} (d : D) : fin (pu (.rt d) : SM μ (Fl Unit ρ)) = pu d := nr rfl
theorem r_nx {μ ρ : Type} : fin (pu (.nx ()) : SM μ (Fl Unit ρ)) = pu .none := nr rfl
theorem r_sq {μ τ ρ ρ' : Type} (s : τ) (k : τ → SM μ (Fl ρ' ρ)) : sq (pu (.nx s)) k = k s := nr rfl
theorem r_sqr {μ τ ρ ρ' : Type} (d : D) (k : τ → SM μ (Fl ρ' ρ)) : sq (pu (.rt d)) k = pu (.rt d) := nr rfl
theorem r_sqb {μ τ ρ ρ' α : Type} (x : SM μ α) (f : α → SM μ (Fl τ ρ)) (k : τ → SM μ (Fl ρ' ρ)) : sq (bd x f) k = bd x fun a => sq (f a) k := bd_assoc _ _ _
theorem r_unp2 {μ β : Type} (a b : D) (k : D → D → SM μ β) : unp2 (.tuple [a, b]) k = k a b := nr rfl
theorem r_unp3 {μ β : Type} (a b c : D) (k : D → D → D → SM μ β) : unp3 (.tuple [a, b, c]) k = k a b c := nr rfl
theorem r_unp4 {μ β : Type} (a b c d : D) (k : D → D → D → D → SM μ β) : unp4 (.tuple [a, b, c, d]) k = k a b c d := nr rfl
theorem r_par2 {μ β : Type} (a b : D) (k : D → D → SM μ β) : par2 [a, b] k = k a b := nr rfl
theorem r_part0 {μ : Type} : (part0 : SM μ (Option Int)) = pu none := nr rfl
theorem r_part {μ : Type} (i : Int) : (SM.part (pu (.int i)) : SM μ (Option Int)) = pu (some i) := nr rfl
theorem r_slice {μ : Type} (a : D) (l h : Option Int) : (SM.slice (pu a) (pu l) (pu h) : SM μ D) = of (sliD a l h) := nr rfl
theorem r_itS {μ : Type} (a : D) : (itS (pu a) : SM μ (List D)) = of (seqD a) := nr rfl
theorem r_itR {μ : Type} (l : List D) : (itR (pu l) : SM μ (List D)) = of (rngD l) := nr rfl
theorem r_u0 {μ : Type} {f : SM μ D} : u0 f [] = f := nr rfl
theorem r_u1 {μ : Type} {f : D → SM μ D} {a : D} : u1 f [a] = f a := nr rfl
theorem r_u2 {μ : Type} {f : D → D → SM μ D} {a b : D} : u2 f [a, b] = f a b := nr rfl
theorem r_u3 {μ : Type} {f : D → D → D → SM μ D} {a b c : D} : u3 f [a, b, c] = f a b c := nr rfl
theorem r_u4 {μ : Type} {f : D → D → D → D → SM μ D} {a b c d : D} : u4 f [a, b, c, d] = f a b c d := nr rfl
theorem r_u5 {μ : Type} {f : D → D → D → D → D → SM μ D} {a b c d e : D} : u5 f [a, b, c, d, e] = f a b c d e := nr rfl
theorem r_u6 {μ : Type} {f : D → D → D → D → D → D → SM μ D} {a b c d e g : D} : u6 f [a, b, c, d, e, g] = f a b c d e g := nr rfl
theorem r_u7 {μ : Type} {f : D → D → D → D → D → D → D → SM μ D} {a b c d e g h : D} : u7 f [a, b, c, d, e, g, h] = f a b c d e g h := nr rfl
theorem r_ift {α : Type} (x y : α) : (if true = true then x else y) = x := nr rfl
theorem r_iff {α : Type} (x y : α) : (if false = true then x else y) = y := nr rfl
theorem d_add (a b : Int) : addD (.int a) (.int b) = some (.int (a + b)) := rfl
theorem d_addI (a b : Int) : addI (.int a) (.int b) = some (.int (a + b)) := rfl
theorem d_subI (a b : Int) : subI (.int a) (.int b) = some (.int (a - b)) := rfl
theorem d_sub (a b : Int) : subD (.int a) (.int b) = some (.int (a - b)) := rfl
theorem d_neg (a : Int) : negD (.int a) = some (.int (-a)) := rfl
theorem d_lt (a b : Int) : ltD (.int a) (.int b) = some (.bool (decide (a < b))) := rfl
theorem d_le (a b : Int) : leD (.int a) (.int b) = some (.bool (decide (a ≤ b))) := rfl
theorem d_gt (a b : Int) : gtD (.int a) (.int b) = some (.bool (decide (b < a))) := rfl
theorem d_ge (a b : Int) : geD (.int a) (.int b) = some (.bool (decide (b ≤ a))) := rfl
theorem d_isN (d : D) : isD d .none = some (.bool (isNone d)) := by cases d <;> rfl
theorem d_isntN (d : D) : isntD d .none = some (.bool (!isNone d)) := by cases d <;> rfl
theorem d_isB (a b : Bool) : isD (.bool a) (.bool b) = some (.bool (decide (a = b))) := rfl
theorem d_isntB (a b : Bool) : isntD (.bool a) (.bool b) = some (.bool (!decide (a = b))) := rfl
theorem d_nn : isNone .none = true := rfl
theorem d_ni (i : Int) : isNone (.int i) = false := rfl
theorem d_nt (l : List D) : isNone (.tuple l) = false := rfl
theorem d_nl (l : List D) : isNone (.list l) = false := rfl
theorem d_nb (b : Bool) : isNone (.bool b) = false := rfl
theorem d_abs (a : Int) : absD [.int a] = some (.int (if a < 0 then -a else a)) := rfl
theorem d_max (a b : Int) : maxD [.int a, .int b] = some (.int (if b > a then b else a)) := rfl
theorem d_maxT (a b : Int) : maxD [.tuple [.int a, .int b]] = some (.int (if b > a then b else a)) := rfl
theorem d_min (a b : Int) : minD [.int a, .int b] = some (.int (if b < a then b else a)) := rfl
theorem d_int (a : Int) : intD [.int a] = some (.int a) := rfl
theorem d_intB (b : Bool) : intD [.bool b] = some (.int (if b then 1 else 0)) := rfl
theorem d_len (l : List D) : lenD [.list l] = some (.int l.length) := rfl
theorem d_lenT (l : List D) : lenD [.tuple l] = some (.int l.length) := rfl
theorem d_list (l : List D) : listD [.list l] = some (.list l) := rfl
theorem d_listT (l : List D) : listD [.tuple l] = some (.list l) := rfl
theorem d_tuple (l : List D) : tupleD [.list l] = some (.tuple l) := rfl
theorem d_tupleT (l : List D) : tupleD [.tuple l] = some (.tuple l) := rfl
theorem d_seq (l : List D) : seqD (.list l) = some l := rfl
theorem d_seqT (l : List D) : seqD (.tuple l) = some l := rfl
theorem d_bits (a : Int) : bitsD (.int a) = some (.int (Builtin.Int.intBits a)) := rfl
theorem d_and (a b : Int) : andD (.int a) (.int b) = some (.int (Builtin.bitAnd a b)) := rfl
theorem d_or (a b : Int) : orD (.int a) (.int b) = some (.int (Builtin.bitOr a b)) := rfl
theorem d_xor (a b : Int) : xorD (.int a) (.int b) = some (.int (Builtin.bitXor a b)) := rfl
theorem d_truB (b : Bool) : truD (.bool b) = some b := rfl
theorem d_truL (l : List D) : truD (.list l) = some (!l.isEmpty) := rfl
theorem d_isi (n : String) (d : D) : isiD n d = (kitB (tyN d) n).map .bool := rfl
theorem d_cat {a b : List D} (h : a.length + b.length ≤ sizeLine) : addD (.list a) (.list b) = some (.list (a ++ b)) := if_pos h
theorem d_catS {a b : List D} (h : a.length + b.length ≤ sizeLine) : addD (scrD a) (.list b) = some (.list (a ++ b)) := if_pos h
theorem d_lst {l : List D} (h : l.length ≤ sizeLine) : lstD l = some (.list l) := if_pos h
theorem d_tup {l : List D} (h : l.length ≤ sizeLine) : tupD l = some (.tuple l) := if_pos h
theorem line_le {n : Nat} (h : n ≤ 1000000) : n ≤ sizeLine := Nat.le_trans h (by decide)
theorem d_lst0 : lstD [] = some (.list []) := rfl
theorem d_lst1 (a : D) : lstD [a] = some (.list [a]) := d_lst (by show 1 ≤ sizeLine; decide)
theorem d_lst2 (a b : D) : lstD [a, b] = some (.list [a, b]) := d_lst (by show 2 ≤ sizeLine; decide)
theorem d_lst3 (a b c : D) : lstD [a, b, c] = some (.list [a, b, c]) := d_lst (by show 3 ≤ sizeLine; decide)
theorem d_lst4 (a b c d : D) : lstD [a, b, c, d] = some (.list [a, b, c, d]) := d_lst (by show 4 ≤ sizeLine; decide)
theorem d_lst5 (a b c d e : D) : lstD [a, b, c, d, e] = some (.list [a, b, c, d, e]) := d_lst (by show 5 ≤ sizeLine; decide)
theorem d_lst6 (a b c d e f : D) : lstD [a, b, c, d, e, f] = some (.list [a, b, c, d, e, f]) := d_lst (by show 6 ≤ sizeLine; decide)
theorem d_tup1 (a : D) : tupD [a] = some (.tuple [a]) := d_tup (by show 1 ≤ sizeLine; decide)
theorem d_tup2 (a b : D) : tupD [a, b] = some (.tuple [a, b]) := d_tup (by show 2 ≤ sizeLine; decide)
theorem d_tup3 (a b c : D) : tupD [a, b, c] = some (.tuple [a, b, c]) := d_tup (by show 3 ≤ sizeLine; decide)
theorem d_tup4 (a b c d : D) : tupD [a, b, c, d] = some (.tuple [a, b, c, d]) := d_tup (by show 4 ≤ sizeLine; decide)
theorem d_ix0 (a : D) (l : List D) : idxD (.tuple (a :: l)) (.int 0) = some a := by
  show atI (a :: l) 0 = some a
  exact atI_nat (j := 0) rfl
theorem d_ix1 (a b : D) (l : List D) : idxD (.tuple (a :: b :: l)) (.int 1) = some b := by
  show atI (a :: b :: l) 1 = some b
  exact atI_nat (j := 1) rfl
theorem d_ix2 (a b c : D) (l : List D) : idxD (.tuple (a :: b :: c :: l)) (.int 2) = some c := by
  show atI (a :: b :: c :: l) 2 = some c
  exact atI_nat (j := 2) rfl
theorem d_ixl0 (a : D) (l : List D) : idxD (.list (a :: l)) (.int 0) = some a := by
  show atI (a :: l) 0 = some a
  exact atI_nat (j := 0) rfl
theorem d_ixl1 (a b : D) (l : List D) : idxD (.list (a :: b :: l)) (.int 1) = some b := by
  show atI (a :: b :: l) 1 = some b
  exact atI_nat (j := 1) rfl
theorem d_ixl2 (a b c : D) (l : List D) : idxD (.list (a :: b :: c :: l)) (.int 2) = some c := by
  show atI (a :: b :: c :: l) 2 = some c
  exact atI_nat (j := 2) rfl
theorem sh_int (a : Int) : SeqAt.shaped (.int a) = true := by
  unfold SeqAt.shaped
  simp [PyData.canLay0, PyData.depth]
theorem sh_bool (a : Bool) : SeqAt.shaped (.bool a) = true := by
  unfold SeqAt.shaped
  simp [PyData.canLay0, PyData.depth]
theorem sh_none : SeqAt.shaped .none = true := by
  unfold SeqAt.shaped
  simp [PyData.canLay0, PyData.depth]
theorem d_eqI (a b : Int) : eqD (.int a) (.int b) = some (.bool (decide (a = b))) := by
  unfold eqD
  rw [sh_int, sh_int]
  simp [PyData.eqv, Bool.beq_eq_decide_eq]
theorem d_neI (a b : Int) : neD (.int a) (.int b) = some (.bool (!decide (a = b))) := by
  unfold neD
  rw [sh_int, sh_int]
  simp [PyData.eqv, Bool.beq_eq_decide_eq]
theorem d_eqB (a b : Bool) : eqD (.bool a) (.bool b) = some (.bool (decide (a = b))) := by
  unfold eqD
  rw [sh_bool, sh_bool]
  simp [PyData.eqv, Bool.beq_eq_decide_eq]
theorem d_neB (a b : Bool) : neD (.bool a) (.bool b) = some (.bool (!decide (a = b))) := by
  unfold neD
  rw [sh_bool, sh_bool]
  simp [PyData.eqv, Bool.beq_eq_decide_eq]
theorem d_neS {d : D} (h : SeqAt.shaped d = true) : neD d d = some (.bool false) := by
  unfold neD
  rw [h, SeqAt.eqv_refl d (SeqAt.canLay_of_shaped h)]; rfl
class Sz (a : Int) (n : outParam Nat) : Prop where
  lt : a.natAbs < 2 ^ n
theorem sz_mul {a b : Int} {n k : Nat} (ha : a.natAbs < 2 ^ n) (hb : b.natAbs < 2 ^ k) : (a * b).natAbs < 2 ^ (n + k) := wide_lt ha hb
theorem sz_add {a b : Int} {n k : Nat} (ha : a.natAbs < 2 ^ n) (hb : b.natAbs < 2 ^ k) : (a + b).natAbs < 2 ^ (n + k + 1) := by
  have h1 : 2 ^ n ≤ 2 ^ (n + k) := Nat.pow_le_pow_right (by decide) (by omega)
  have h2 : 2 ^ k ≤ 2 ^ (n + k) := Nat.pow_le_pow_right (by decide) (by omega)
  rw [Nat.pow_succ]
  omega
theorem sz_sub {a b : Int} {n k : Nat} (ha : a.natAbs < 2 ^ n) (hb : b.natAbs < 2 ^ k) : (a - b).natAbs < 2 ^ (n + k + 1) := by
  have := sz_add ha (b := -b) (k := k) (by omega)
  omega
theorem sz_neg {a : Int} {n : Nat} (ha : a.natAbs < 2 ^ n) : (-a).natAbs < 2 ^ n := by omega
theorem sz_div {a b : Int} {n : Nat} (ha : a.natAbs < 2 ^ n) : (a / b).natAbs < 2 ^ n := by
  by_cases hb : b = 0
  · subst hb; rw [Int.ediv_zero]; exact Nat.lt_of_le_of_lt (Nat.zero_le _) ha
  · have := Int.natAbs_ediv_le_natAbs a b
    omega
theorem sz_two {k : Nat} : ((2 : Int) ^ k).natAbs < 2 ^ (k + 1) := by
  rw [Int.natAbs_pow]
  exact Nat.pow_lt_pow_right (by decide) (by omega)
theorem sz_le {a : Int} {n k : Nat} (ha : a.natAbs < 2 ^ n) (h : n ≤ k) : a.natAbs < 2 ^ k := Nat.lt_of_lt_of_le ha (Nat.pow_le_pow_right (by decide) h)
section
variable {a b : Int} {n k : Nat}
instance [x : Sz a n] [y : Sz b k] : Sz (a * b) (n + k) := ⟨sz_mul x.lt y.lt⟩
instance [x : Sz a n] [y : Sz b k] : Sz (a + b) (n + k + 1) := ⟨sz_add x.lt y.lt⟩
instance [x : Sz a n] [y : Sz b k] : Sz (a - b) (n + k + 1) := ⟨sz_sub x.lt y.lt⟩
instance [x : Sz a n] : Sz (-a) n := ⟨sz_neg x.lt⟩
instance [x : Sz a n] : Sz (a / b) n := ⟨sz_div x.lt⟩
instance : Sz ((2 : Int) ^ k) (k + 1) := ⟨sz_two⟩
instance : Sz (0 : Int) 1 := ⟨by decide⟩
instance : Sz (1 : Int) 1 := ⟨by decide⟩
instance : Sz (2 : Int) 2 := ⟨by decide⟩
instance : Sz (3 : Int) 2 := ⟨by decide⟩
instance : Sz (4 : Int) 3 := ⟨by decide⟩
instance : Sz (5 : Int) 3 := ⟨by decide⟩
instance : Sz (6 : Int) 3 := ⟨by decide⟩
instance : Sz (7 : Int) 3 := ⟨by decide⟩
instance : Sz (8 : Int) 4 := ⟨by decide⟩
instance : Sz (9 : Int) 4 := ⟨by decide⟩
instance : Sz (10 : Int) 4 := ⟨by decide⟩
instance : Sz (11 : Int) 4 := ⟨by decide⟩
instance : Sz (12 : Int) 4 := ⟨by decide⟩
instance : Sz (13 : Int) 4 := ⟨by decide⟩
instance : Sz (14 : Int) 4 := ⟨by decide⟩
instance : Sz (15 : Int) 4 := ⟨by decide⟩
instance : Sz (16 : Int) 5 := ⟨by decide⟩
instance : Sz (20 : Int) 5 := ⟨by decide⟩
instance : Sz (32 : Int) 6 := ⟨by decide⟩
instance : Sz (60 : Int) 6 := ⟨by decide⟩
instance : Sz (64 : Int) 7 := ⟨by decide⟩
instance : Sz (100 : Int) 7 := ⟨by decide⟩
instance : Sz (128 : Int) 8 := ⟨by decide⟩
instance : Sz (250 : Int) 8 := ⟨by decide⟩
instance : Sz (256 : Int) 9 := ⟨by decide⟩
instance : Sz (512 : Int) 10 := ⟨by decide⟩
instance : Sz (1000 : Int) 10 := ⟨by decide⟩
instance : Sz (1024 : Int) 11 := ⟨by decide⟩
instance : Sz (20000 : Int) 15 := ⟨by decide⟩
instance : Sz (1000000 : Int) 20 := ⟨by decide⟩
instance : Sz (2147483579 : Int) 31 := ⟨by decide⟩
instance : Sz (2147483563 : Int) 31 := ⟨by decide⟩
instance : Sz (2147483629 : Int) 31 := ⟨by decide⟩
instance : Sz (2147483647 : Int) 31 := ⟨by decide⟩
instance : Sz (15485867 : Int) 24 := ⟨by decide⟩
instance : Sz (7919 : Int) 13 := ⟨by decide⟩
instance {c : Prop} [Decidable c] [x : Sz a n] [y : Sz b k] : Sz (if c then a else b) (n + k) := ⟨by
  split
  · exact sz_le x.lt (by omega)
  · exact sz_le y.lt (by omega)⟩
theorem Sz.le {a : Int} {n k : Nat} (h : Sz a n) (e : n ≤ k) : Sz a k := ⟨sz_le h.lt e⟩
theorem fit_sz [x : Sz a n] (h : n ≤ 50000000) : fit a = true := fit_of x.lt h
theorem sz_nat {z : Nat} (h : z < 2 ^ n) : Sz (z : Int) n := ⟨by omega⟩
end
theorem d_mul {a b : Int} (ha : fit a = true) (hb : fit b = true) : mulD (.int a) (.int b) = some (.int (a * b)) := by
  show (if fit a && fit b then _ else _) = _
  rw [ha, hb]; rfl
theorem d_shl {a : Int} {k : Nat} (ha : fit a = true) (hk : k ≤ 50000000) : shlD (.int a) (.int (k : Int)) = some (.int (a * 2 ^ k)) := by
  show (if _ then some (PyData.int (a * 2 ^ (k : Int).toNat)) else none) = _
  rw [if_pos ⟨by omega, by omega, ha⟩, Int.toNat_natCast]
theorem d_shr {a : Int} {k : Nat} : shrD (.int a) (.int (k : Int)) = some (.int (a / 2 ^ k)) := by
  show (if 0 ≤ (k : Int) then some (PyData.int (a / 2 ^ (k : Int).toNat)) else none) = _
  rw [if_pos (by omega), Int.toNat_natCast]
theorem d_fdiv {a b : Int} (h : 0 < b) (hb : b.natAbs.log2 < 9000) : fdivD (.int a) (.int b) = some (.int (a / b)) := if_pos ⟨h, hb⟩
theorem log_of {b : Int} {k : Nat} (hb : b.natAbs < 2 ^ k) (h : 0 < b) (hk : k ≤ 9000) : b.natAbs.log2 < 9000 := by
  have := (Nat.log2_lt (by omega)).mpr hb
  omega
theorem log_sz {b : Int} {k : Nat} [x : Sz b k] (h : 0 < b) (hk : k ≤ 9000) : b.natAbs.log2 < 9000 := log_of x.lt h hk
theorem d_mod {a b : Int} (h : 0 < b) : modD (.int a) (.int b) = some (.int (a % b)) := if_pos h
theorem d_pow {a : Int} {k : Nat} (h : a.natAbs < 2 ^ 64) (hk : k ≤ 1000000) : powD (.int a) (.int (k : Int)) = some (.int (a ^ k)) := by
  show (if _ then some (PyData.int (a ^ (k : Int).toNat)) else none) = _
  rw [if_pos ⟨by omega, by omega, h⟩, Int.toNat_natCast]
theorem d_rng1 {b : Int} (h1 : -(2 ^ 62) ≤ b) (h2 : b < 2 ^ 62) : rngD [.int b] = some (rgL 0 b) := by
  simp only [rngD]
  rw [if_pos ⟨h1, h2⟩]
theorem rgL_len (a b : Int) : (rgL a b).length = (b - a).toNat := by
  unfold rgL
  rw [List.length_map, List.length_range]
def Ok {μ α : Type} (x : SM μ α) (m : μ) (P : α → μ → Prop) : Prop := ∃ a m', x m = .ok a m' ∧ P a m'
section
variable {μ α β τ ρ : Type} {x : SM μ α} {m : μ} {P Q : α → μ → Prop}
theorem Ok.mono (h : Ok x m P) (i : ∀ a m', P a m' → Q a m') : Ok x m Q := by
  obtain ⟨a, m', e, p⟩ := h
  exact ⟨a, m', e, i a m' p⟩
theorem ok_pu {a : α} (h : P a m) : Ok (pu a) m P := ⟨a, m, rfl, h⟩
theorem ok_bd {f : α → SM μ β} {P : β → μ → Prop} (h : Ok x m fun a m' => Ok (f a) m' P) : Ok (bd x f) m P := by
  obtain ⟨a, m', e, b, m2, e2, p⟩ := h
  exact ⟨b, m2, (bd_ok e).trans e2, p⟩
theorem ok_qx (h : Ok x m P) : Ok (qx x) m P := by
  obtain ⟨a, m', e, p⟩ := h
  exact ⟨a, m', qx_ok e, p⟩
theorem ok_fin {R : SM μ (Fl Unit ρ)} {P : D → μ → Prop} (h : Ok R m fun o m' => ∃ d, (o = .rt d ∨ (o = .nx () ∧ d = .none)) ∧ P d m') : Ok (fin R) m P := by
  obtain ⟨o, m', e, d, c, p⟩ := h
  rcases c with rfl | ⟨rfl, rfl⟩
  · exact ⟨d, m', bd_ok e, p⟩
  · exact ⟨.none, m', bd_ok e, p⟩
theorem ok_sq {ρ' : Type} {R : SM μ (Fl τ ρ)} {k : τ → SM μ (Fl ρ' ρ)} {P : Fl ρ' ρ → μ → Prop} (h : Ok R m fun o m' => ∃ s, o = .nx s ∧ Ok (k s) m' P) : Ok (sq R k) m P := by
  obtain ⟨o, m', e, s, rfl, b, m2, e2, p⟩ := h
  exact ⟨b, m2, (bd_ok e).trans e2, p⟩
/-- a loop that goes through -/
theorem ok_for {xs : List D} {b : D → τ → SM μ (Fl τ τ)} {s0 : τ} (I : Nat → τ → μ → Prop) (h0 : I 0 s0 m)
    (hs : ∀ i x s m, xs[i]? = some x → I i s m → Ok (b x s) m fun o m' => ∃ s', (o = .nx s' ∨ o = .ct s') ∧ I (i + 1) s' m') : Ok (forS xs s0 b : SM μ (Fl τ ρ)) m fun o m' => ∃ s, o = .nx s ∧ I xs.length s m' := by
  induction xs generalizing m s0 I with
  | nil => exact ⟨_, _, rfl, s0, rfl, h0⟩
  | cons x xs ih =>
    obtain ⟨o, m1, e1, s1, c, h1⟩ := hs 0 x s0 m rfl h0
    have h2 := ih (m := m1) (s0 := s1) (fun i => I (i + 1)) h1 fun i y s m hy h => hs (i + 1) y s m hy h
    obtain ⟨o2, m2, e2, s2, rfl, h3⟩ := h2
    refine ⟨_, m2, ?_, s2, rfl, h3⟩
    show bd (b x s0) _ m = _
    rw [bd_ok e1]
    rcases c with rfl | rfl
    · exact e2
    · exact e2
end
section
variable {μ τ ρ ρ' α β : Type} {m m' : μ}
def kZ (mf : List D → SM (List D) D) (xs : List D) (tsf : μ → List D) (pb : List D → μ → μ) : SM μ D := fun m => match mf xs (tsf m) with
  | .ok x ts => .ok x (pb ts m)
  | .exc e ts => .exc e (pb ts m)
  | .bad => .bad
def kZ0 (mf : List D → SM (List D) D) (xs : List D) (tsf : μ → List D) (pb : List D → μ → μ) : SM μ D := fun m => match mf xs (tsf m) with
  | .ok x ts => .ok x (pb ts m)
  | _ => .bad
def kM0 (mf : List D → SM (List D) D) (xs : List D) (tsf : μ → List D) (pb : List D → μ → μ) : SM μ D := fun m => match mf xs (tsf m) with
  | .ok x _ => .ok x (pb (tsf m) m)
  | _ => .bad
def kM (mf : List D → SM (List D) D) (xs : List D) (tsf : μ → List D) (pb : List D → μ → μ) : SM μ D := fun m => match mf xs (tsf m) with
  | .ok x _ => .ok x (pb (tsf m) m)
  | .exc e _ => .exc e (pb (tsf m) m)
  | .bad => .bad
def kD_ (get : μ → D) (put : D → μ → μ) (mf : List D → SM D D) (xs : List D) : SM μ D := fun m => match mf xs (get m) with
  | .ok x d => .ok x (put d m)
  | _ => .bad
theorem r_nr1 (a : α) : nr1 (pu a : SM μ α) = pu a := nr rfl
theorem r_zN : (zN : SM μ (List D × (μ → List D) × (List D → μ → μ))) = pu ([], (fun _ => []), fun _ m => m) := nr rfl
theorem r_zF (E : SM μ D) (Es : SM μ (List D × (μ → List D) × (List D → μ → μ))) : zF E Es = bd E fun x => bd Es fun q => pu (x :: q.1, q.2) := nr rfl
theorem r_zV (get : μ → D) (put : D → μ → μ) (Es : SM μ (List D × (μ → List D) × (List D → μ → μ))) : zV get put Es = bd Es fun q => pu (q.1, (fun m => get m :: q.2.1 m), fun ts m => q.2.2 ts.tail (put (ts.headD .none) m)) := nr rfl
theorem r_zT (E : SM μ D) (Es : SM μ (List D × (μ → List D) × (List D → μ → μ))) : zT E Es = bd E fun x => bd Es fun q => pu (q.1, (fun m => x :: q.2.1 m), fun ts m => q.2.2 ts.tail m) := nr rfl
theorem r_zP (get : μ → D) (put : D → μ → μ) (W : SM μ (List Nat)) (Es : SM μ (List D × (μ → List D) × (List D → μ → μ))) : zP get put W Es = bd (nr1 W) fun p => bd (getG get) fun d => bd (of (getP d p)) fun r => bd (nr1 Es) fun q => pu (q.1, (fun m => r :: q.2.1 m), fun ts m => put (setP d p (ts.headD .none)) (q.2.2 ts.tail m)) := nr rfl
theorem r_cZ (mf : List D → SM (List D) D) (Es : SM μ (List D × (μ → List D) × (List D → μ → μ))) : cZ mf Es = bd Es fun q => kZ mf q.1 q.2.1 q.2.2 := nr rfl
theorem r_cZ0 (mf : List D → SM (List D) D) (Es : SM μ (List D × (μ → List D) × (List D → μ → μ))) : cZ0 mf Es = bd Es fun q => kZ0 mf q.1 q.2.1 q.2.2 := nr rfl
theorem r_mkZ0 (mf : List D → SM (List D) D) (Es : SM μ (List D × (μ → List D) × (List D → μ → μ))) : mkZ0 mf Es = bd Es fun q => kM0 mf q.1 q.2.1 q.2.2 := nr rfl
theorem r_mkZ (mf : List D → SM (List D) D) (Es : SM μ (List D × (μ → List D) × (List D → μ → μ))) : mkZ mf Es = bd Es fun q => kM mf q.1 q.2.1 q.2.2 := nr rfl
theorem r_cDl (get : μ → D) (put : D → μ → μ) (mf : List D → SM D D) (Es : SM μ (List D)) : cDl get put mf Es = bd Es fun xs => kD_ get put mf xs := nr rfl
variable {P : β → μ → Prop} {k : D → SM μ β}
theorem ok_kZ0 {mf : List D → SM (List D) D} {xs : List D} {tsf : μ → List D} {pb : List D → μ → μ} {x : D} {ts : List D} (e : mf xs (tsf m) = .ok x ts) (hm : pb ts m = m') (h : Ok (k x) m' P) : Ok (bd (kZ0 mf xs tsf pb) k) m P := by
  refine ok_bd ⟨x, m', ?_, h⟩
  unfold kZ0; rw [e, ← hm]
theorem ok_kD {get : μ → D} {put : D → μ → μ} {mf : List D → SM D D} {xs : List D} (h : Ok (mf xs) (get m) fun x d => Ok (k x) (put d m) P) : Ok (bd (kD_ get put mf xs) k) m P := by
  obtain ⟨x, d, e, h⟩ := h
  refine ok_bd ⟨x, put d m, ?_, h⟩
  unfold kD_; rw [e]
theorem ok_mdP {get : μ → D} {put : D → μ → μ} {p : List Nat} {f : D → Option D} {r y : D} {k : Unit → SM μ β} (e : getP (get m) p = some r) (e2 : f r = some y) (hm : put (setP (get m) p y) m = m') (h : Ok (k ()) m' P) : Ok (bd (mdP get put p f) k) m P := ok_bd ⟨(), m', by rw [← hm]; exact mdP_ok e e2, h⟩
theorem ok_putG {put : D → μ → μ} {x : D} {k : Unit → SM μ β} (hm : put x m = m') (h : Ok (k ()) m' P) : Ok (bd (putG put x) k) m P := ok_bd ⟨(), m', by rw [← hm]; rfl, h⟩
theorem ok_rdrB {E : μ → SM Unit Bool} {c : Bool} {k : Bool → SM μ β} (e : E m = pu c) (h : Ok (k c) m P) : Ok (bd (rdrB E) k) m P := by
  refine ok_bd ⟨c, m, ?_, h⟩
  unfold rdrB; rw [e]; rfl
theorem zb_ok {inj : List D → μ} {prj : μ → List D} {x : SM μ D} {ts ts' : List D} {a : D} (e : x (inj ts) = .ok a m) (h : prj m = ts') : zbody inj prj x ts = .ok a ts' := by unfold zbody; rw [e, ← h]
theorem zb_exc {inj : List D → μ} {prj : μ → List D} {x : SM μ D} {ts ts' : List D} {a : D} (e : x (inj ts) = .exc a m) (h : prj m = ts') : zbody inj prj x ts = .exc a ts' := by unfold zbody; rw [e, ← h]
/-- a def's answer, from what it comes to -/
theorem of_okS {x : SM μ D} {a : D} (h : Ok x m fun y m1 => y = a ∧ m1 = m') : x m = .ok a m' := by
  obtain ⟨y, m1, e, rfl, rfl⟩ := h
  exact e
variable {e : D}
end
section
variable {μ τ ρ α β : Type} {m m' : μ} {P : β → μ → Prop} {k : D → SM μ β}
def kT (mk : List D → D) (tsf : μ → List D) (pb : List D → μ → μ) : SM μ D := fun m => .ok (mk (tsf m)) (pb (tsf m) m)
theorem r_zTup (Es : SM μ (List D × (μ → List D) × (List D → μ → μ))) : zTup Es = bd Es fun q => kT .tuple q.2.1 q.2.2 := nr rfl
theorem r_zLst (Es : SM μ (List D × (μ → List D) × (List D → μ → μ))) : zLst Es = bd Es fun q => kT .list q.2.1 q.2.2 := nr rfl
theorem ixR0 (a : D) (l : List D) : ixR (.list (a :: l)) (.int 0) = some a := by
  unfold ixR ixD
  simp only
  have : ixN (a :: l).length 0 = some 0 := by unfold ixN; rw [if_pos (by decide), if_pos (by simp)]; rfl
  rw [this]; rfl
theorem ixR1 (a b : D) (l : List D) : ixR (.list (a :: b :: l)) (.int 1) = some b := by
  unfold ixR ixD
  simp only
  have : ixN (a :: b :: l).length 1 = some 1 := by unfold ixN; rw [if_pos (by decide), if_pos (by simp; omega)]; rfl
  rw [this]; rfl
end
theorem r_par3 {μ β : Type} (a b c : D) (k : D → D → D → SM μ β) : par3 [a, b, c] k = k a b c := nr rfl
local macro_rules | `(tactic| walk_at "ev1") => `(tactic| simp only [r_bd, r_as, r_op2, r_op1, r_opL, r_ac, r_a0, r_of, r_cP, r_cPX, r_p0, r_p0r, r_rbd, r_cD, r_px, r_nr1, r_zN, r_zF, r_zV, r_zT, r_zP, r_cZ, r_cZ0, r_mkZ, r_mkZ0, r_cDl, r_zTup, r_zLst, r_par3, ixR0, ixR1, r_qx, r_tb, r_tr, r_tand, r_tor, r_tnot, r_eand, r_eor, r_enot, r_eif, r_chain, r_fin, r_rt, r_nx, r_sq, r_sqr, r_sqb, r_unp2, r_unp3, r_unp4, r_par2, r_part0, r_part, r_slice, r_itS, r_itR, r_u0, r_u1, r_u2, r_u3, r_u4, r_u5, r_u6, r_u7, r_ift, r_iff, d_add, d_addI, d_subI, d_sub, d_neg, d_lt, d_le, d_gt, d_ge, d_eqI, d_neI, d_eqB, d_neB, d_isN, d_isntN, d_isB, d_isntB, d_nn, d_ni, d_nt, d_nl, d_nb, d_abs, d_max, d_maxT, d_min, d_int, d_intB, d_len, d_lenT, d_list, d_listT, d_tuple, d_tupleT, d_seq, d_seqT, d_bits, d_and, d_or, d_xor, d_truB, d_truL, d_lst0, d_lst1, d_lst2, d_lst3, d_lst4, d_lst5, d_lst6, d_tup1, d_tup2, d_tup3, d_tup4, d_ix0, d_ix1, d_ix2, d_ixl0, d_ixl1, d_ixl2, if_true, if_false, Bool.false_eq_true, Bool.not_true, Bool.not_false])
local macro_rules | `(tactic| walk_at "fl1") => `(tactic| simp only [op2, op1, opL, ac, a0, cP, cPX, cD, SM.tb, SM.tr, tand, tor, tnot, eand, eor, enot, eif, SM.chain, part0, SM.part, SM.slice, itS, itR, boolD, intO, r_bd, r_as, r_of, r_px, r_nr1, r_zN, r_zF, r_zV, r_zT, r_zP, r_cZ, r_cZ0, r_mkZ, r_mkZ0, r_cDl, r_zTup, r_zLst, r_par3, ixR0, ixR1, r_p0, r_p0r, r_rbd, r_qx, r_fin, r_rt, r_nx, r_sq, r_sqr, r_sqb, r_unp2, r_unp3, r_unp4, r_par2, r_u0, r_u1, r_u2, r_u3, r_u4, r_u5, r_u6, r_u7, r_ift, r_iff, d_add, d_addI, d_subI, d_sub, d_neg, d_lt, d_le, d_gt, d_ge, d_eqI, d_neI, d_eqB, d_neB, d_isN, d_isntN, d_isB, d_isntB, d_nn, d_ni, d_nt, d_nl, d_nb, d_abs, d_max, d_maxT, d_min, d_int, d_intB, d_len, d_lenT, d_list, d_listT, d_tuple, d_tupleT, d_seq, d_seqT, d_bits, d_and, d_or, d_xor, d_truB, d_truL, d_lst0, d_lst1, d_lst2, d_lst3, d_lst4, d_lst5, d_lst6, d_tup1, d_tup2, d_tup3, d_tup4, d_ix0, d_ix1, d_ix2, d_ixl0, d_ixl1, d_ixl2, if_true, if_false, Bool.false_eq_true, Bool.not_true, Bool.not_false])
local macro_rules | `(tactic| walk_at "fj1") => `(tactic| simp only [op2, op1, opL, ac, a0, cP, cPX, cD, SM.tb, SM.tr, tand, tor, tnot, eand, eor, enot, eif, SM.chain, part0, SM.part, SM.slice, itS, itR, boolD, intO, r_bd, r_as, r_of, r_px, r_nr1, r_zN, r_zF, r_zV, r_zT, r_zP, r_cZ, r_cZ0, r_mkZ, r_mkZ0, r_cDl, r_zTup, r_zLst, r_par3, ixR0, ixR1, r_p0, r_p0r, r_rbd, r_qx, r_rt, r_nx, r_sq, r_sqr, r_unp2, r_unp3, r_unp4, r_par2, r_u0, r_u1, r_u2, r_u3, r_u4, r_u5, r_u6, r_u7, r_ift, r_iff, d_add, d_addI, d_subI, d_sub, d_neg, d_lt, d_le, d_gt, d_ge, d_eqI, d_neI, d_eqB, d_neB, d_isN, d_isntN, d_isB, d_isntB, d_nn, d_ni, d_nt, d_nl, d_nb, d_abs, d_max, d_maxT, d_min, d_int, d_intB, d_len, d_lenT, d_list, d_listT, d_tuple, d_tupleT, d_seq, d_seqT, d_bits, d_and, d_or, d_xor, d_truB, d_truL, d_lst0, d_lst1, d_lst2, d_lst3, d_lst4, d_lst5, d_lst6, d_tup1, d_tup2, d_tup3, d_tup4, d_ix0, d_ix1, d_ix2, d_ixl0, d_ixl1, d_ixl2, if_true, if_false, Bool.false_eq_true, Bool.not_true, Bool.not_false])
local macro_rules | `(tactic| walk_at "fj") => `(tactic| try walk_at "fj1")
local macro_rules | `(tactic| walk_at "ps") => `(tactic| first | assumption | omega | exact tw_pos _ | (refine Int.mul_pos ?_ ?_ <;> walk_at "ps"))
local macro_rules | `(tactic| walk_at "r1") => `(tactic| first
  | (rw [d_mul]; rotate_left; exact fit_sz (by omega); exact fit_sz (by omega))
  | (rw [d_shl]; rotate_left; exact fit_sz (by omega); omega)
  | rw [d_shr]
  | (rw [d_mod]; rotate_left; walk_at "ps")
  | (rw [d_fdiv]; rotate_left; walk_at "ps"; exact log_sz (by walk_at "ps") (by omega)))
local macro_rules | `(tactic| walk_at "ev") => `(tactic| try walk_at "ev1")
local macro_rules | `(tactic| walk_at "fl") => `(tactic| try walk_at "fl1")
local macro_rules | `(tactic| walk_at "run") => `(tactic| (repeat (first | walk_at "ev1" | walk_at "r1")))
def dkD (d0 d1 d2 : Int) : D := .list [.int d0, .int d1, .int d2]
def Dk (d : D) (n : Nat) : Prop := ∃ d0 d1 d2 : Int, d = dkD d0 d1 d2 ∧ 0 ≤ d0 ∧ 0 ≤ d1 ∧ d1 < 2147483648 ∧ 0 ≤ d2 ∧ d2 ≤ n
theorem Dk.le {d : D} {n k : Nat} (h : Dk d n) (e : n ≤ k) : Dk d k := by
  obtain ⟨d0, d1, d2, h1, h2, h3, h4, h5, h6⟩ := h
  exact ⟨d0, d1, d2, h1, h2, h3, h4, h5, by omega⟩
theorem c18 : powD (.int 10) (.int 18) = some (.int 1000000000000000000) := by
  have := d_pow (a := 10) (k := 18) (by decide) (by decide)
  exact this
theorem c12 : powD (.int 10) (.int 12) = some (.int 1000000000000) := by
  have := d_pow (a := 10) (k := 12) (by decide) (by decide)
  exact this
theorem ok_deck {c t : Int} {n : Nat} (h0 : 0 ≤ t) (h1 : t ≤ n) : ∃ d, m__law_deck (.int c) (.int t) = pu d ∧ Dk d n := by
  unfold m__law_deck
  walk_at "ev"
  rw [c18]
  walk_at "ev"
  by_cases h : 1000000000000000000 ≤ c
  · rw [decide_eq_true h]
    walk_at "ev"
    rw [d_mod (by decide)]
    walk_at "ev"
    refine ⟨_, rfl, _, _, _, rfl, by omega, by omega, by omega, h0, h1⟩
  · rw [decide_eq_false h]
    walk_at "ev"
    rw [d_mod (by decide)]
    walk_at "ev"
    refine ⟨_, rfl, _, _, _, rfl, by omega, by omega, by omega, h0, h1⟩
theorem gets_bd {μ β : Type} (f : μ → SM μ β) (m : μ) : bd gets f m = f m m := rfl
theorem puts_bd {μ β : Type} (x : μ) (f : Unit → SM μ β) (m : μ) : bd (puts x) f m = f () x := rfl
theorem set0 (a b c x : D) : setD (.list [a, b, c]) (.int 0) x = some (.list [x, b, c]) := rfl
theorem set2 (a b c x : D) : setD (.list [a, b, c]) (.int 2) x = some (.list [a, b, x]) := rfl
theorem dk_ix0 (a b c : Int) : idxD (dkD a b c) (.int 0) = some (.int a) := d_ixl0 _ _
theorem dk_ix2 (a b c : Int) : idxD (dkD a b c) (.int 2) = some (.int c) := d_ixl2 _ _ _ _
theorem ok_pick {k : Int} {d : D} {n : Nat} (hd : Dk d n) (hn : n ≤ 1000000000) (hk : 0 < k) (hk2 : k.natAbs.log2 < 9000) : Ok (m__law_pick (.int k)) d fun x d' => ∃ v, x = .int v ∧ 0 ≤ v ∧ v < k ∧ Dk d' (n + 1) := by
  obtain ⟨d0, d1, d2, rfl, h0, h1, h2, h3, h4⟩ := hd
  have e1 : (m__law_pick (.int k)) (dkD d0 d1 d2) = (if 1 < d0 then Rs.ok (.int (d0 % k)) (dkD (d0 / k) d1 d2) else
      if 1000000 < k then Rs.ok (.int ((((d1 + 15485867 * (d2 + 1)) ^ 5 % 2147483647 + 7919 * (d2 + 1)) ^ 3 % 2147483629 / 32 * 2147483563 + (d1 + 15485867 * (d2 + 1)) ^ 5 % 2147483647) % k)) (dkD d0 d1 (d2 + 1))
      else Rs.ok (.int (((d1 + 15485867 * (d2 + 1)) ^ 5 % 2147483647 + 7919 * (d2 + 1)) ^ 3 % 2147483629 / 32 % k)) (dkD d0 d1 (d2 + 1))) := by
    have p5 : ∀ x : Int, x.natAbs < 2 ^ 64 → powD (.int x) (.int 5) = some (.int (x ^ 5)) := fun x h => d_pow (k := 5) h (by decide)
    have p3 : ∀ x : Int, x.natAbs < 2 ^ 64 → powD (.int x) (.int 3) = some (.int (x ^ 3)) := fun x h => d_pow (k := 3) h (by decide)
    have m1 : ∀ x : Int, -(2 ^ 60) < x → x < 2 ^ 60 → mulD (.int 15485867) (.int x) = some (.int (15485867 * x)) := fun x g1 g2 => d_mul (fit_of (n := 64) (by decide) (by decide)) (fit_of (n := 64) (by omega) (by decide))
    have m2 : ∀ x : Int, -(2 ^ 60) < x → x < 2 ^ 60 → mulD (.int 7919) (.int x) = some (.int (7919 * x)) := fun x g1 g2 => d_mul (fit_of (n := 64) (by decide) (by decide)) (fit_of (n := 64) (by omega) (by decide))
    have m3 : ∀ x : Int, -(2 ^ 60) < x → x < 2 ^ 60 → mulD (.int x) (.int 2147483563) = some (.int (x * 2147483563)) := fun x g1 g2 => d_mul (fit_of (n := 64) (by omega) (by decide)) (fit_of (n := 64) (by decide) (by decide))
    unfold m__law_pick
    walk_at "fl"
    rw [gets_bd, dk_ix0]
    walk_at "fl"
    by_cases c : 1 < d0
    · rw [decide_eq_true c, if_pos c]
      walk_at "fl"
      rw [gets_bd, dk_ix0]
      walk_at "fl"
      rw [d_mod hk]
      walk_at "fl"
      rw [gets_bd, dk_ix0]
      walk_at "fl"
      rw [d_fdiv hk hk2]
      walk_at "fl"
      rw [gets_bd, dkD, set0]
      rfl
    · rw [decide_eq_false c, if_neg c]
      walk_at "fl"
      rw [gets_bd, dk_ix2]
      walk_at "fl"
      rw [gets_bd, dkD, set2]
      walk_at "fl"
      rw [puts_bd, gets_bd, d_ixl1]
      walk_at "fl"
      rw [gets_bd, d_ixl2]
      walk_at "fl"
      rw [m1 _ (by omega) (by omega)]
      walk_at "fl"
      rw [p5 _ (by omega)]
      walk_at "fl"
      rw [d_mod (by decide)]
      walk_at "fl"
      rw [gets_bd, d_ixl2]
      walk_at "fl"
      rw [m2 _ (by omega) (by omega)]
      walk_at "fl"
      rw [p3 _ (by omega)]
      walk_at "fl"
      rw [d_mod (by decide)]
      walk_at "fl"
      rw [d_fdiv (by decide) (by decide)]
      walk_at "fl"
      by_cases c2 : 1000000 < k
      · rw [decide_eq_true c2, if_pos c2]
        walk_at "fl"
        rw [m3 _ (by omega) (by omega)]
        walk_at "fl"
        rw [d_mod hk]
        rfl
      · rw [decide_eq_false c2, if_neg c2]
        walk_at "fl"
        rw [d_mod hk]
        rfl
  by_cases c : 1 < d0
  · rw [if_pos c] at e1
    exact ⟨_, _, e1, _, rfl, Int.emod_nonneg _ (by omega), Int.emod_lt_of_pos _ hk, _, _, _, rfl, Int.ediv_nonneg h0 (by omega), h1, h2, h3, by omega⟩
  · rw [if_neg c] at e1
    by_cases c2 : 1000000 < k
    · rw [if_pos c2] at e1
      exact ⟨_, _, e1, _, rfl, Int.emod_nonneg _ (by omega), Int.emod_lt_of_pos _ hk, _, _, _, rfl, h0, h1, h2, by omega, by omega⟩
    · rw [if_neg c2] at e1
      exact ⟨_, _, e1, _, rfl, Int.emod_nonneg _ (by omega), Int.emod_lt_of_pos _ hk, _, _, _, rfl, h0, h1, h2, by omega, by omega⟩
local macro_rules | `(tactic| walk_at "pk") => `(tactic| refine ok_bd (ok_qx ((ok_pick (by assumption) (by omega) (by first | decide | omega) (by first | decide | exact log_sz (by omega) (by omega))).mono ?_)))
theorem ix_some {xs : List D} {v : Int} (h0 : 0 ≤ v) (h1 : v < xs.length) : ∃ y, y ∈ xs ∧ idxD (.list xs) (.int v) = some y := by
  obtain ⟨k, rfl⟩ := Int.eq_ofNat_of_zero_le h0
  have hk : k < xs.length := by omega
  exact ⟨xs[k], List.getElem_mem hk, atI_nat (List.getElem?_eq_getElem hk)⟩
theorem ok_great {d : D} {n : Nat} {f : Nat} (hd : Dk d n) (hn : n ≤ 900000000) (hf : f ≤ 1000) : Ok (m__law_great (.int f)) d fun x d' => ∃ v : Nat, x = .int v ∧ v < 10 ^ f ∧ Dk d' (n + 6) := by
  unfold m__law_great
  walk_at "fl"
  have i : Sz ((f : Int) + 1) 64 := ⟨by omega⟩
  walk_at "pk"
  rintro _ d1 ⟨v, rfl, v0, v1, hd1⟩
  obtain ⟨v, rfl⟩ := Int.eq_ofNat_of_zero_le v0
  walk_at "fl"
  rw [d_rng1 (by omega) (by omega)]
  walk_at "fl"
  have i10 : Sz (10 : Int) 4 := inferInstance
  have hl : (rgL 0 (v : Int)).length = v := by rw [rgL_len]; omega
  refine ok_fin (ok_sq ((ok_for (fun i (s : D) m => m = d1 ∧ s = .int ((10 ^ i : Nat) : Int)) ⟨rfl, rfl⟩ ?_).mono ?_))
  · rintro i x _ _ hx ⟨rfl, rfl⟩
    have hi : i < v := by rw [← hl]; exact (List.getElem?_eq_some_iff.mp hx).1
    have hp : (10 : Nat) ^ i < 2 ^ 4000 := by
      have h1 : 10 ^ i ≤ 16 ^ i := Nat.pow_le_pow_left (by decide) i
      have h2 : (16 : Nat) ^ i = 2 ^ (4 * i) := by rw [Nat.pow_mul]
      have h3 : 2 ^ (4 * i) < 2 ^ 4000 := Nat.pow_lt_pow_right (by decide) (by omega)
      omega
    have is : Sz ((10 ^ i : Nat) : Int) 4000 := sz_nat hp
    rw [d_mul (fit_sz (n := 4000) (by omega)) (fit_sz (n := 4) (by omega))]
    walk_at "fl"
    refine ok_pu ⟨_, .inl rfl, rfl, ?_⟩
    rw [Nat.pow_succ, Int.natCast_mul]; rfl
  · rintro _ m ⟨s, rfl, rfl, rfl⟩
    rw [hl]
    refine ⟨_, rfl, ?_⟩
    walk_at "fl"
    rw [d_rng1 (by decide) (by decide)]
    walk_at "fl"
    refine ok_sq ((ok_for (fun i (s : D) m => ∃ y : Nat, s = .int y ∧ y < 2 ^ (41 * i + 1) ∧ Dk m (n + 1 + i)) ⟨0, rfl, by decide, hd1⟩ ?_).mono ?_)
    · rintro i x _ d2 hx ⟨y, rfl, hy, hd2⟩
      have hi : i < 5 := (List.getElem?_eq_some_iff.mp hx).1
      rw [c12]
      have iy : Sz (y : Int) 300 := sz_nat (Nat.lt_of_lt_of_le hy (Nat.pow_le_pow_right (by decide) (by omega)))
      have i12 : Sz (1000000000000 : Int) 40 := ⟨by decide⟩
      walk_at "fl"
      rw [d_mul (fit_sz (n := 300) (by omega)) (fit_sz (n := 40) (by omega))]
      walk_at "fl"
      walk_at "pk"
      rintro _ d3 ⟨v3, rfl, w0, w1, hd3⟩
      walk_at "fl"
      obtain ⟨v3, rfl⟩ := Int.eq_ofNat_of_zero_le w0
      refine ok_pu ⟨_, .inl rfl, y * 1000000000000 + v3, by rw [Int.natCast_add, Int.natCast_mul]; rfl, ?_, hd3⟩
      have h4 : 41 * (i + 1) + 1 = (41 * i + 1) + 41 := by omega
      rw [h4, Nat.pow_add]
      have h5 := Nat.mul_le_mul_right 1000000000000 (show y + 1 ≤ 2 ^ (41 * i + 1) by omega)
      have h6 : 2 ^ (41 * i + 1) * 1000000000000 ≤ 2 ^ (41 * i + 1) * 2 ^ 41 := Nat.mul_le_mul_left _ (by decide)
      omega
    · rintro _ m2 ⟨s2, rfl, y, rfl, hy, hd2⟩
      refine ⟨_, rfl, ?_⟩
      have h10 : 0 < 10 ^ v := Nat.pow_pos (by decide)
      rw [d_mod (by omega)]
      walk_at "fl"
      refine ok_pu ⟨_, .inl rfl, y % 10 ^ v, by rw [Int.natCast_emod], Nat.lt_of_lt_of_le (Nat.mod_lt _ h10) (Nat.pow_le_pow_right (by decide) (by omega)), hd2⟩
abbrev t2 (a b : Int) : D := .tuple [.int a, .int b]
theorem shaped_of {d : PyData} (h1 : d.canLay0 = true) (h2 : d.depth ≤ 64) : SeqAt.shaped d = true := by
  unfold SeqAt.shaped
  rw [h1, decide_eq_true h2]; rfl
theorem r_lc {μ : Type} {T : D → SM μ Bool} {E : D → SM μ D} (xs : List D) : SM.lc (pu xs) T E = bd (lcS T E xs []) fun ys => pu (.list ys) := rfl
theorem lc_map {μ : Type} {T : D → SM μ Bool} {E : D → SM μ D} {g : D → D} : ∀ (xs acc : List D), (∀ x ∈ xs, T x = pu true) → (∀ x ∈ xs, E x = pu (g x)) → acc.length + xs.length ≤ sizeLine → lcS T E xs acc = pu (acc ++ xs.map g)
  | [], acc, _, _, _ => by rw [List.map_nil, List.append_nil]; rfl
  | x :: xs, acc, hT, hE, h => by
    rw [List.length_cons] at h
    show bd (T x) _ = _
    rw [hT x (.head _), pu_bd, if_pos rfl, hE x (.head _), pu_bd, if_pos (by omega), lc_map xs _ (fun y hy => hT y (.tail _ hy)) (fun y hy => hE y (.tail _ hy)) (by rw [List.length_append, List.length_singleton]; omega), List.append_assoc]
    rfl
theorem cut_ints (ns : List Int) (lo hi : Option Int) : ∃ ms : List Int, ms.length ≤ ns.length ∧ cutD (ns.map PyData.int) lo hi = ms.map .int := by
  unfold cutD
  refine ⟨(ns.drop (HT.sIx (ns.map PyData.int).length 0 lo)).take (HT.sIx (ns.map PyData.int).length (ns.map PyData.int).length hi - HT.sIx (ns.map PyData.int).length 0 lo), ?_, ?_⟩
  · rw [List.length_take, List.length_drop]; omega
  · rw [List.map_take, List.map_drop]
theorem sli_scr {ns : List Int} {lo hi : Option Int} (h : ns.length ≤ 63) : ∃ ms : List Int, ms.length ≤ 63 ∧ sliD (scrD (ns.map .int)) lo hi = some (.list (ms.map .int)) := by
  obtain ⟨ms, h1, h2⟩ := cut_ints ns lo hi
  exact ⟨ms, by omega, by show some (PyData.list (cutD _ _ _)) = _; rw [h2]⟩
theorem dep_list (xs : List D) : (PyData.list xs).depth = PyData.depthAll xs + 1 := by simp only [PyData.depth]
theorem dep_tup (xs : List D) : (PyData.tuple xs).depth = PyData.depthAll xs + 1 := by simp only [PyData.depth]
/-- data that can be held against data, at most n deep -/
def Lay (n : Nat) (d : D) : Prop := d.canLay0 = true ∧ d.depth ≤ n
theorem lay_all {n : Nat} : ∀ {xs : List D}, (∀ x ∈ xs, Lay n x) → PyData.canLayAll0 xs = true ∧ PyData.depthAll xs ≤ n
  | [], _ => ⟨by simp only [PyData.canLayAll0], by simp only [PyData.depthAll]; omega⟩
  | x :: xs, h => by
    obtain ⟨h1, h2⟩ := h x (.head _)
    obtain ⟨h3, h4⟩ := lay_all (xs := xs) fun y hy => h y (.tail _ hy)
    exact ⟨by simp only [PyData.canLayAll0]; rw [h1, h3]; rfl, by simp only [PyData.depthAll]; omega⟩
theorem lay_list {n : Nat} {xs : List D} (h : ∀ x ∈ xs, Lay n x) : Lay (n + 1) (.list xs) := by
  obtain ⟨h1, h2⟩ := lay_all h
  exact ⟨by simp only [PyData.canLay0]; exact h1, by rw [dep_list]; omega⟩
theorem lay_tup {n : Nat} {xs : List D} (h : ∀ x ∈ xs, Lay n x) : Lay (n + 1) (.tuple xs) := by
  obtain ⟨h1, h2⟩ := lay_all h
  exact ⟨by simp only [PyData.canLay0]; exact h1, by rw [dep_tup]; omega⟩
theorem Lay.le {n k : Nat} {d : D} (h : Lay n d) (e : n ≤ k) : Lay k d := ⟨h.1, Nat.le_trans h.2 e⟩
theorem Lay.shaped {n : Nat} {d : D} (h : Lay n d) (e : n ≤ 64) : SeqAt.shaped d = true := shaped_of h.1 (Nat.le_trans h.2 e)
theorem lay_int (i : Int) {n : Nat} : Lay n (.int i) := ⟨by simp only [PyData.canLay0], by simp only [PyData.depth]; omega⟩
theorem lay_none {n : Nat} : Lay n .none := ⟨by simp only [PyData.canLay0], by simp only [PyData.depth]; omega⟩
theorem lay_str {x : Str} (h : (PyData.str x).canLay0 = true) {n : Nat} : Lay n (.str x) := ⟨h, by simp only [PyData.depth]; omega⟩
section
open PySem PySem.Spec TL
abbrev zT (z : Int) : Str := Str.ofString (toString z)
theorem tl_zN (n : Nat) : tl (zT n) = numL n := tl_num n
theorem tl_zM (m : Nat) : tl (zT (Int.negSucc m)) = 45 :: numL (m + 1) := by
  have e : toString (Int.negSucc m) = "-" ++ Nat.repr (m + 1) := rfl
  show tl (Str.ofString (toString (Int.negSucc m))) = _
  rw [e, tl_ofString, String.toList_append, List.map_append]
  have e2 : tl (Str.ofString (toString ((m + 1 : Nat) : Int))) = numL (m + 1) := tl_num (m + 1)
  rw [tl_ofString] at e2
  have e3 : toString ((m + 1 : Nat) : Int) = Nat.repr (m + 1) := rfl
  rw [e3] at e2
  rw [e2]; rfl
theorem val_snoc (l : List Nat) (c : Nat) : NumText.digitsVal (l ++ [c]) = NumText.digitsVal l * 10 + (c - 48) := by
  unfold NumText.digitsVal
  rw [List.foldl_append]; rfl
theorem val_pos : ∀ (l : List Nat) (c : Nat), NumText.AllDigits (c :: l) → c ≠ 48 → 0 < NumText.digitsVal (c :: l) := by
  intro l c h hc
  have hh := h.head
  have go : ∀ (l : List Nat) (a : Nat), 0 < a → 0 < l.foldl (fun acc c => acc * 10 + (c - 48)) a := by
    intro l
    induction l with
    | nil => intro a ha; exact ha
    | cons d l ih => intro a ha; exact ih (a * 10 + (d - 48)) (by omega)
  exact go l (0 * 10 + (c - 48)) (by omega)
/-- digits without a 0 ahead are what their value is written by -/
theorem numL_canon (c : Nat) (l : List Nat) (h : NumText.AllDigits (c :: l)) (hc : c ≠ 48) : numL (NumText.digitsVal (c :: l)) = c :: l := by
  have rev : ∀ (n : Nat) (l : List Nat), l.length = n → NumText.AllDigits (c :: l) → numL (NumText.digitsVal (c :: l)) = c :: l := by
    intro n
    induction n with
    | zero =>
      intro l hl hd
      have : l = [] := List.eq_nil_of_length_eq_zero hl
      subst this
      have hh := hd.head
      show numL (0 * 10 + (c - 48)) = [c]
      rw [numL_lt (by omega)]
      congr 1; omega
    | succ n ih =>
      intro l hl hd
      obtain ⟨i, d, rfl⟩ : ∃ i d, l = i ++ [d] := by
        rcases List.eq_nil_or_concat l with e | ⟨i, d, e⟩
        · rw [e] at hl; cases hl
        · exact ⟨i, d, by rw [e, List.concat_eq_append]⟩
      have hi : NumText.AllDigits (c :: i) := fun x hx => hd x (by
        rcases List.mem_cons.mp hx with e | e
        · rw [e]; exact .head _
        · exact .tail _ (List.mem_append_left _ e))
      have hdd := hd d (.tail _ (List.mem_append_right _ (.head _)))
      have hil : i.length = n := by rw [List.length_append] at hl; simpa using hl
      have e1 := ih i hil hi
      have e2 : NumText.digitsVal (c :: (i ++ [d])) = NumText.digitsVal (c :: i) * 10 + (d - 48) := val_snoc (c :: i) d
      have hp := val_pos i c hi hc
      rw [e2, numL_step (by omega)]
      rw [show (NumText.digitsVal (c :: i) * 10 + (d - 48)) / 10 = NumText.digitsVal (c :: i) by omega, show (NumText.digitsVal (c :: i) * 10 + (d - 48)) % 10 = d - 48 by omega, e1]
      show c :: (i ++ [48 + (d - 48)]) = _
      rw [show 48 + (d - 48) = d by omega]
  exact rev l.length l rfl h
/-- what a word must be like to write a number -/
def Canon (w : List Nat) : Prop := w = [48] ∨ (∃ c l, w = c :: l ∧ NumText.AllDigits w ∧ c ≠ 48) ∨ ∃ c l, w = 45 :: c :: l ∧ NumText.AllDigits (c :: l) ∧ c ≠ 48
theorem numL_head : ∀ n : Nat, 0 < n → ∃ c l, numL n = c :: l ∧ c ≠ 48 := by
  intro n
  induction n using Nat.strongRecOn with
  | _ n ih =>
    intro hn
    by_cases h : n < 10
    · exact ⟨48 + n, [], numL_lt h, by omega⟩
    · obtain ⟨c, l, e, hc⟩ := ih (n / 10) (by omega) (by omega)
      exact ⟨c, l ++ [48 + n % 10], by rw [numL_step (by omega), e]; rfl, hc⟩
theorem canon_z (z : Int) : Canon (tl (zT z)) := by
  cases z with
  | ofNat n =>
    show Canon (tl (zT (n : Int)))
    rw [tl_zN]
    by_cases h : n = 0
    · subst h; exact .inl (numL_lt (by decide))
    · obtain ⟨c, l, e, hc⟩ := numL_head n (by omega)
      exact .inr (.inl ⟨c, l, e, numL_digits n, hc⟩)
  | negSucc m =>
    rw [tl_zM]
    obtain ⟨c, l, e, hc⟩ := numL_head (m + 1) (by omega)
    exact .inr (.inr ⟨c, l, by rw [e], fun x hx => numL_digits (m + 1) x (by rw [e]; exact hx), hc⟩)
theorem canon_num {w : Str} (h : Canon (tl w)) : ∃ z : Int, w = zT z := by
  rcases h with e | ⟨c, l, e, hd, hc⟩ | ⟨c, l, e, hd, hc⟩
  · exact ⟨0, ext_tl (by rw [e]; exact (tl_zN 0).symm ▸ (numL_lt (n := 0) (by decide)).symm)⟩
  · rw [e] at hd
    exact ⟨(NumText.digitsVal (c :: l) : Nat), ext_tl (by rw [e, tl_zN, numL_canon c l hd hc])⟩
  · have hp := val_pos l c hd hc
    refine ⟨Int.negSucc (NumText.digitsVal (c :: l) - 1), ext_tl ?_⟩
    rw [e, tl_zM, show NumText.digitsVal (c :: l) - 1 + 1 = NumText.digitsVal (c :: l) by omega, numL_canon c l hd hc]
theorem int_z {z : Int} (hl : (tl (zT z)).length ≤ 4300) : intText? (zT z) = some z := by
  cases z with
  | ofNat n =>
    have h : (numL n).length ≤ 4300 := by rw [← tl_zN]; exact hl
    exact int_num h
  | negSucc m =>
    have h := intText_neg (x := zT (Int.negSucc m)) (cs := numL (m + 1)) (tl_zM m) (numL_digits _) (numL_ne _) (by rw [len_tl]; exact hl)
    rw [h, numL_val]; rfl
theorem zT_inj {a b : Int} (h : zT a = zT b) : a = b := by
  cases a with
  | ofNat m => cases b with
    | ofNat n =>
      have := congrArg tl h
      rw [show zT (Int.ofNat m) = zT (m : Int) from rfl, show zT (Int.ofNat n) = zT (n : Int) from rfl, tl_zN, tl_zN] at this
      rw [numL_inj this]
    | negSucc n =>
      have := congrArg tl h
      rw [show zT (Int.ofNat m) = zT (m : Int) from rfl, tl_zN, tl_zM] at this
      exact absurd (show 45 ∈ numL m by rw [this]; exact .head _) (numL_free (.inl (by decide)))
  | negSucc m => cases b with
    | ofNat n =>
      have := congrArg tl h
      rw [show zT (Int.ofNat n) = zT (n : Int) from rfl, tl_zN, tl_zM] at this
      exact absurd (show 45 ∈ numL n by rw [← this]; exact .head _) (numL_free (.inl (by decide)))
    | negSucc n =>
      have := congrArg tl h
      rw [tl_zM, tl_zM] at this
      have := numL_inj (List.cons.inj this).2
      have : m = n := by omega
      rw [this]
end
theorem lc_filT {μ : Type} {T : D → SM μ Bool} {E : D → SM μ D} {f : D → Bool} : ∀ (xs acc : List D), (∀ x ∈ xs, T x = pu (f x)) → (∀ x, E x = pu x) → acc.length + xs.length ≤ sizeLine → lcS T E xs acc = pu (acc ++ xs.filter f)
  | [], acc, _, _, _ => by rw [List.filter_nil, List.append_nil]; rfl
  | x :: xs, acc, hT, hE, h => by
    rw [List.length_cons] at h
    show bd (T x) _ = _
    rw [hT x (.head _), pu_bd, List.filter_cons]
    cases hf : f x with
    | true =>
      rw [if_pos rfl, if_pos rfl, hE x, pu_bd, if_pos (by omega), lc_filT xs _ (fun y hy => hT y (.tail _ hy)) hE (by rw [List.length_append, List.length_singleton]; omega), List.append_assoc]
      rfl
    | false =>
      rw [if_neg (by decide), if_neg (by decide)]
      exact lc_filT xs acc (fun y hy => hT y (.tail _ hy)) hE (by omega)
section
open PySem PySem.Spec TL
abbrev Asc (x : Str) : Prop := ∀ c ∈ tl x, c < 128
theorem Asc.ok {x : Str} (h : Asc x) : (PyData.str x).canLay0 = true := by
  show PyData.strOk x = true
  unfold PyData.strOk
  rw [← Array.all_toList]
  exact List.all_eq_true.mpr fun c hc => decide_eq_true (Nat.lt_trans (h c hc) (by decide))
theorem beqS (a b : Str) : (a == b) = decide (a = b) := by
  by_cases h : a = b
  · subst h; rw [decide_eq_true rfl]; exact beq_self_eq_true a
  · rw [decide_eq_false h]; exact beq_false_of_ne h
theorem d_eqT {a b : Str} (ha : Asc a) (hb : Asc b) : eqD (.str a) (.str b) = some (.bool (decide (a = b))) := by
  unfold eqD
  rw [(lay_str (n := 0) ha.ok).shaped (by decide), (lay_str (n := 0) hb.ok).shaped (by decide)]
  simp [PyData.eqv, beqS]
theorem d_neT {a b : Str} (ha : Asc a) (hb : Asc b) : neD (.str a) (.str b) = some (.bool (!decide (a = b))) := by
  unfold neD
  rw [(lay_str (n := 0) ha.ok).shaped (by decide), (lay_str (n := 0) hb.ok).shaped (by decide)]
  simp [PyData.eqv, beqS]
theorem d_neE {xs : List D} (h : ∀ x ∈ xs, Lay 0 x) : neD (.list xs) (.list []) = some (.bool (!xs.isEmpty)) := by
  unfold neD
  rw [(lay_list h).shaped (by decide), (lay_list (n := 0) (xs := []) (by simp)).shaped (by decide)]
  cases xs <;> simp [PyData.eqv, PyData.eqvAll]
/-- a text of one sign -/
abbrev sg (c : Nat) : Str := ⟨#[c]⟩
theorem tl_sg (c : Nat) : tl (sg c) = [c] := rfl
theorem asc_sg {c : Nat} (h : c < 128) : Asc (sg c) := fun d hd => by
  rw [tl_sg] at hd
  rw [List.mem_singleton.mp hd]; exact h
theorem tl_cut (w : Str) (lo hi : Option Int) : tl (cutS w lo hi) = ((tl w).drop (HT.sIx w.length 0 lo)).take (HT.sIx w.length w.length hi - HT.sIx w.length 0 lo) := rfl
theorem tl_cutA (w : Str) (k : Nat) : tl (cutS w (some (k : Int)) none) = (tl w).drop k := by
  rw [tl_cut, HT.sIx_nat, HT.sIx_none]
  have hl := len_tl w
  by_cases h : k ≤ w.length
  · rw [Nat.min_eq_left h, List.take_of_length_le (by rw [List.length_drop]; omega)]
  · rw [Nat.min_eq_right (by omega), List.drop_of_length_le (by omega), List.drop_of_length_le (by omega), List.take_nil]
theorem tl_cutB (w : Str) (k : Nat) : tl (cutS w none (some (k : Int))) = (tl w).take k := by
  rw [tl_cut, HT.sIx_nat, HT.sIx_none, List.drop_zero, Nat.sub_zero]
  have hl := len_tl w
  by_cases h : k ≤ w.length
  · rw [Nat.min_eq_left h]
  · rw [Nat.min_eq_right (by omega), List.take_of_length_le (by omega), List.take_of_length_le (by omega)]
theorem d_slc {w : Str} {lo hi : Option Int} (h : w.length ≤ 1000000) : slcD (.str w) lo hi = some (.str (cutS w lo hi)) := if_pos (line_le h)
theorem r_sliceT {μ : Type} (a : D) (l h : Option Int) : (SM.sliceT (pu a) (pu l) (pu h) : SM μ D) = of (slcD a l h) := nr rfl
theorem r_itTS {μ : Type} (a : D) : (itTS (pu a) : SM μ (List D)) = of (signsD a) := nr rfl
theorem d_signs (x : Str) : signsD (.str x) = some ((tl x).map fun c => .str (sg c)) := rfl
theorem d_lenT1 {x : Str} (h : x.length ≤ 1000000) : lenD [.str x] = some (.int (tl x).length) := by
  have : lenD [.str x] = some (.int x.length) := if_pos (line_le h)
  rw [this, len_tl]
theorem d_ixt {x : Str} {i : Int} {c : Nat} (h : x.length ≤ 1000000) (hc : atI (tl x) i = some c) : ixtD (.str x) (.int i) = some (.str (sg c)) := by
  show (if x.length ≤ sizeLine then (atI x.cps.toList i).map fun c => PyData.str ⟨#[c]⟩ else none) = _
  rw [if_pos (line_le h)]
  show (atI (tl x) i).map _ = _
  rw [hc]; rfl
theorem d_let (a b : Nat) : letD (.str (sg a)) (.str (sg b)) = some (.bool (decide (a ≤ b))) := by
  show some (PyData.bool (!decide ([b] < [a]))) = _
  congr 2
  by_cases h : a ≤ b
  · rw [decide_eq_true h, decide_eq_false]; rfl
    intro z
    cases z with
    | rel z => omega
    | cons z => cases z
  · rw [decide_eq_false h, decide_eq_true]; rfl
    exact .rel (by omega)
theorem asc_cut {w : Str} {lo hi : Option Int} (h : Asc w) : Asc (cutS w lo hi) := fun c hc => by
  rw [tl_cut] at hc
  exact h c (List.mem_of_mem_drop (List.mem_of_mem_take hc))
end
section
open PySem PySem.Spec TL
theorem asc_dash : Asc "-" := by decide +kernel
theorem asc_0 : Asc "0" := by decide +kernel
theorem tl_dash : tl ("-" : Str) = [45] := by decide +kernel
theorem tl_0 : tl ("0" : Str) = [48] := by decide +kernel
theorem lit_0 : ("0" : Str) = sg 48 := by decide +kernel
theorem lit_9 : ("9" : Str) = sg 57 := by decide +kernel
/-- what the law makes of a word's digits -/
theorem law_digits {w : Str} (ha : Asc w) (hl : w.length ≤ 1000000) : ∃ dg : Str, (eif (SM.tb (op2 eqD (SM.sliceT (pu (.str w)) part0 (SM.part (pu (.int 1)))) (pu (.str "-")))) (SM.sliceT (pu (.str w)) (SM.part (pu (.int 1))) part0) (pu (.str w)) : SM Unit D) = pu (.str dg) ∧ ((∃ r, tl w = 45 :: r ∧ tl dg = r) ∨ ((∀ r, tl w ≠ 45 :: r) ∧ dg = w)) ∧ Asc dg ∧ dg.length ≤ 1000000 := by
  rw [r_part, r_part0, r_sliceT, r_sliceT, d_slc hl, d_slc hl, r_of, r_of, r_op2, d_eqT (asc_cut ha) asc_dash, r_of, r_tb, r_eif]
  have e1 : tl (cutS w none (some ((1 : Nat) : Int))) = (tl w).take 1 := tl_cutB w 1
  have e2 : tl (cutS w (some ((1 : Nat) : Int)) none) = (tl w).drop 1 := tl_cutA w 1
  have e1' : tl (cutS w none (some 1)) = (tl w).take 1 := e1
  have e2' : tl (cutS w (some 1) none) = (tl w).drop 1 := e2
  by_cases c : cutS w none (some 1) = "-"
  · rw [decide_eq_true c, r_ift]
    have e3 : (tl w).take 1 = [45] := by rw [← e1', c, tl_dash]
    obtain ⟨r, hr⟩ : ∃ r, tl w = 45 :: r := by
      cases h : tl w with
      | nil => rw [h] at e3; cases e3
      | cons x r => rw [h] at e3; cases e3; exact ⟨r, rfl⟩
    refine ⟨_, rfl, .inl ⟨r, hr, by rw [e2', hr]; rfl⟩, asc_cut ha, ?_⟩
    rw [len_tl, e2', List.length_drop]
    rw [len_tl] at hl
    omega
  · rw [decide_eq_false c, r_iff]
    refine ⟨w, rfl, .inr ⟨fun r hr => c (ext_tl ?_), rfl⟩, ha, hl⟩
    rw [e1', hr, tl_dash]; rfl
theorem zT_canon {w : Str} {z : Int} (h : w = zT z) : Canon (tl w) := h ▸ canon_z z
end
section
open PySem PySem.Spec TL
/-- a word's digits -/
def dgs : List Nat → List Nat
  | 45 :: r => r
  | l => l
theorem dgs_no {l : List Nat} (h : ∀ r, l ≠ 45 :: r) : dgs l = l := by
  unfold dgs
  split
  · next r => exact absurd rfl (h r)
  · rfl
theorem dgs_neg (r : List Nat) : dgs (45 :: r) = r := rfl
theorem canon_dgs {l : List Nat} (h : Canon l) : NumText.AllDigits (dgs l) ∧ dgs l ≠ [] := by
  rcases h with e | ⟨c, l', e, hd, hc⟩ | ⟨c, l', e, hd, hc⟩
  · rw [e]
    exact ⟨fun x hx => by rw [dgs_no (fun r z => by cases z)] at hx; rw [List.mem_singleton.mp hx]; decide, by rw [dgs_no (fun r z => by cases z)]; simp⟩
  · have h45 : c ≠ 45 := fun z => by
      have := hd c (by rw [e]; exact .head _)
      omega
    have e2 : dgs l = l := dgs_no fun r z => by rw [e] at z; exact h45 (List.cons.inj z).1
    rw [e2]
    exact ⟨hd, by rw [e]; simp⟩
  · rw [e, dgs_neg]
    exact ⟨hd, by simp⟩
/-- the numbers that the law reads, exactly -/
theorem e_law_number6 {w : Str} (ha : Asc w) (hl : w.length ≤ 1000000) : ∃ o : Option Int, m__law_number (.str w) = pu (o.elim .none .int) ∧ (∀ z, o = some z → w = zT z ∧ (dgs (tl w)).length ≤ 60) ∧ (∀ z, w = zT z → (dgs (tl w)).length ≤ 60 → o = some z) := by
  obtain ⟨dg, hdg, hd, had, hld⟩ := law_digits ha hl
  unfold m__law_number
  rw [hdg]
  walk_at "ev"
  rw [d_lenT1 hld]
  walk_at "ev"
  have hl60 : (tl dg).length = (dgs (tl w)).length := by
    rcases hd with ⟨r, e1, e2⟩ | ⟨h, e⟩
    · rw [e1, e2]; rfl
    · rw [e, dgs_no h]
  -- of a word that writes none
  have no : ∀ {x : SM Unit D}, x = pu .none → (∀ z, w = zT z → (dgs (tl w)).length ≤ 60 → False) → ∃ o : Option Int, x = pu (o.elim .none .int) ∧ (∀ z, o = some z → w = zT z ∧ (dgs (tl w)).length ≤ 60) ∧ (∀ z, w = zT z → (dgs (tl w)).length ≤ 60 → o = some z) := fun hx hz => ⟨none, hx, (fun z e => by cases e), fun z e1 e2 => absurd trivial fun _ => hz z e1 e2⟩
  have can : ∀ z, w = zT z → NumText.AllDigits (tl dg) ∧ tl dg ≠ [] ∧ (∀ r, tl dg = 48 :: r → w = "0") := fun z ez => by
    rcases zT_canon ez with e | ⟨c, l, e, hdd, hc⟩ | ⟨c, l, e, hdd, hc⟩
    · rcases hd with ⟨r, e1, e2⟩ | ⟨_, e1⟩
      · rw [e] at e1; cases e1
      · rw [e1, e]
        exact ⟨fun x hx => by rw [List.mem_singleton.mp hx]; decide, by simp, fun r _ => ext_tl (by rw [e, tl_0])⟩
    · rcases hd with ⟨r, e1, e2⟩ | ⟨_, e1⟩
      · rw [e] at e1
        have hh := hdd c (by rw [e]; exact .head _)
        have : c = 45 := (List.cons.inj e1).1
        omega
      · rw [e1, e]
        exact ⟨by rw [← e]; exact hdd, by simp, fun r hr => absurd (List.cons.inj hr).1 hc⟩
    · rcases hd with ⟨r, e1, e2⟩ | ⟨e1, _⟩
      · rw [e] at e1
        have : r = c :: l := (List.cons.inj e1).2.symm
        rw [e2, this]
        exact ⟨hdd, by simp, fun r hr => absurd (List.cons.inj hr).1 hc⟩
      · exact absurd e (e1 _)
  by_cases c1 : (0 : Int) < ((tl dg).length : Nat)
  · rw [decide_eq_true c1]
    walk_at "ev"
    by_cases c2 : (((tl dg).length : Nat) : Int) < 61
    · rw [decide_eq_true c2]
      walk_at "ev"
      rw [r_itTS, d_signs]
      walk_at "ev"
      have hfil : ∀ x ∈ (tl dg).map (fun c => PyData.str (sg c)), (tnot (SM.tb (bd (SM.tb (of (letD (.str "0") x))) fun c => if c = true then of (letD x (.str "9")) else pu (.bool false))) : SM Unit Bool) = pu ((fun x => match x with | .str y => !((tl y).all fun c => decide (48 ≤ c) && decide (c ≤ 57)) | _ => false) x) := fun x hx => by
        obtain ⟨c, _, rfl⟩ := List.mem_map.mp hx
        rw [lit_0, lit_9, d_let, r_of, r_tb, r_bd]
        cases h1 : decide (48 ≤ c) with
        | true => rw [r_ift, d_let, r_of, r_tb, r_tnot]; simp only [tl_sg, List.all_cons, List.all_nil, h1, Bool.true_and, Bool.and_true]
        | false => rw [r_iff, r_tb, r_tnot]; simp only [tl_sg, List.all_cons, List.all_nil, h1, Bool.false_and]
      rw [r_lc, lc_filT _ [] hfil (fun _ => rfl) (line_le (by rw [List.length_map, List.length_nil]; omega)), r_bd, List.nil_append]
      walk_at "ev"
      rw [d_neE (fun x hx => by
        obtain ⟨c, hc, rfl⟩ := List.mem_map.mp (List.mem_filter.mp hx).1
        exact lay_str (asc_sg (had c hc)).ok)]
      walk_at "ev"
      by_cases c3 : NumText.AllDigits (tl dg)
      · have e3 : ((tl dg).map fun c => PyData.str (sg c)).filter (fun x => match x with | .str y => !((tl y).all fun c => decide (48 ≤ c) && decide (c ≤ 57)) | _ => false) = [] := by
          refine List.filter_eq_nil_iff.mpr fun x hx => ?_
          obtain ⟨c, hc, rfl⟩ := List.mem_map.mp hx
          have := c3 c hc
          simp [this.1, this.2]
        rw [e3, show (!([] : List D).isEmpty) = false from rfl]
        walk_at "ev"
        obtain ⟨h0, r0, e0⟩ : ∃ h0 r0, tl dg = h0 :: r0 := by
          cases h : tl dg with
          | nil => rw [h] at c1; simp at c1
          | cons a r => exact ⟨a, r, rfl⟩
        rw [d_ixt (i := 0) (c := h0) hld (by rw [e0]; exact atI_nat (j := 0) rfl)]
        walk_at "ev"
        rw [d_eqT (asc_sg (had h0 (by rw [e0]; exact .head _))) asc_0]
        walk_at "ev"
        have hw640 : w.length ≤ 640 := by
          rw [len_tl]
          rcases hd with ⟨r, e1, e2⟩ | ⟨_, e⟩
          · rw [e1, List.length_cons, ← e2]; omega
          · rw [← e]; omega
        have yes : Canon (tl w) → ∃ z, w = zT z ∧ tintD [.str w] = some (.int z) := fun hC => by
          obtain ⟨z, ez⟩ := canon_num hC
          have hi : intText? w = some z := by
            rw [ez]
            exact int_z (by rw [← ez, ← len_tl]; omega)
          refine ⟨z, ez, ?_⟩
          show (if w.length ≤ 640 then (intText? w).map PyData.int else none) = _
          rw [if_pos hw640, hi]; rfl
        have fine : ∀ z, w = zT z → ∃ o : Option Int, (pu (.int z) : SM Unit D) = pu (o.elim .none .int) ∧ (∀ z, o = some z → w = zT z ∧ (dgs (tl w)).length ≤ 60) ∧ (∀ z, w = zT z → (dgs (tl w)).length ≤ 60 → o = some z) := fun z ez => ⟨some z, rfl, (fun z' e => by cases e; exact ⟨ez, by omega⟩), fun z' e _ => by rw [zT_inj (ez.symm.trans e)]⟩
        have c0 : (sg h0 = "0") ↔ h0 = 48 := by
          rw [lit_0]
          constructor
          · intro e
            have := congrArg tl e
            rw [tl_sg, tl_sg] at this
            exact (List.cons.inj this).1
          · intro e; rw [e]
        have hcan : h0 ≠ 48 → Canon (tl w) := fun hn => by
          rcases hd with ⟨r, e1, e2⟩ | ⟨_, e⟩
          · exact .inr (.inr ⟨h0, r0, by rw [e1, ← e2, e0], by rw [← e0]; exact c3, hn⟩)
          · exact .inr (.inl ⟨h0, r0, by rw [← e]; exact e0, by rw [← e]; exact c3, hn⟩)
        by_cases c4 : sg h0 = "0"
        · rw [decide_eq_true c4]
          walk_at "ev"
          rw [d_neT ha asc_0]
          walk_at "ev"
          by_cases c5 : w = "0"
          · rw [decide_eq_true c5]
            walk_at "ev"
            obtain ⟨z, ez, et⟩ := yes (.inl (by rw [c5, tl_0]))
            rw [et]
            walk_at "ev"
            exact fine z ez
          · rw [decide_eq_false c5]
            walk_at "ev"
            exact no rfl fun z ez _ => c5 ((can z ez).2.2 r0 (by rw [e0, c0.mp c4]))
        · rw [decide_eq_false c4]
          walk_at "ev"
          obtain ⟨z, ez, et⟩ := yes (hcan fun e => c4 (c0.mpr e))
          rw [et]
          walk_at "ev"
          exact fine z ez
      · have e3 : (((tl dg).map fun c => PyData.str (sg c)).filter (fun x => match x with | .str y => !((tl y).all fun c => decide (48 ≤ c) && decide (c ≤ 57)) | _ => false)).isEmpty = false := by
          rw [← Bool.not_eq_true, List.isEmpty_iff, List.filter_eq_nil_iff]
          intro h
          refine c3 fun c hc => ?_
          have := h (.str (sg c)) (List.mem_map.mpr ⟨c, hc, rfl⟩)
          simpa using this
        rw [e3, show (!false) = true from rfl]
        walk_at "ev"
        exact no rfl fun z ez _ => c3 (can z ez).1
    · rw [decide_eq_false c2]
      walk_at "ev"
      exact no rfl fun z ez h60 => c2 (by omega)
  · rw [decide_eq_false c1]
    walk_at "ev"
    exact no rfl fun z ez _ => c1 (by
      have := (can z ez).2.1
      have : 0 < (tl dg).length := List.length_pos_iff.mpr this
      omega)
/-- what stands behind a minus -/
theorem rmp_dash (w : Str) : tl (Txt.removeprefix w "-") = dgs (tl w) := by
  rw [StrLaws.removeprefix_eq]
  have hy : ("-" : Str).length = 1 := by decide +kernel
  have hl := len_tl w
  have hsub : Builtin.Str.subAt w "-" 0 = ((tl w).take 1 == [45]) := by
    rw [StrLaws.subAt_eq, hy, List.drop_zero]
    show ((tl w).take 1 == tl ("-" : Str)) = _
    rw [tl_dash]
  rw [hsub, hy]
  cases e : tl w with
  | nil =>
    rw [if_neg (by simp)]
    rw [e]; rfl
  | cons c r =>
    have hlr : w.length = r.length + 1 := by rw [hl, e, List.length_cons]
    by_cases h : c = 45
    · subst h
      rw [if_pos (by rw [decide_eq_true (show 0 + 1 ≤ w.length by omega)]; simp)]
      show ((tl w).drop 1).take (w.length - 1) = r
      rw [e]
      show r.take (w.length - 1) = r
      exact List.take_of_length_le (by omega)
    · rw [if_neg (by simp [h])]
      rw [e, dgs_no (fun r z => h (List.cons.inj z).1)]
theorem val_lt : ∀ (l : List Nat) (a : Nat), NumText.AllDigits l → l.foldl (fun acc c => acc * 10 + (c - 48)) a < (a + 1) * 10 ^ l.length
  | [], a, _ => by rw [List.length_nil, Nat.pow_zero]; simp
  | d :: l, a, h => by
    have h1 := h.head
    have h2 := val_lt l (a * 10 + (d - 48)) (fun x hx => h x (.tail _ hx))
    rw [List.foldl_cons, List.length_cons, Nat.pow_succ]
    have h3 : (a * 10 + (d - 48) + 1) * 10 ^ l.length ≤ ((a + 1) * 10) * 10 ^ l.length := Nat.mul_le_mul_right _ (by omega)
    rw [Nat.mul_comm (10 ^ l.length) 10, ← Nat.mul_assoc]
    omega
theorem digits_str : tl ("0123456789" : Str) = [48, 49, 50, 51, 52, 53, 54, 55, 56, 57] := by decide +kernel
theorem d_sgn {c : Nat} : sgnD (.str (sg c)) (.str "0123456789") = some (.bool (decide (48 ≤ c ∧ c ≤ 57))) := by
  show some (PyData.bool (decide (c ∈ tl ("0123456789" : Str)))) = _
  rw [digits_str]
  congr 2
  apply decide_eq_decide.mpr
  simp only [List.mem_cons, List.not_mem_nil, or_false]
  omega
def sgG : D → D
  | .str y => .bool ((tl y).all fun c => decide (48 ≤ c ∧ c ≤ 57))
  | _ => .none
theorem lc_mapS46 {μ : Type} {T : D → SM μ Bool} {E : D → SM μ D} {g : D → D} {xs : List D} (hT : ∀ x ∈ xs, T x = pu true) (hE : ∀ x ∈ xs, E x = pu (g x)) (hl : xs.length ≤ 1000000) : SM.lc (pu xs) T E = pu (.list (xs.map g)) := by
  rw [r_lc, lc_map xs [] hT hE (by rw [List.length_nil, Nat.zero_add]; exact line_le hl), r_bd, List.nil_append]
theorem bools_of46 (bs : List Bool) : boolsD (bs.map PyData.bool) = some bs := by
  induction bs with
  | nil => rfl
  | cons b bs ih => rw [List.map_cons]; unfold boolsD; rw [ih]; rfl
theorem d_all46 (bs : List Bool) : allD [.list (bs.map PyData.bool)] = some (.bool (bs.all id)) := by
  show (boolsD (bs.map PyData.bool)).map _ = _
  rw [bools_of46]; rfl
theorem r_mt1a {μ : Type} {f : D → D → Option D} (a : Str) (b : D) : (mt1 f (pu (.str a)) (pu b) : SM μ D) = of (f (.str a) b) := nr rfl
theorem e_number_of6 {w : Str} (ha : Asc w) (hl : w.length ≤ 1000000) : ∃ o : Option Int, m_number_of (.str w) = pu (o.elim .none .int) ∧ (∀ z, o = some z → w = zT z ∧ (dgs (tl w)).length ≤ 60) ∧ (∀ z, w = zT z → (dgs (tl w)).length ≤ 60 → o = some z) := by
  have hdg := rmp_dash w
  have hle : (dgs (tl w)).length ≤ (tl w).length := by
    unfold dgs
    split
    · next r h => rw [h, List.length_cons]; omega
    · exact Nat.le_refl _
  have hlw := len_tl w
  generalize edg : Txt.removeprefix w "-" = dg at hdg
  have hld : dg.length ≤ 1000000 := by rw [len_tl, hdg]; omega
  have hrm : rmpD (.str w) (.str "-") = some (.str dg) := by
    rw [← edg]
    exact if_pos (line_le hl)
  have no : ∀ {x : SM Unit D}, x = pu .none → (∀ z, w = zT z → (dgs (tl w)).length ≤ 60 → False) → ∃ o : Option Int, x = pu (o.elim .none .int) ∧ (∀ z, o = some z → w = zT z ∧ (dgs (tl w)).length ≤ 60) ∧ (∀ z, w = zT z → (dgs (tl w)).length ≤ 60 → o = some z) := fun hx hz => ⟨none, hx, (fun z e => by cases e), fun z e1 e2 => absurd trivial fun _ => hz z e1 e2⟩
  unfold m_number_of
  rw [r_mt1a, hrm]
  walk_at "ev"
  rw [d_lenT1 hld]
  walk_at "ev"
  by_cases c1 : (1 : Int) ≤ ((tl dg).length : Nat)
  · rw [decide_eq_true c1]
    walk_at "ev"
    by_cases c2 : (((tl dg).length : Nat) : Int) ≤ 60
    · rw [decide_eq_true c2]
      walk_at "ev"
      rw [r_itTS, d_signs]
      walk_at "ev"
      rw [lc_mapS46 (g := sgG) (fun _ _ => rfl) (fun x hx => by
        obtain ⟨c, _, rfl⟩ := List.mem_map.mp hx
        rw [d_sgn]
        show of (some (PyData.bool (decide (48 ≤ c ∧ c ≤ 57)))) = pu (.bool ([c].all fun c => decide (48 ≤ c ∧ c ≤ 57)))
        rw [List.all_cons, List.all_nil, Bool.and_true]; rfl) (by rw [List.length_map]; omega)]
      walk_at "ev"
      have e1 : ((tl dg).map fun c => PyData.str (sg c)).map sgG = ((tl dg).map fun c => decide (48 ≤ c ∧ c ≤ 57)).map PyData.bool := by
        rw [List.map_map, List.map_map]
        refine List.map_congr_left fun c _ => ?_
        show PyData.bool ([c].all fun c => decide (48 ≤ c ∧ c ≤ 57)) = PyData.bool (decide (48 ≤ c ∧ c ≤ 57))
        rw [List.all_cons, List.all_nil, Bool.and_true]
      rw [e1, d_all46]
      walk_at "ev"
      by_cases c3 : NumText.AllDigits (tl dg)
      · have e3 : ((tl dg).map fun c => decide (48 ≤ c ∧ c ≤ 57)).all id = true := by
          rw [List.all_map]
          exact List.all_eq_true.mpr fun c hc => decide_eq_true (c3 c hc)
        rw [e3]
        walk_at "ev"
        have hne : tl dg ≠ [] := fun e => by rw [e] at c1; simp at c1
        obtain ⟨n, hn, hna⟩ : ∃ n : Int, intText? w = some n ∧ n.natAbs < 10 ^ 60 := by
          have hv : NumText.digitsVal (tl dg) < 10 ^ 60 := by
            have h1 := val_lt (tl dg) 0 c3
            rw [Nat.zero_add, Nat.one_mul] at h1
            exact Nat.lt_of_lt_of_le h1 (Nat.pow_le_pow_right (by decide) (by omega))
          have hw61 : w.length ≤ 4300 := by
            have : (tl w).length ≤ (dgs (tl w)).length + 1 := by
              unfold dgs
              split
              · next r h => rw [h, List.length_cons]; exact Nat.le_refl _
              · omega
            rw [← hdg] at this
            omega
          by_cases h45 : ∃ r, tl w = 45 :: r
          · obtain ⟨r, hr⟩ := h45
            rw [hr, dgs_neg] at hdg
            rw [hdg] at c3 hne hv
            exact ⟨_, intText_neg (x := w) (cs := r) hr c3 hne hw61, by rw [Int.natAbs_neg]; exact hv⟩
          · have e2 : dgs (tl w) = tl w := dgs_no fun r z => h45 ⟨r, z⟩
            rw [e2] at hdg
            rw [hdg] at c3 hne hv
            exact ⟨_, intText_digits (x := w) c3 hne hw61, hv⟩
        have hw640 : w.length ≤ 640 := by
          have : (tl w).length ≤ (dgs (tl w)).length + 1 := by
            unfold dgs
            split
            · next r h => rw [h, List.length_cons]; exact Nat.le_refl _
            · omega
          rw [← hdg] at this
          omega
        rw [show tintD [.str w] = some (.int n) from by
          show (if w.length ≤ 640 then (intText? w).map PyData.int else none) = _
          rw [if_pos hw640, hn]; rfl]
        walk_at "ev"
        have hlog : n.natAbs.log2 < 1920 := by
          by_cases h0 : n.natAbs = 0
          · rw [h0]; decide
          · refine (Nat.log2_lt h0).mpr (Nat.lt_of_lt_of_le hna ?_)
            exact Nat.le_trans (by decide : (10 : Nat) ^ 60 ≤ 2 ^ 200) (Nat.pow_le_pow_right (by decide) (by decide))
        rw [show strD [.int n] = some (.str (zT n)) from if_pos hlog]
        walk_at "ev"
        have hzA : Asc (zT n) := fun c hc => by
          rcases canon_z n with e | ⟨c0, l, e, hd, _⟩ | ⟨c0, l, e, hd, _⟩
          · rw [e] at hc; rw [List.mem_singleton.mp hc]; decide
          · have := hd c hc; omega
          · rw [e] at hc
            rcases List.mem_cons.mp hc with h | h
            · omega
            · have := hd c h; omega
        rw [d_eqT hzA ha]
        walk_at "ev"
        by_cases c4 : zT n = w
        · rw [decide_eq_true c4]
          walk_at "ev"
          exact ⟨some n, rfl, fun z e => by cases e; exact ⟨c4.symm, by rw [← hdg]; omega⟩, fun z e _ => by rw [zT_inj (e.symm.trans c4.symm)]⟩
        · rw [decide_eq_false c4]
          walk_at "ev"
          refine no rfl fun z ez _ => c4 ?_
          have hi := int_z (z := z) (by rw [← ez, ← len_tl]; omega)
          rw [← ez, hn] at hi
          cases hi
          exact ez.symm
      · have e3 : ((tl dg).map fun c => decide (48 ≤ c ∧ c ≤ 57)).all id = false := by
          rw [List.all_map, ← Bool.not_eq_true]
          intro h
          exact c3 fun c hc => of_decide_eq_true (List.all_eq_true.mp h c hc)
        rw [e3]
        walk_at "ev"
        exact no rfl fun z ez _ => c3 (by rw [hdg]; exact (canon_dgs (zT_canon ez)).1)
    · rw [decide_eq_false c2]
      walk_at "ev"
      exact no rfl fun z ez h60 => c2 (by rw [hdg]; omega)
  · rw [decide_eq_false c1]
    walk_at "ev"
    exact no rfl fun z ez _ => c1 (by
      have := (canon_dgs (zT_canon ez)).2
      rw [← hdg] at this
      have : 0 < (tl dg).length := List.length_pos_iff.mpr this
      omega)
open Classical in
/-- the number that a word writes -/
noncomputable def numW (w : Str) : Option Int := if h : ∃ z, w = zT z ∧ (dgs (tl w)).length ≤ 60 then some (choose h) else none
theorem numW_some {w : Str} {z : Int} : numW w = some z ↔ w = zT z ∧ (dgs (tl w)).length ≤ 60 := by
  unfold numW
  by_cases h : ∃ z, w = zT z ∧ (dgs (tl w)).length ≤ 60
  · rw [dif_pos h]
    have hs := Classical.choose_spec h
    constructor
    · intro e; cases e; exact hs
    · intro e
      rw [zT_inj (hs.1.symm.trans e.1)]
  · rw [dif_neg h]
    constructor
    · intro e; cases e
    · intro e; exact absurd ⟨z, e⟩ h
noncomputable def numD (w : Str) : D := (numW w).elim .none .int
theorem opt_num {w : Str} {o : Option Int} (h1 : ∀ z, o = some z → w = zT z ∧ (dgs (tl w)).length ≤ 60) (h2 : ∀ z, w = zT z → (dgs (tl w)).length ≤ 60 → o = some z) : o = numW w := by
  cases h : numW w with
  | none =>
    cases o with
    | none => rfl
    | some z => rw [numW_some.mpr (h1 z rfl)] at h; cases h
  | some z =>
    obtain ⟨a, b⟩ := numW_some.mp h
    exact h2 z a b
theorem e_number_of {w : Str} (ha : Asc w) (hl : w.length ≤ 1000000) : m_number_of (.str w) = pu (numD w) := by
  obtain ⟨o, e, h1, h2⟩ := e_number_of6 ha hl
  rw [e, opt_num h1 h2]; rfl
theorem e_law_numD {w : Str} (ha : Asc w) (hl : w.length ≤ 1000000) : m__law_number (.str w) = pu (numD w) := by
  obtain ⟨o, e, h1, h2⟩ := e_law_number6 ha hl
  rw [e, opt_num h1 h2]; rfl
end
section
open PySem PySem.Spec TL
theorem pre1 (s c : Nat) (r : List Nat) : pre [s] (c :: r) = decide (c = s) := by
  show ((c :: r).take 1 == [s]) = _
  show ([c] == [s]) = _
  by_cases h : c = s
  · subst h; rw [decide_eq_true rfl]; exact beq_self_eq_true _
  · rw [decide_eq_false h]; exact beq_false_of_ne fun z => h (List.cons.inj z).1
/-- what comes of cutting: the parts' lengths, their signs -/
theorem spl_facts (s : Nat) : ∀ (l acc : List Nat), (spl [s] 0 acc l).length ≤ l.length + 1 ∧ ((spl [s] 0 acc l).map List.length).sum + (spl [s] 0 acc l).length = acc.length + l.length + 1 ∧ spl [s] 0 acc l ≠ [] ∧ ∀ p ∈ spl [s] 0 acc l, ∀ c ∈ p, c ∈ acc ∨ c ∈ l
  | [], acc => by
    rw [spl_nil]
    exact ⟨by simp, by simp, by simp, fun p hp c hc => .inl (by rw [List.mem_singleton.mp hp] at hc; exact hc)⟩
  | c :: r, acc => by
    by_cases h : c = s
    · rw [spl_hit (by rw [pre1, h]; exact decide_eq_true rfl), show [s].length - 1 = 0 from rfl]
      obtain ⟨h1, h2, h3, h4⟩ := spl_facts s r []
      refine ⟨by rw [List.length_cons, List.length_cons]; exact Nat.succ_le_succ h1, ?_, by simp, fun p hp x hx => ?_⟩
      · rw [List.map_cons, List.sum_cons, List.length_cons, List.length_cons]
        rw [List.length_nil] at h2
        omega
      · rcases List.mem_cons.mp hp with e | e
        · rw [e] at hx; exact .inl hx
        · rcases h4 p e x hx with z | z
          · cases z
          · exact .inr (.tail _ z)
    · rw [spl_miss (by rw [pre1]; exact decide_eq_false h)]
      obtain ⟨h1, h2, h3, h4⟩ := spl_facts s r (acc ++ [c])
      rw [List.length_append, List.length_singleton] at h2
      refine ⟨by rw [List.length_cons]; omega, by rw [List.length_cons]; omega, h3, fun p hp x hx => ?_⟩
      rcases h4 p hp x hx with z | z
      · rcases List.mem_append.mp z with z | z
        · exact .inl z
        · rw [List.mem_singleton.mp z]; exact .inr (.head _)
      · exact .inr (.tail _ z)
structure Jt (y : Str) (s : Nat) : Prop where
  e : tl y = [s]
  k : y.cps.all (· < 256) = true
  a : Asc y
theorem jt_sp : Jt " " 32 := ⟨by decide +kernel, by decide +kernel, by decide +kernel⟩
theorem jt_nl : Jt "\n" 10 := ⟨by decide +kernel, by decide +kernel, by decide +kernel⟩
theorem Jt.spl {y : Str} {s : Nat} (h : Jt y s) (x : Str) : (Txt.split x y).map tl = TL.spl [s] 0 [] (tl x) := by
  rw [← h.e]
  exact split_spl x y (by rw [h.e]; simp) (kind_ok h.k)
theorem Jt.facts {y : Str} {s : Nat} (h : Jt y s) (x : Str) : (Txt.split x y).length ≤ x.length + 1 ∧ ((Txt.split x y).map (·.length)).sum + (Txt.split x y).length = x.length + 1 ∧ Txt.split x y ≠ [] ∧ ∀ p ∈ Txt.split x y, (∀ c ∈ tl p, c ∈ tl x) := by
  obtain ⟨h1, h2, h3, h4⟩ := spl_facts s (tl x) []
  rw [← h.spl x, List.length_map, ← len_tl] at h1
  rw [← h.spl x, List.length_map, List.map_map, ← len_tl, List.length_nil, Nat.zero_add] at h2
  rw [← h.spl x] at h3
  have e : (Txt.split x y).map (List.length ∘ tl) = (Txt.split x y).map (·.length) := List.map_congr_left fun p _ => (len_tl p).symm
  rw [e] at h2
  refine ⟨h1, h2, fun z => h3 (by rw [z]; rfl), fun p hp c hc => ?_⟩
  rw [← h.spl x] at h4
  rcases h4 (tl p) (List.mem_map.mpr ⟨p, hp, rfl⟩) c hc with z | z
  · cases z
  · exact z
theorem d_spl {y : Str} {s : Nat} (h : Jt y s) {x : Str} (hl : x.length ≤ 1000000) : splD (.str x) (.str y) = some (.list ((Txt.split x y).map .str)) := by
  refine if_pos ⟨?_, ?_⟩
  · rw [len_tl, h.e]; rfl
  · exact Nat.le_trans (show x.length + 2 ≤ 1000002 by omega) (by decide)
theorem r_mt1 {μ : Type} {f : D → D → Option D} (a : Str) (b : D) : (mt1 f (pu (.str a)) (pu b) : SM μ D) = of (f (.str a) b) := nr rfl
end
section
open PySem PySem.Spec TL
variable {μ α β : Type}
noncomputable def divP (k a b c : Str) : Option D := match numW a, numW b, numW c with
  | some x, some d, some m => if 1 ≤ d ∧ 0 ≤ m ∧ m ≤ 250 then some (.tuple [.str k, .int x, .int d, .int m]) else none
  | _, _, _ => none
noncomputable def putP (a b c : Str) : Option D := match numW a, numW b with
  | some x, some y => if c = "none" then some (.tuple [.str "put", .int x, .int y, .none]) else (numW c).map fun z => .tuple [.str "put", .int x, .int y, .int z]
  | _, _ => none
noncomputable def stepP (a : Str) : Option D := (numW a).map fun x => .tuple [.str "step", .int x]
noncomputable def deedP : List Str → Option D
  | [k, a] => if k = "step" then stepP a else none
  | [k, a, b, c] => if k = "begin" then divP "begin" a b c else if k = "rows" then divP "rows" a b c else if k = "put" then putP a b c else none
  | _ => none
/-- what a reading tells, or NoText -/
noncomputable def nt (o : Option D) : SM μ D := match o with
  | some d => pu d
  | none => SM.raise (exD "NoText" [])
theorem fin_nt (o : Option D) : (fin (bd (nt o) fun x => pu (.rt x) : SM μ (Fl Unit Empty)) : SM μ D) = nt o := by cases o <;> rfl
def WT (w : Str) : Prop := Asc w ∧ w.length ≤ 1000000
theorem numD_some {w : Str} {z : Int} (h : numW w = some z) : numD w = .int z := by unfold numD; rw [h]; rfl
theorem numD_none {w : Str} (h : numW w = none) : numD w = .none := by unfold numD; rw [h]; rfl
theorem e_read_number {w : Str} (h : WT w) : m_read_number (.str w) = nt ((numW w).map .int) := by
  unfold m_read_number
  walk_at "ev"
  rw [e_number_of h.1 h.2]
  walk_at "ev"
  cases e : numW w with
  | none => rw [numD_none e]; rfl
  | some z => rw [numD_some e]; rfl
theorem lcS_ok {T : D → SM μ Bool} {E : D → SM μ D} {x y : D} {xs acc : List D} (hT : T x = pu true) (hE : E x = pu y) (h : acc.length ≤ 1000) : lcS T E (x :: xs) acc = lcS T E xs (acc ++ [y]) := by
  show bd (T x) _ = _
  rw [hT, pu_bd, if_pos rfl, hE, pu_bd, if_pos (Nat.lt_of_lt_of_le (show acc.length < 1001 by omega) (by decide))]
theorem lcS_ex {T : D → SM μ Bool} {E : D → SM μ D} {x e : D} {xs acc : List D} (hT : T x = pu true) (hE : E x = SM.raise e) : lcS T E (x :: xs) acc = SM.raise e := by
  show bd (T x) _ = _
  rw [hT, pu_bd, if_pos rfl, hE]; rfl
theorem p0_nt (o : Option D) : (p0 (nt o : SM Unit D) : SM μ D) = nt o := by cases o <;> rfl
theorem r_unq3 (a b c : D) (k : D → D → D → SM μ β) : unq3 (.list [a, b, c]) k = k a b c := rfl
theorem e_read_division {k a b c : Str} (ha : WT a) (hb : WT b) (hc : WT c) : m_read_division (.str k) (.list [.str a, .str b, .str c]) = nt (divP k a b c) := by
  have e : ∀ w, WT w → (p0 (m_read_number (.str w)) : SM Unit D) = nt ((numW w).map .int) := fun w h => by rw [e_read_number h, p0_nt]
  unfold m_read_division divP
  walk_at "ev"
  rw [r_lc]
  cases h1 : numW a with
  | none => rw [lcS_ex rfl (by rw [e a ha, h1]; rfl)]; rfl
  | some x =>
    rw [lcS_ok (y := .int x) rfl (by rw [e a ha, h1]; rfl) (Nat.zero_le _)]
    cases h2 : numW b with
    | none => rw [lcS_ex rfl (by rw [e b hb, h2]; rfl)]; rfl
    | some d =>
      rw [lcS_ok (y := .int d) rfl (by rw [e b hb, h2]; rfl) (by simp)]
      cases h3 : numW c with
      | none => rw [lcS_ex rfl (by rw [e c hc, h3]; rfl)]; rfl
      | some m =>
        rw [lcS_ok (y := .int m) rfl (by rw [e c hc, h3]; rfl) (by simp)]
        rw [show (lcS (fun word => pu true) (fun word => (m_read_number word).p0) [] ((([] ++ [PyData.int x]) ++ [.int d]) ++ [.int m]) : SM Unit (List D)) = pu [.int x, .int d, .int m] from rfl]
        walk_at "ev"
        rw [r_unq3]
        walk_at "ev"
        by_cases c1 : d < 1
        · rw [decide_eq_true c1, if_neg (show ¬ (1 ≤ d ∧ 0 ≤ m ∧ m ≤ 250) by omega)]
          walk_at "ev"
          rfl
        · rw [decide_eq_false c1]
          walk_at "ev"
          by_cases c2 : 0 ≤ m
          · rw [decide_eq_true c2]
            walk_at "ev"
            by_cases c3 : m ≤ 250
            · rw [decide_eq_true c3, if_pos (show 1 ≤ d ∧ 0 ≤ m ∧ m ≤ 250 by omega)]
              walk_at "ev"
              rfl
            · rw [decide_eq_false c3, if_neg (show ¬ (1 ≤ d ∧ 0 ≤ m ∧ m ≤ 250) by omega)]
              walk_at "ev"
              rfl
          · rw [decide_eq_false c2, if_neg (show ¬ (1 ≤ d ∧ 0 ≤ m ∧ m ≤ 250) by omega)]
            walk_at "ev"
            rfl
theorem r_mtC {w : Str} {ws : List Str} {lit : Str} {n : Nat} {hit : List D → SM μ β} {miss : SM μ β} : mtC (.list ((w :: ws).map .str)) lit n hit miss = if ws.length = n then (if w = lit then hit (ws.map .str) else miss) else miss := by
  show mtL ((w :: ws).map PyData.str) lit n hit miss = _
  unfold mtL
  rw [List.length_map, List.length_cons]
  by_cases h : ws.length = n
  · rw [if_pos h, if_pos (by omega)]; rfl
  · rw [if_neg h, if_neg (by omega)]
theorem asc_none : Asc "none" := by decide +kernel
theorem le_sum46 : ∀ (l : List Nat) (x : Nat), x ∈ l → x ≤ l.sum
  | [], _, h => by cases h
  | y :: l, x, h => by
    rw [List.sum_cons]
    rcases List.mem_cons.mp h with e | e
    · omega
    · have := le_sum46 l x e; omega
theorem e_read_deed_b {line : Str} (ha : Asc line) (hl : line.length ≤ 900000) : m_read_deed_b (.str line) = nt (deedP (Txt.split line " ")) := by
  obtain ⟨f1, f2, f3, f4⟩ := jt_sp.facts line
  have hw : ∀ w ∈ Txt.split line " ", WT w := fun w hw => ⟨fun c hc => ha c (f4 w hw c hc), by
    have : w.length ≤ ((Txt.split line " ").map (·.length)).sum := le_sum46 _ _ (List.mem_map.mpr ⟨w, hw, rfl⟩)
    omega⟩
  unfold m_read_deed_b
  rw [r_mt1, d_spl jt_sp (by omega)]
  generalize Txt.split line " " = ws at *
  walk_at "ev"
  cases ws with
  | nil => exact absurd rfl f3
  | cons w ws =>
    have rN : ∀ w, WT w → (p0 (m_read_number (.str w)) : SM Unit D) = nt ((numW w).map .int) := fun w h => by rw [e_read_number h, p0_nt]
    match ws, hw with
    | [], _ =>
      rw [r_mtC, if_neg (by decide), r_mtC, if_neg (by decide), r_mtC, if_neg (by decide), r_mtC, if_neg (by decide)]; rfl
    | [a], hw =>
      have wa := hw a (by simp)
      rw [r_mtC, if_neg (by simp), r_mtC, if_neg (by simp), r_mtC, if_pos (show [a].length = 1 from rfl)]
      show _ = nt (if w = "step" then stepP a else none)
      by_cases c : w = "step"
      · rw [if_pos c, if_pos c]
        show (fin (bd (opL tupD (ac (pu (.str "step")) (ac (p0 (m_read_number (.str a))) (pu [])))) fun x => pu (.rt x)) : SM Unit D) = _
        rw [rN a wa]
        unfold stepP
        cases h : numW a with
        | none => rfl
        | some x => rfl
      · rw [if_neg c, if_neg c, r_mtC, if_neg (by simp)]; rfl
    | [a, b], _ =>
      rw [r_mtC, if_neg (by simp), r_mtC, if_neg (by simp), r_mtC, if_neg (by simp), r_mtC, if_neg (by simp)]; rfl
    | [a, b, c], hw =>
      have wa := hw a (by simp)
      have wb := hw b (by simp)
      have wc := hw c (by simp)
      rw [r_mtC, if_pos (show [a, b, c].length = 3 from rfl)]
      show _ = nt (if w = "begin" then divP "begin" a b c else if w = "rows" then divP "rows" a b c else if w = "put" then putP a b c else none)
      by_cases c1 : w = "begin"
      · rw [if_pos c1, if_pos c1]
        show (fin (bd (p0 (m_read_division (.str "begin") (.list [.str a, .str b, .str c]))) fun x => pu (.rt x)) : SM Unit D) = _
        rw [e_read_division wa wb wc, p0_nt, fin_nt]
      · rw [if_neg c1, if_neg c1, r_mtC, if_pos (show [a, b, c].length = 3 from rfl)]
        by_cases c2 : w = "rows"
        · rw [if_pos c2, if_pos c2]
          show (fin (bd (p0 (m_read_division (.str "rows") (.list [.str a, .str b, .str c]))) fun x => pu (.rt x)) : SM Unit D) = _
          rw [e_read_division wa wb wc, p0_nt, fin_nt]
        · rw [if_neg c2, if_neg c2, r_mtC, if_neg (by simp), r_mtC, if_pos (show [a, b, c].length = 3 from rfl)]
          by_cases c3 : w = "put"
          · rw [if_pos c3, if_pos c3]
            show (fin (bd (opL tupD (ac (pu (.str "put")) (ac (p0 (m_read_number (.str a))) (ac (p0 (m_read_number (.str b))) (ac (eif (SM.tb (of (eqD (.str c) (.str "none")))) (pu .none) (p0 (m_read_number (.str c)))) (pu [])))))) fun x => pu (.rt x)) : SM Unit D) = _
            rw [rN a wa, rN b wb, rN c wc, d_eqT wc.1 asc_none]
            unfold putP
            cases h1 : numW a with
            | none => rfl
            | some x =>
              cases h2 : numW b with
              | none => rfl
              | some y =>
                by_cases c4 : c = "none"
                · rw [decide_eq_true c4]
                  simp only [if_pos c4]
                  rfl
                · rw [decide_eq_false c4]
                  simp only [if_neg c4]
                  cases h3 : numW c with
                  | none => rfl
                  | some z => rfl
          · rw [if_neg c3, if_neg c3]; rfl
    | a :: b :: c :: d :: r, _ =>
      have h3 : (a :: b :: c :: d :: r).length ≠ 3 := by simp only [List.length_cons]; omega
      have h1 : (a :: b :: c :: d :: r).length ≠ 1 := by simp only [List.length_cons]; omega
      rw [r_mtC, if_neg h3, r_mtC, if_neg h3, r_mtC, if_neg h1, r_mtC, if_neg h3]; rfl
theorem e_read_deed {line : Str} (ha : Asc line) (hl : line.length ≤ 900000) : (∀ d, deedP (Txt.split line " ") = some d → m_read_deed (.str line) [] = .ok d []) ∧ (deedP (Txt.split line " ") = none → m_read_deed (.str line) [] = .exc (exD "NoText" []) []) := by
  have e := e_read_deed_b ha hl
  constructor
  · intro d h
    refine zb_ok (m := ()) ?_ rfl
    rw [e, h]; rfl
  · intro h
    refine zb_exc (m := ()) ?_ rfl
    rw [e, h]; rfl
end
section
open PySem PySem.Spec TL
theorem lookK_nil (k : Key) : lookK [] k = none := rfl
theorem lookK_cons (k0 : Key) (d0 : D) (es : List (Key × D)) (k : Key) : lookK ((k0, d0) :: es) k = if k0 = k then some d0 else lookK es k := by
  unfold lookK
  by_cases h : k0 = k
  · rw [if_pos h, List.find?_cons_of_pos (by simpa using h)]; rfl
  · rw [if_neg h, List.find?_cons_of_neg (by simpa using h)]
theorem lookK_put (es : List (Key × D)) (k : Key) (d : D) (k' : Key) : lookK (putKD es k d) k' = if k = k' then some d else lookK es k' := by
  have app : ∀ es : List (Key × D), (es.any fun kv => decide (kv.1 = k)) = false → lookK (es ++ [(k, d)]) k' = if k = k' then some d else lookK es k' := by
    intro es
    induction es with
    | nil => intro _; rw [List.nil_append, lookK_cons, lookK_nil]
    | cons e es ih =>
      intro h
      rw [List.any_cons, Bool.or_eq_false_iff] at h
      have hn := of_decide_eq_false h.1
      obtain ⟨k0, d0⟩ := e
      rw [List.cons_append, lookK_cons, lookK_cons, ih h.2]
      by_cases c : k0 = k'
      · rw [if_pos c, if_pos c, if_neg fun z => hn (c.trans z.symm)]
      · rw [if_neg c, if_neg c]
  have mp : ∀ es : List (Key × D), lookK (es.map fun kv => if kv.1 = k then (kv.1, d) else kv) k' = if k = k' then (if (es.any fun kv => decide (kv.1 = k)) = true then some d else none) else lookK es k' := by
    intro es
    induction es with
    | nil => by_cases c : k = k' <;> simp [lookK, c]
    | cons e es ih =>
      obtain ⟨k0, d0⟩ := e
      rw [List.map_cons, List.any_cons]
      by_cases c : k0 = k
      · rw [if_pos c, lookK_cons, ih, lookK_cons]
        by_cases c2 : k = k'
        · rw [if_pos (c.trans c2), if_pos c2, show decide (k0 = k) = true from decide_eq_true c, Bool.true_or, if_pos rfl]
        · rw [if_neg fun z => c2 (c.symm.trans z), if_neg c2, if_neg c2, if_neg fun z => c2 (c.symm.trans z)]
      · rw [if_neg c, lookK_cons, ih, lookK_cons, show decide (k0 = k) = false from decide_eq_false c, Bool.false_or]
        by_cases c2 : k = k'
        · rw [if_pos c2, if_neg fun z => c (z.trans c2.symm), if_pos c2]
        · rw [if_neg c2, if_neg c2]
  unfold putKD
  by_cases h : (es.any fun kv => decide (kv.1 = k)) = true
  · rw [if_pos h, mp es]
    by_cases c : k = k'
    · rw [if_pos c, if_pos c, if_pos h]
    · rw [if_neg c, if_neg c]
  · rw [if_neg h]
    exact app es (Bool.eq_false_iff.mpr h)
end
section
open PySem PySem.Spec TL
theorem strsD_str : ∀ ys : List Str, strsD (ys.map PyData.str) = some ys
  | [] => rfl
  | y :: ys => by
    show (strsD (ys.map PyData.str)).map (y :: ·) = _
    rw [strsD_str ys]; rfl
theorem d_join {a : Str} {ys : List Str} (h : (ys.map fun s : Str => s.length).sum + ys.length * a.length ≤ 16777216) : joinD a (.list (ys.map .str)) = some (.str (Txt.join a ys)) := by
  show (match strsD (ys.map PyData.str) with | some ys => if (ys.map fun s : Str => s.length).sum + ys.length * a.length ≤ 16777216 then some (PyData.str (joinS a ys)) else none | none => none) = _
  rw [strsD_str]
  exact if_pos h
theorem sum_le {c : Nat} : ∀ ys : List Str, (∀ y ∈ ys, y.length ≤ c) → (ys.map fun s : Str => s.length).sum ≤ ys.length * c
  | [], _ => by simp
  | y :: ys, h => by
    have := sum_le ys fun z hz => h z (.tail _ hz)
    have := h y (.head _)
    rw [List.map_cons, List.sum_cons, List.length_cons, Nat.succ_mul]
    omega
theorem le_sum (l : List Nat) (x : Nat) (h : x ∈ l) : x ≤ l.sum := le_sum46 l x h
end
section
open PySem PySem.Spec TL
theorem asc_app {a b : Str} (ha : Asc a) (hb : Asc b) : Asc (a ++ b) := fun c hc => by
  rw [tl_append] at hc
  rcases List.mem_append.mp hc with h | h
  · exact ha c h
  · exact hb c h
theorem len_app (a b : Str) : (a ++ b).length = a.length + b.length := by rw [len_tl, tl_append, List.length_append, ← len_tl, ← len_tl]
theorem d_addT {a b : Str} (h : a.length + b.length ≤ 1000000) : addD (.str a) (.str b) = some (.str (a ++ b)) := if_pos (line_le h)
theorem len_cutA (w : Str) (k : Nat) : (cutS w (some (k : Int)) none).length = w.length - k := by rw [len_tl, tl_cutA, List.length_drop, ← len_tl]
theorem len_cutB (w : Str) (k : Nat) : (cutS w none (some (k : Int))).length = min k w.length := by rw [len_tl, tl_cutB, List.length_take, ← len_tl]
theorem ixt_some {x : Str} {v : Int} (h0 : 0 ≤ v) (h1 : v < x.length) (hl : x.length ≤ 1000000) : ∃ c, c ∈ tl x ∧ ixtD (.str x) (.int v) = some (.str (sg c)) := by
  obtain ⟨k, rfl⟩ := Int.eq_ofNat_of_zero_le h0
  have hk : k < (tl x).length := by rw [← len_tl]; omega
  exact ⟨(tl x)[k], List.getElem_mem hk, d_ixt hl (atI_nat (List.getElem?_eq_getElem hk))⟩
theorem d_lenS {x : Str} (h : x.length ≤ 1000000) : lenD [.str x] = some (.int x.length) := by rw [d_lenT1 h, ← len_tl]
theorem e_signs : ∃ S : Str, m__law_signs = pu (.str S) ∧ Asc S ∧ S.length = 95 := by
  unfold m__law_signs
  walk_at "ev"
  exact ⟨_, rfl, by decide +kernel, by decide +kernel⟩
theorem asc_nil : Asc "" := by decide +kernel
theorem len_nilT : ("" : Str).length = 0 := by decide +kernel
theorem len_sg (c : Nat) : (sg c).length = 1 := rfl
theorem ok_signbent {d : D} {n : Nat} {x : Str} (hd : Dk d n) (hn : n ≤ 900000000) (ha : Asc x) (hl : x.length ≤ 900000) : Ok (m__law_sign_bent (.str x)) d fun y d' => ∃ z : Str, y = .str z ∧ Asc z ∧ z.length ≤ x.length + 1 ∧ Dk d' (n + 6) := by
  obtain ⟨S, eS, aS, lS⟩ := e_signs
  have i1 : Sz ((x.length : Int) + 1) 64 := ⟨by omega⟩
  have i2 : Sz (x.length : Int) 64 := ⟨by omega⟩
  have i95 : Sz (95 : Int) 7 := ⟨by decide⟩
  unfold m__law_sign_bent
  rw [eS]
  walk_at "fl"
  rw [d_lenS (by omega)]
  walk_at "fl"
  walk_at "pk"
  rintro _ d1 ⟨v, rfl, v0, v1, hd1⟩
  obtain ⟨v, rfl⟩ := Int.eq_ofNat_of_zero_le v0
  walk_at "fl"
  walk_at "pk"
  rintro _ d2 ⟨w, rfl, w0, w1, hd2⟩
  obtain ⟨c, hc, ec⟩ := ixt_some (x := S) w0 (by omega) (by omega)
  rw [ec]
  walk_at "fl"
  walk_at "pk"
  rintro _ d3 ⟨u, rfl, u0, u1, hd3⟩
  walk_at "fl"
  refine ok_bd (Ok.mono (P := fun (a : Bool) d' => d' = d3 ∧ (a = true → 1 ≤ x.length)) ?_ ?_)
  · by_cases cu : u = 0
    · rw [decide_eq_true cu, if_pos rfl, d_neT ha asc_nil]
      walk_at "fl"
      refine ok_pu ⟨rfl, fun h => ?_⟩
      rcases Nat.eq_zero_or_pos x.length with e | e
      · have ex : x = "" := ext_tl (by
          have e1 : tl x = [] := List.eq_nil_of_length_eq_zero (by rw [← len_tl]; exact e)
          rw [e1]; decide +kernel)
        rw [decide_eq_true ex] at h
        cases h
      · exact e
    · rw [decide_eq_false cu, if_neg (by decide)]
      exact ok_pu ⟨rfl, fun h => by cases h⟩
  rintro a _ ⟨rfl, hx1⟩
  refine ok_fin (ok_sq (Ok.mono (P := fun o d' => ∃ c : Nat, o = .nx (.str (sg c)) ∧ c < 128 ∧ Dk d' (n + 4)) ?_ ?_))
  · cases a with
    | false =>
      rw [if_neg (by decide)]
      exact ok_pu ⟨c, rfl, aS c hc, hd3.le (by omega)⟩
    | true =>
      have hx2 := hx1 rfl
      rw [if_pos rfl]
      walk_at "pk"
      rintro _ d4 ⟨k, rfl, k0, k1, hd4⟩
      obtain ⟨c2, hc2, ec2⟩ := ixt_some (x := x) k0 (by omega) (by omega)
      rw [ec2]
      walk_at "fl"
      exact ok_pu ⟨c2, rfl, ha c2 hc2, hd4⟩
  rintro _ d4 ⟨c4, rfl, hc4, hd4⟩
  refine ⟨_, rfl, ?_⟩
  unfold SM.sliceT
  walk_at "fj"
  rw [d_slc (by omega)]
  walk_at "fj"
  walk_at "pk"
  rintro _ d5 ⟨k, rfl, k0, k1, hd5⟩
  obtain ⟨y, my, ey⟩ := ix_some (xs := [PyData.str (sg c4), .str (sg c4), .str ""]) k0 (by show k < 3; omega)
  obtain ⟨s, rfl, hs1, hs2⟩ : ∃ s : Str, y = .str s ∧ Asc s ∧ s.length ≤ 1 := by
    simp only [List.mem_cons, List.not_mem_nil, or_false] at my
    rcases my with e | e | e
    · exact ⟨_, e, asc_sg hc4, by rw [len_sg]; omega⟩
    · exact ⟨_, e, asc_sg hc4, by rw [len_sg]; omega⟩
    · exact ⟨_, e, asc_nil, by rw [len_nilT]; omega⟩
  rw [ey]
  walk_at "fj"
  have lB := len_cutB x v
  rw [d_addT (by omega)]
  walk_at "fj"
  walk_at "pk"
  rintro _ d6 ⟨j, rfl, j0, j1, hd6⟩
  obtain ⟨j, rfl⟩ := Int.eq_ofNat_of_zero_le j0
  walk_at "fj"
  have lA := len_cutA x (v + j)
  have ea : ((v : Int) + (j : Int)) = ((v + j : Nat) : Int) := by omega
  rw [ea, d_slc (by omega)]
  walk_at "fj"
  rw [d_addT (by rw [len_app]; omega)]
  walk_at "fj"
  exact ok_pu ⟨_, .inl rfl, _, rfl, asc_app (asc_app (asc_cut ha) hs1) (asc_cut ha), by rw [len_app, len_app]; omega, hd6.le (by omega)⟩
end
section
open PySem PySem.Spec TL
/-- how long texts are, with a sign behind each -/
def WL (ys : List Str) : Nat := (ys.map fun s : Str => s.length).sum + ys.length
theorem WL_app (a b : List Str) : WL (a ++ b) = WL a + WL b := by
  unfold WL
  rw [List.map_append, List.sum_append, List.length_append]; omega
theorem WL_one (a : Str) : WL [a] = a.length + 1 := by
  unfold WL
  rw [List.map_cons, List.sum_cons, List.map_nil, List.sum_nil, List.length_singleton]; omega
theorem WL_mem {y : Str} {ys : List Str} (h : y ∈ ys) : WL [y] ≤ WL ys := by
  rw [WL_one]
  unfold WL
  have := le_sum (ys.map fun s : Str => s.length) y.length (List.mem_map.mpr ⟨y, h, rfl⟩)
  have := List.length_pos_iff.mpr (List.ne_nil_of_mem h)
  omega
theorem WL_td (ys : List Str) (k : Nat) : WL (ys.take k) + WL (ys.drop k) = WL ys := by rw [← WL_app, List.take_append_drop]
theorem WL_len (ys : List Str) : ys.length ≤ WL ys := by unfold WL; omega
abbrev sL (ys : List Str) : D := .list (ys.map .str)
theorem cutL_A (ys : List Str) (k : Nat) : sliD (sL ys) (some (k : Int)) none = some (sL (ys.drop k)) := by
  show some (PyData.list (cutD (ys.map PyData.str) _ _)) = _
  unfold cutD
  rw [HT.sIx_nat, HT.sIx_none, List.length_map]
  congr 2
  by_cases h : k ≤ ys.length
  · rw [Nat.min_eq_left h, List.take_of_length_le (by rw [List.length_drop, List.length_map]; omega), List.map_drop]
  · rw [Nat.min_eq_right (by omega), Nat.sub_self, List.take_zero, List.drop_of_length_le (by omega)]; rfl
theorem cutL_B (ys : List Str) (k : Nat) : sliD (sL ys) none (some (k : Int)) = some (sL (ys.take k)) := by
  show some (PyData.list (cutD (ys.map PyData.str) _ _)) = _
  unfold cutD
  rw [HT.sIx_nat, HT.sIx_none, List.length_map, List.drop_zero, Nat.sub_zero]
  congr 2
  by_cases h : k ≤ ys.length
  · rw [Nat.min_eq_left h, List.map_take]
  · rw [Nat.min_eq_right (by omega), List.take_of_length_le (by rw [List.length_map]; omega), List.take_of_length_le (by omega)]
theorem cutL_C (ys : List Str) (k : Nat) : sliD (sL ys) (some (k : Int)) (some ((k + 1 : Nat) : Int)) = some (sL ((ys.drop k).take 1)) := by
  show some (PyData.list (cutD (ys.map PyData.str) _ _)) = _
  unfold cutD
  rw [HT.sIx_nat, HT.sIx_nat, List.length_map]
  congr 2
  by_cases h : k + 1 ≤ ys.length
  · rw [Nat.min_eq_left h, Nat.min_eq_left (by omega), show k + 1 - k = 1 by omega, List.map_take, List.map_drop]
  · rw [Nat.min_eq_right (show ys.length ≤ k by omega), Nat.min_eq_right (show ys.length ≤ k + 1 by omega), Nat.sub_self, List.take_zero, List.drop_of_length_le (show ys.length ≤ k by omega)]; rfl
theorem cat_sL {a b : List Str} (h : WL a + WL b ≤ 1000000) : addD (sL a) (sL b) = some (sL (a ++ b)) := by
  have h1 := WL_len a
  have h2 := WL_len b
  show addD (.list (a.map PyData.str)) (.list (b.map PyData.str)) = _
  rw [d_cat (line_le (by rw [List.length_map, List.length_map]; omega)), ← List.map_append]
theorem ok_listbent {d : D} {n : Nat} {ys : List Str} (hd : Dk d n) (hn : n ≤ 900000000) (h0 : ys ≠ []) (hl : WL ys ≤ 400000) : Ok (m__law_list_bent (sL ys)) d fun y d' => ∃ zs : List Str, y = sL zs ∧ (∀ z ∈ zs, z ∈ ys) ∧ WL zs ≤ 2 * WL ys ∧ Dk d' (n + 3) := by
  have hp := List.length_pos_iff.mpr h0
  have hw := WL_len ys
  have i1 : Sz (ys.length : Int) 64 := ⟨by omega⟩
  unfold m__law_list_bent
  walk_at "fl"
  rw [List.length_map]
  walk_at "pk"
  rintro _ d1 ⟨a, rfl, a0, a1, hd1⟩
  obtain ⟨a, rfl⟩ := Int.eq_ofNat_of_zero_le a0
  walk_at "fl"
  walk_at "pk"
  rintro _ d2 ⟨v, rfl, v0, v1, hd2⟩
  obtain ⟨y, my, ey⟩ := ix_some (xs := ys.map PyData.str) v0 (by rw [List.length_map]; omega)
  obtain ⟨o, ho, rfl⟩ := List.mem_map.mp my
  rw [ey]
  walk_at "fl"
  walk_at "pk"
  rintro _ d3 ⟨k, rfl, k0, k1, hd3⟩
  walk_at "fl"
  have t1 := WL_td ys a
  have t2 := WL_td (ys.drop a) 1
  have t3 := WL_td (ys.drop (a + 1)) 1
  rw [List.drop_drop] at t2 t3
  have ho2 := WL_mem ho
  have m1 : ∀ z ∈ ys.take a, z ∈ ys := fun z hz => List.mem_of_mem_take hz
  have m2 : ∀ k, ∀ z ∈ ys.drop k, z ∈ ys := fun k z hz => List.mem_of_mem_drop hz
  have m3 : ∀ k, ∀ z ∈ (ys.drop k).take 1, z ∈ ys := fun k z hz => m2 k z (List.mem_of_mem_take hz)
  have ma : ∀ {p q : List Str}, (∀ z ∈ p, z ∈ ys) → (∀ z ∈ q, z ∈ ys) → ∀ z ∈ p ++ q, z ∈ ys := fun h1 h2 z hz => (List.mem_append.mp hz).elim (h1 z) (h2 z)
  have mo : ∀ z ∈ [o], z ∈ ys := fun z hz => by rw [List.mem_singleton.mp hz]; exact ho
  have cA := cutL_A ys
  have cB := cutL_B ys
  have cC := cutL_C ys
  have e1 : ∀ j : Nat, ((a : Int) + (j : Int)) = ((a + j : Nat) : Int) := fun j => by omega
  have e11 : ((a : Int) + 1) = ((a + 1 : Nat) : Int) := by omega
  have e12 : ((a : Int) + 2) = ((a + 1 + 1 : Nat) : Int) := by omega
  have one : (PyData.list [PyData.str o] : D) = sL [o] := rfl
  have done_ : ∀ zs : List Str, (∀ z ∈ zs, z ∈ ys) → WL zs ≤ 2 * WL ys → Ok (pu (sL zs) : SM D D) d3 fun y d' => ∃ zs : List Str, y = sL zs ∧ (∀ z ∈ zs, z ∈ ys) ∧ WL zs ≤ 2 * WL ys ∧ Dk d' (n + 3) := fun zs h1 h2 => ok_pu ⟨zs, rfl, h1, h2, hd3⟩
  by_cases c0 : k = 0
  · rw [decide_eq_true c0]
    walk_at "fl"
    rw [cB]
    walk_at "fl"
    rw [e11, cA]
    walk_at "fl"
    rw [cat_sL (by omega)]
    walk_at "fl"
    exact done_ _ (ma m1 (m2 _)) (by rw [WL_app]; omega)
  rw [decide_eq_false c0]
  walk_at "fl"
  by_cases c1 : k = 1
  · rw [decide_eq_true c1]
    walk_at "fl"
    rw [cB]
    walk_at "fl"
    rw [one, cat_sL (by omega)]
    walk_at "fl"
    rw [cA]
    walk_at "fl"
    rw [cat_sL (by rw [WL_app]; omega)]
    walk_at "fl"
    exact done_ _ (ma (ma m1 mo) (m2 _)) (by rw [WL_app, WL_app]; omega)
  rw [decide_eq_false c1]
  walk_at "fl"
  by_cases c2 : k = 2
  · rw [decide_eq_true c2]
    walk_at "fl"
    rw [one, cat_sL (by omega)]
    walk_at "fl"
    exact done_ _ (ma (fun z hz => hz) mo) (by rw [WL_app]; omega)
  rw [decide_eq_false c2]
  walk_at "fl"
  by_cases c3 : k = 3
  · rw [decide_eq_true c3]
    walk_at "fl"
    rw [cB]
    walk_at "fl"
    rw [one, cat_sL (by omega)]
    walk_at "fl"
    rw [e11, cA]
    walk_at "fl"
    rw [cat_sL (by rw [WL_app]; omega)]
    walk_at "fl"
    exact done_ _ (ma (ma m1 mo) (m2 _)) (by rw [WL_app, WL_app]; omega)
  rw [decide_eq_false c3]
  walk_at "fl"
  rw [e11, e12, cC (a + 1)]
  walk_at "fl"
  rw [cC a]
  walk_at "fl"
  rw [cat_sL (by omega)]
  walk_at "fl"
  rw [cB]
  walk_at "fl"
  rw [cat_sL (by rw [WL_app]; omega)]
  walk_at "fl"
  rw [cA]
  walk_at "fl"
  rw [cat_sL (by rw [WL_app, WL_app]; omega)]
  walk_at "fl"
  exact done_ _ (ma (ma m1 (ma (m3 _) (m3 _))) (m2 _)) (by rw [WL_app, WL_app, WL_app]; omega)
/-- joined texts -/
theorem join_bd (s : Nat) : ∀ ps : List (List Nat), (joinL [s] ps).length ≤ (ps.map List.length).sum + ps.length - 1 ∧ ∀ c ∈ joinL [s] ps, c = s ∨ ∃ p ∈ ps, c ∈ p
  | [] => ⟨Nat.zero_le _, fun c hc => by cases hc⟩
  | [p] => ⟨by show p.length ≤ _; simp, fun c hc => .inr ⟨p, .head _, hc⟩⟩
  | p :: q :: r => by
    obtain ⟨h1, h2⟩ := join_bd s (q :: r)
    constructor
    · show (p ++ ([s] ++ joinL [s] (q :: r))).length ≤ _
      rw [List.length_append, List.length_append, List.map_cons, List.sum_cons, List.length_singleton]
      have h3 : (q :: r).length = r.length + 1 := rfl
      have h4 : (p :: q :: r).length = r.length + 2 := rfl
      omega
    · intro c hc
      have hc' : c ∈ p ++ ([s] ++ joinL [s] (q :: r)) := hc
      rcases List.mem_append.mp hc' with h | h
      · exact .inr ⟨p, .head _, h⟩
      · rcases List.mem_append.mp h with h | h
        · exact .inl (List.mem_singleton.mp h)
        · rcases h2 c h with z | ⟨p', z1, z2⟩
          · exact .inl z
          · exact .inr ⟨p', .tail _ z1, z2⟩
theorem Jt.join_bd {y : Str} {s : Nat} (h : Jt y s) (zs : List Str) : (Txt.join y zs).length ≤ WL zs - 1 ∧ ((∀ z ∈ zs, Asc z) → Asc (Txt.join y zs)) := by
  obtain ⟨h1, h2⟩ := My.join_bd s (zs.map tl)
  have e : tl (Txt.join y zs) = joinL [s] (zs.map tl) := by rw [join_eq, tl_join, h.e]
  have e2 : (zs.map tl).map List.length = zs.map fun z : Str => z.length := by
    rw [List.map_map]
    exact List.map_congr_left fun z _ => (len_tl z).symm
  rw [← e, ← len_tl, e2, List.length_map] at h1
  refine ⟨h1, fun ha c hc => ?_⟩
  rw [e] at hc
  rcases h2 c hc with z | ⟨p, hp, hc2⟩
  · have := h.a c (by rw [h.e]; exact List.mem_singleton.mpr z)
    exact this
  · obtain ⟨w, hw, rfl⟩ := List.mem_map.mp hp
    exact ha w hw c hc2
theorem jt_len {y : Str} {s : Nat} (h : Jt y s) : y.length = 1 := by rw [len_tl, h.e]; rfl
theorem ok_bent {d : D} {n : Nat} {x : Str} (hd : Dk d n) (hn : n ≤ 800000000) (ha : Asc x) (hl : x.length ≤ 390000) : Ok (m__law_bent (.str x) (.list [.str " ", .str "\n"])) d fun y d' => ∃ z : Str, y = .str z ∧ Asc z ∧ z.length ≤ 2 * x.length + 1 ∧ Dk d' (n + 7) := by
  unfold m__law_bent
  walk_at "fl"
  refine ok_bd (ok_qx ((ok_pick (k := 5) hd (by omega) (by decide) (by decide)).mono ?_))
  rintro _ d1 ⟨v, rfl, v0, v1, hd1⟩
  walk_at "fl"
  by_cases c : v < 3
  · rw [decide_eq_true c]
    walk_at "fl"
    refine ok_bd (ok_qx ((ok_signbent hd1 (by omega) ha (by omega)).mono ?_))
    rintro _ d2 ⟨z, rfl, az, lz, hd2⟩
    walk_at "fl"
    exact ok_pu ⟨z, rfl, az, by omega, hd2.le (by omega)⟩
  · rw [decide_eq_false c]
    walk_at "fl"
    obtain ⟨y, my, ey⟩ := ix_some (xs := [PyData.str " ", .str "\n"]) (v := v - 3) (by omega) (by show v - 3 < 2; omega)
    obtain ⟨j, s, rfl, hj⟩ : ∃ (j : Str) (s : Nat), y = .str j ∧ Jt j s := by
      simp only [List.mem_cons, List.not_mem_nil, or_false] at my
      rcases my with e | e
      · exact ⟨_, _, e, jt_sp⟩
      · exact ⟨_, _, e, jt_nl⟩
    obtain ⟨f1, f2, f3, f4⟩ := hj.facts x
    have hw : WL (Txt.split x j) = x.length + 1 := f2
    rw [ey]
    walk_at "fl"
    unfold SM.join
    rw [r_bd, show strO (.str j) = some j from rfl, r_of, r_bd, r_mt1, d_spl hj (by omega), r_of, r_bd]
    refine ok_bd (ok_bd (ok_qx ((ok_listbent hd1 (by omega) f3 (by omega)).mono ?_)))
    rintro _ d2 ⟨zs, rfl, mz, lz, hd2⟩
    obtain ⟨b1, b2⟩ := hj.join_bd zs
    rw [d_join (by rw [jt_len hj]; show (zs.map fun s : Str => s.length).sum + zs.length * 1 ≤ _; have : WL zs = (zs.map fun s : Str => s.length).sum + zs.length := rfl; omega)]
    walk_at "fl"
    exact ok_pu (ok_pu ⟨_, rfl, b2 fun z hz => fun c hc => ha c (f4 z (mz z hz) c hc), by omega, hd2.le (by omega)⟩)
end
section
open PySem PySem.Spec TL
variable {μ : Type}
abbrev formsD : D := dispK (([("begin", 4), ("rows", 4), ("step", 2), ("put", 4)] : List (Str × Int)).map fun kv => (.inr kv.1, .int kv.2))
def formsE : List (Key × D) := (([("begin", 4), ("rows", 4), ("step", 2), ("put", 4)] : List (Str × Int)).map fun kv => ((.inr kv.1 : Key), PyData.int kv.2)).foldl (fun es kv => putKD es kv.1 kv.2) []
theorem forms_e : formsD = dcK formsE := rfl
def formN (k : Str) : Option Int := if k = "put" then some 4 else if k = "step" then some 2 else if k = "rows" then some 4 else if k = "begin" then some 4 else none
theorem forms_look (k : Str) : lookK formsE (.inr k) = (formN k).map .int := by
  show lookK (putKD (putKD (putKD (putKD [] (.inr "begin") (.int 4)) (.inr "rows") (.int 4)) (.inr "step") (.int 2)) (.inr "put") (.int 4)) (.inr k) = _
  rw [lookK_put, lookK_put, lookK_put, lookK_put, lookK_nil]
  unfold formN
  by_cases c1 : (Sum.inr "put" : Key) = .inr k
  · rw [if_pos c1, if_pos (Sum.inr.inj c1).symm]; rfl
  have n1 : ¬ k = "put" := fun e => c1 (by rw [e])
  rw [if_neg c1, if_neg n1]
  by_cases c2 : (Sum.inr "step" : Key) = .inr k
  · rw [if_pos c2, if_pos (Sum.inr.inj c2).symm]; rfl
  have n2 : ¬ k = "step" := fun e => c2 (by rw [e])
  rw [if_neg c2, if_neg n2]
  by_cases c3 : (Sum.inr "rows" : Key) = .inr k
  · rw [if_pos c3, if_pos (Sum.inr.inj c3).symm]; rfl
  have n3 : ¬ k = "rows" := fun e => c3 (by rw [e])
  rw [if_neg c3, if_neg n3]
  by_cases c4 : (Sum.inr "begin" : Key) = .inr k
  · rw [if_pos c4, if_pos (Sum.inr.inj c4).symm]; rfl
  have n4 : ¬ k = "begin" := fun e => c4 (by rw [e])
  rw [if_neg c4, if_neg n4]
  rfl
theorem forms_nin (k : Str) : ninK (.str k) formsD = some (.bool (!(formN k).isSome)) := by
  rw [forms_e]
  unfold ninK
  rw [unDk_dcK]
  show some (PyData.bool (!(lookK formsE (.inr k)).isSome)) = _
  rw [forms_look]
  cases formN k <;> rfl
theorem forms_ix (k : Str) : ixK (.str k) formsD = (formN k).map .int := by
  rw [forms_e]
  unfold ixK
  rw [unDk_dcK]
  exact forms_look k
theorem formtest {w : Str} {ws : List Str} {m : D} (hm : m = formsD) (hl : ws.length ≤ 900001) : (tor (SM.tb (bd (op2 idxD (pu (.list ((w :: ws).map .str))) (pu (.int 0))) fun x => bd (pu m) fun r => of (ninK x r))) (SM.tb (op2 neD (opL lenD (ac (pu (.list ((w :: ws).map .str))) a0)) (bd (pu m) fun r => bd (op2 idxD (pu (.list ((w :: ws).map .str))) (pu (.int 0))) fun x => of (ixK x r)))) : SM Unit Bool) = pu (!decide (formN w = some ((ws.length + 1 : Nat) : Int))) := by
  subst hm
  rw [List.map_cons]
  walk_at "ev"
  rw [forms_nin]
  cases h : formN w with
  | none =>
    rw [decide_eq_false (by simp)]
    rfl
  | some k =>
    walk_at "ev"
    rw [forms_ix, h]
    show (bd (of (neD (.int (((PyData.str w :: ws.map PyData.str).length : Nat) : Int)) (.int k))) fun x => of (boolD x) : SM Unit Bool) = _
    rw [d_neI, r_of, r_bd, List.length_cons, List.length_map]
    show (pu (!decide (((ws.length + 1 : Nat) : Int) = k)) : SM Unit Bool) = _
    congr 2
    apply decide_eq_decide.mpr
    constructor
    · intro e; rw [e]
    · intro e; cases e; rfl
theorem deedP_no {w : Str} {ws : List Str} (h : formN w ≠ some ((ws.length + 1 : Nat) : Int)) : deedP (w :: ws) = none := by
  have f1 : w = "put" → formN w = some 4 := fun e => if_pos e
  have f2 : w = "step" → formN w = some 2 := fun e => by rw [e]; decide +kernel
  have f3 : w = "rows" → formN w = some 4 := fun e => by rw [e]; decide +kernel
  have f4 : w = "begin" → formN w = some 4 := fun e => by rw [e]; decide +kernel
  match ws with
  | [] => rfl
  | [a] =>
    show (if w = "step" then stepP a else none) = none
    rw [if_neg fun e => h (f2 e)]
  | [a, b] => rfl
  | [a, b, c] =>
    show (if w = "begin" then divP "begin" a b c else if w = "rows" then divP "rows" a b c else if w = "put" then putP a b c else none) = none
    rw [if_neg fun e => h (f4 e), if_neg fun e => h (f3 e), if_neg fun e => h (f1 e)]
  | a :: b :: c :: d :: r => rfl
noncomputable def numG : D → D
  | .str w => numD w
  | _ => .none
theorem lc_nums {ws : List Str} (h : ∀ w ∈ ws, WT w) (hl : ws.length ≤ 1000000) : (SM.lc (pu (ws.map .str)) (fun _ => pu true) (fun word => (px (m__law_number word))) : SM μ D) = pu (.list (ws.map numD)) := by
  rw [lc_mapS46 (g := numG) (fun _ _ => rfl) (fun x hx => by
    obtain ⟨w, hw, rfl⟩ := List.mem_map.mp hx
    rw [e_law_numD (h w hw).1 (h w hw).2]; rfl) (by rw [List.length_map]; exact hl), List.map_map]
  rfl
theorem asc_step : Asc "step" := by decide +kernel
theorem asc_put : Asc "put" := by decide +kernel
theorem asc_rows : Asc "rows" := by decide +kernel
theorem asc_begin : Asc "begin" := by decide +kernel
theorem step_put : ¬ ("step" : Str) = "put" := by decide +kernel
theorem rows_put : ¬ ("rows" : Str) = "put" := by decide +kernel
theorem begin_put : ¬ ("begin" : Str) = "put" := by decide +kernel
theorem rows_begin : ¬ ("rows" : Str) = "begin" := by decide +kernel
theorem put_begin : ¬ ("put" : Str) = "begin" := by decide +kernel
theorem put_rows : ¬ ("put" : Str) = "rows" := by decide +kernel
theorem inN1 (a : Str) : inD false .none (.list [numD a]) = some (.bool (isNone (numD a))) := by
  unfold numD
  cases numW a <;> rfl
theorem inN2 (a b : Str) : inD false .none (.list [numD a, numD b]) = some (.bool (isNone (numD a) || isNone (numD b))) := by
  unfold numD
  cases numW a <;> cases numW b <;> rfl
theorem inN3 (a b c : Str) : inD false .none (.list [numD a, numD b, numD c]) = some (.bool (isNone (numD a) || (isNone (numD b) || isNone (numD c)))) := by
  unfold numD
  cases numW a <;> cases numW b <;> cases numW c <;> rfl
theorem br_of {k : Str} {v : Bool} (h : inL (.str k) [.str "begin", .str "rows"] = v) : inD false (.str k) (.tuple [.str "begin", .str "rows"]) = some (.bool v) := by
  show some (PyData.bool (inL (.str k) [.str "begin", .str "rows"])) = _
  rw [h]
theorem br_step : inD false (.str "step") (.tuple [.str "begin", .str "rows"]) = some (.bool false) := br_of (by decide +kernel)
theorem br_put : inD false (.str "put") (.tuple [.str "begin", .str "rows"]) = some (.bool false) := br_of (by decide +kernel)
theorem br_begin : inD false (.str "begin") (.tuple [.str "begin", .str "rows"]) = some (.bool true) := br_of (by decide +kernel)
theorem br_rows : inD false (.str "rows") (.tuple [.str "begin", .str "rows"]) = some (.bool true) := br_of (by decide +kernel)
theorem d_ixl3 (a b c d : D) (l : List D) : idxD (.list (a :: b :: c :: d :: l)) (.int 3) = some d := by
  show atI (a :: b :: c :: d :: l) 3 = some d
  exact atI_nat (j := 3) rfl
theorem cat_tup {x : D} {ys : List D} (h : ys ≠ [] ∧ ys.length ≤ 1000) : addD (.tuple [x]) (.tuple ys) = some (.tuple (x :: ys)) := if_pos ⟨by simp, h.1, line_le (by rw [List.length_singleton]; omega)⟩
theorem num_none : numW "none" = none := by
  cases h : numW "none" with
  | none => rfl
  | some z =>
    have e := (numW_some.mp h).1
    have ht : tl ("none" : Str) = [110, 111, 110, 101] := by decide +kernel
    have hc := canon_z z
    rw [← e, ht] at hc
    rcases hc with e | ⟨c, l, e, hd, _⟩ | ⟨c, l, e, _, _⟩
    · cases e
    · have := hd 110 (.head _)
      omega
    · cases e
theorem form_cases {w : Str} {ws : List Str} (h : formN w = some ((ws.length + 1 : Nat) : Int)) : (w = "step" ∧ ∃ a, ws = [a]) ∨ ((w = "begin" ∨ w = "rows" ∨ w = "put") ∧ ∃ a b c, ws = [a, b, c]) := by
  have l3 : ws.length = 3 → ∃ a b c, ws = [a, b, c] := fun h => by
    match ws, h with
    | [a, b, c], _ => exact ⟨a, b, c, rfl⟩
  unfold formN at h
  split at h
  · next e => exact .inr ⟨.inr (.inr e), l3 (by injection h with h; omega)⟩
  · split at h
    · next e =>
      refine .inl ⟨e, ?_⟩
      have h1 : ws.length = 1 := by injection h with h; omega
      match ws, h1 with
      | [a], _ => exact ⟨a, rfl⟩
    · split at h
      · next e => exact .inr ⟨.inr (.inl e), l3 (by injection h with h; omega)⟩
      · split at h
        · next e => exact .inr ⟨.inl e, l3 (by injection h with h; omega)⟩
        · cases h
theorem e_law_read_row {line : Str} (ha : Asc line) (hl : line.length ≤ 900000) : m__law_read_row (.str line) [] = .ok ((deedP (Txt.split line " ")).getD .none) [] := by
  obtain ⟨f1, f2, f3, f4⟩ := jt_sp.facts line
  have hw : ∀ w ∈ Txt.split line " ", WT w := fun w hw => ⟨fun c hc => ha c (f4 w hw c hc), by
    have : w.length ≤ ((Txt.split line " ").map (·.length)).sum := le_sum46 _ _ (List.mem_map.mpr ⟨w, hw, rfl⟩)
    omega⟩
  refine zb_ok (m := formsD) (of_okS (m' := formsD) ?_) rfl
  unfold m__law_read_row_b
  refine ok_fin ?_
  rw [r_mt1, d_spl jt_sp (by omega)]
  generalize Txt.split line " " = ws at *
  cases ws with
  | nil => exact absurd rfl f3
  | cons w ws =>
    rw [List.length_cons] at f1
    rw [r_of, r_bd, r_bd]
    refine ok_putG rfl ?_
    refine ok_rdrB (formtest rfl (by omega)) ?_
    by_cases hfc : formN w = some ((ws.length + 1 : Nat) : Int)
    · rw [decide_eq_true hfc]
      walk_at "fj"
      have es : sliD (PyData.list (List.map PyData.str (w :: ws))) (some 1) none = some (sL ws) := cutL_A (w :: ws) 1
      rw [es]
      walk_at "fj"
      rw [lc_nums (fun x hx => hw x (.tail _ hx)) (by omega)]
      walk_at "fj"
      rcases form_cases hfc with ⟨rfl, a, rfl⟩ | ⟨hk, a, b, c, rfl⟩
      · simp only [List.map_cons, List.map_nil]
        walk_at "fj"
        rw [d_eqT asc_step asc_put, decide_eq_false step_put]
        walk_at "fj"
        have ev : deedP ["step", a] = stepP a := by
          show (if ("step" : Str) = "step" then stepP a else none) = _
          rw [if_pos rfl]
        rw [show sliD (PyData.list [numD a]) none (some (((([numD a] : List D).length : Nat) : Int) - 0)) = some (.list [numD a]) from rfl]
        walk_at "fj"
        rw [inN1, ev]
        cases h : numW a with
        | none =>
          rw [numD_none h]
          exact ok_pu ⟨_, .inl rfl, by unfold stepP; rw [h]; rfl, rfl⟩
        | some x =>
          rw [numD_some h, show isNone (.int x) = false from rfl]
          walk_at "fj"
          rw [br_step]
          walk_at "fj"
          rw [cat_tup (by simp)]
          walk_at "fj"
          exact ok_pu ⟨_, .inl rfl, by unfold stepP; rw [h]; rfl, rfl⟩
      · simp only [List.map_cons, List.map_nil]
        walk_at "fj"
        have s3 : ∀ x y z : D, sliD (PyData.list [x, y, z]) none (some ((3 : Int) - 0)) = some (.list [x, y, z]) := fun _ _ _ => rfl
        have s2 : ∀ x y z : D, sliD (PyData.list [x, y, z]) none (some ((3 : Int) - 1)) = some (.list [x, y]) := fun _ _ _ => rfl
        have l3 : ∀ x y z : D, (((([x, y, z] : List D).length : Nat) : Int)) = 3 := fun _ _ _ => rfl
        rcases hk with rfl | rfl | rfl
        · have ev : deedP ["begin", a, b, c] = divP "begin" a b c := by
            show (if ("begin" : Str) = "begin" then divP "begin" a b c else if ("begin" : Str) = "rows" then divP "rows" a b c else if ("begin" : Str) = "put" then putP a b c else none) = _
            rw [if_pos rfl]
          rw [d_eqT asc_begin asc_put, decide_eq_false begin_put]
          walk_at "fj"
          rw [l3, s3]
          walk_at "fj"
          rw [inN3, ev]
          unfold divP
          cases h1 : numW a with
          | none => rw [numD_none h1]; exact ok_pu ⟨_, .inl rfl, rfl, rfl⟩
          | some x =>
            rw [numD_some h1]
            cases h2 : numW b with
            | none => rw [numD_none h2]; exact ok_pu ⟨_, .inl rfl, rfl, rfl⟩
            | some d =>
              rw [numD_some h2]
              cases h3 : numW c with
              | none => rw [numD_none h3]; exact ok_pu ⟨_, .inl rfl, rfl, rfl⟩
              | some m =>
                rw [numD_some h3, show (isNone (.int x) || (isNone (.int d) || isNone (.int m))) = false from rfl]
                walk_at "fj"
                rw [br_begin]
                walk_at "fj"
                by_cases c1 : d < 1
                · rw [decide_eq_true c1]
                  walk_at "fj"
                  exact ok_pu ⟨_, .inl rfl, by simp only [if_neg (show ¬ (1 ≤ d ∧ 0 ≤ m ∧ m ≤ 250) by omega)]; rfl, rfl⟩
                · rw [decide_eq_false c1]
                  walk_at "fj"
                  by_cases c2 : 0 ≤ m
                  · rw [decide_eq_true c2]
                    walk_at "fj"
                    by_cases c3 : m < 251
                    · rw [decide_eq_true c3]
                      walk_at "fj"
                      rw [cat_tup (by simp)]
                      walk_at "fj"
                      exact ok_pu ⟨_, .inl rfl, by simp only [if_pos (show 1 ≤ d ∧ 0 ≤ m ∧ m ≤ 250 by omega)]; rfl, rfl⟩
                    · rw [decide_eq_false c3]
                      walk_at "fj"
                      exact ok_pu ⟨_, .inl rfl, by simp only [if_neg (show ¬ (1 ≤ d ∧ 0 ≤ m ∧ m ≤ 250) by omega)]; rfl, rfl⟩
                  · rw [decide_eq_false c2]
                    walk_at "fj"
                    exact ok_pu ⟨_, .inl rfl, by simp only [if_neg (show ¬ (1 ≤ d ∧ 0 ≤ m ∧ m ≤ 250) by omega)]; rfl, rfl⟩
        · have ev : deedP ["rows", a, b, c] = divP "rows" a b c := by
            show (if ("rows" : Str) = "begin" then divP "begin" a b c else if ("rows" : Str) = "rows" then divP "rows" a b c else if ("rows" : Str) = "put" then putP a b c else none) = _
            rw [if_neg rows_begin, if_pos rfl]
          rw [d_eqT asc_rows asc_put, decide_eq_false rows_put]
          walk_at "fj"
          rw [l3, s3]
          walk_at "fj"
          rw [inN3, ev]
          unfold divP
          cases h1 : numW a with
          | none => rw [numD_none h1]; exact ok_pu ⟨_, .inl rfl, rfl, rfl⟩
          | some x =>
            rw [numD_some h1]
            cases h2 : numW b with
            | none => rw [numD_none h2]; exact ok_pu ⟨_, .inl rfl, rfl, rfl⟩
            | some d =>
              rw [numD_some h2]
              cases h3 : numW c with
              | none => rw [numD_none h3]; exact ok_pu ⟨_, .inl rfl, rfl, rfl⟩
              | some m =>
                rw [numD_some h3, show (isNone (.int x) || (isNone (.int d) || isNone (.int m))) = false from rfl]
                walk_at "fj"
                rw [br_rows]
                walk_at "fj"
                by_cases c1 : d < 1
                · rw [decide_eq_true c1]
                  walk_at "fj"
                  exact ok_pu ⟨_, .inl rfl, by simp only [if_neg (show ¬ (1 ≤ d ∧ 0 ≤ m ∧ m ≤ 250) by omega)]; rfl, rfl⟩
                · rw [decide_eq_false c1]
                  walk_at "fj"
                  by_cases c2 : 0 ≤ m
                  · rw [decide_eq_true c2]
                    walk_at "fj"
                    by_cases c3 : m < 251
                    · rw [decide_eq_true c3]
                      walk_at "fj"
                      rw [cat_tup (by simp)]
                      walk_at "fj"
                      exact ok_pu ⟨_, .inl rfl, by simp only [if_pos (show 1 ≤ d ∧ 0 ≤ m ∧ m ≤ 250 by omega)]; rfl, rfl⟩
                    · rw [decide_eq_false c3]
                      walk_at "fj"
                      exact ok_pu ⟨_, .inl rfl, by simp only [if_neg (show ¬ (1 ≤ d ∧ 0 ≤ m ∧ m ≤ 250) by omega)]; rfl, rfl⟩
                  · rw [decide_eq_false c2]
                    walk_at "fj"
                    exact ok_pu ⟨_, .inl rfl, by simp only [if_neg (show ¬ (1 ≤ d ∧ 0 ≤ m ∧ m ≤ 250) by omega)]; rfl, rfl⟩
        · have ev : deedP ["put", a, b, c] = putP a b c := by
            show (if ("put" : Str) = "begin" then divP "begin" a b c else if ("put" : Str) = "rows" then divP "rows" a b c else if ("put" : Str) = "put" then putP a b c else none) = _
            rw [if_neg put_begin, if_neg put_rows, if_pos rfl]
          rw [d_eqT asc_put asc_put, decide_eq_true rfl]
          walk_at "fj"
          rw [d_ixl3]
          walk_at "fj"
          rw [d_eqT (hw c (by simp)).1 asc_none, ev]
          unfold putP
          by_cases c4 : c = "none"
          · rw [decide_eq_true c4]
            walk_at "fj"
            have h3 : numD c = .none := by rw [c4]; exact numD_none num_none
            rw [l3, s2]
            walk_at "fj"
            rw [inN2, h3]
            cases h1 : numW a with
            | none => rw [numD_none h1]; exact ok_pu ⟨_, .inl rfl, rfl, rfl⟩
            | some x =>
              rw [numD_some h1]
              cases h2 : numW b with
              | none => rw [numD_none h2]; exact ok_pu ⟨_, .inl rfl, rfl, rfl⟩
              | some y =>
                rw [numD_some h2, show (isNone (.int x) || isNone (.int y)) = false from rfl]
                walk_at "fj"
                rw [br_put]
                walk_at "fj"
                rw [cat_tup (by simp)]
                walk_at "fj"
                exact ok_pu ⟨_, .inl rfl, by simp only [if_pos c4]; rfl, rfl⟩
          · rw [decide_eq_false c4]
            walk_at "fj"
            rw [l3, s3]
            walk_at "fj"
            rw [inN3]
            cases h1 : numW a with
            | none => rw [numD_none h1]; exact ok_pu ⟨_, .inl rfl, rfl, rfl⟩
            | some x =>
              rw [numD_some h1]
              cases h2 : numW b with
              | none => rw [numD_none h2]; exact ok_pu ⟨_, .inl rfl, rfl, rfl⟩
              | some y =>
                rw [numD_some h2]
                cases h3 : numW c with
                | none => rw [numD_none h3]; exact ok_pu ⟨_, .inl rfl, by simp only [if_neg c4]; rfl, rfl⟩
                | some z =>
                  rw [numD_some h3, show (isNone (.int x) || (isNone (.int y) || isNone (.int z))) = false from rfl]
                  walk_at "fj"
                  rw [br_put]
                  walk_at "fj"
                  rw [cat_tup (by simp)]
                  walk_at "fj"
                  exact ok_pu ⟨_, .inl rfl, by simp only [if_neg c4]; rfl, rfl⟩
    · rw [decide_eq_false hfc, deedP_no hfc]
      exact ok_pu ⟨_, .inl rfl, rfl, rfl⟩
end
section
open PySem PySem.Spec TL
theorem lc_okM {μ : Type} {T : D → SM μ Bool} {E : D → SM μ D} {g : D → D} {mm : μ} : ∀ (xs acc : List D), (∀ x ∈ xs, T x = pu true) → (∀ x ∈ xs, E x mm = .ok (g x) mm) → acc.length + xs.length ≤ sizeLine → lcS T E xs acc mm = .ok (acc ++ xs.map g) mm
  | [], acc, _, _, _ => by rw [List.map_nil, List.append_nil]; rfl
  | x :: xs, acc, hT, hE, h => by
    rw [List.length_cons] at h
    show bd (T x) _ mm = _
    rw [hT x (.head _), pu_bd, if_pos rfl, bd_ok (hE x (.head _)), if_pos (by omega), lc_okM xs _ (fun y hy => hT y (.tail _ hy)) (fun y hy => hE y (.tail _ hy)) (by rw [List.length_append, List.length_singleton]; omega), List.append_assoc]
    rfl
theorem lc_exM {μ : Type} {T : D → SM μ Bool} {E : D → SM μ D} {P : D → Prop} {e : D} {mm : μ} : ∀ (xs acc : List D), (∀ x ∈ xs, T x = pu true) → (∀ x ∈ xs, P x → ∃ y, E x mm = .ok y mm) → (∀ x ∈ xs, ¬ P x → E x mm = .exc e mm) → acc.length + xs.length ≤ sizeLine → (¬ ∀ x ∈ xs, P x) → lcS T E xs acc mm = .exc e mm
  | [], acc, _, _, _, _, hn => absurd (fun x hx => by cases hx) hn
  | x :: xs, acc, hT, hE, hX, h, hn => by
    rw [List.length_cons] at h
    show bd (T x) _ mm = _
    rw [hT x (.head _), pu_bd, if_pos rfl]
    by_cases hp : P x
    · obtain ⟨y, hy⟩ := hE x (.head _) hp
      rw [bd_ok hy, if_pos (by omega)]
      refine lc_exM (P := P) xs _ (fun y hy => hT y (.tail _ hy)) (fun y hy => hE y (.tail _ hy)) (fun y hy => hX y (.tail _ hy)) (by rw [List.length_append, List.length_singleton]; omega) fun z => hn fun y hy => ?_
      rcases List.mem_cons.mp hy with c | c
      · rw [c]; exact hp
      · exact z y c
    · exact bd_exc (hX x (.head _) hp)
end
theorem e_name_text : m__law_name_of (exD "NoText" []) = pu (.str "NoText+") := by
  unfold m__law_name_of
  rw [show nmX (exD "NoText" []) = "NoText" from rfl]
  rw [show isq "NoFigure" "NoText" = false by decide +kernel, show isq "NoLooks" "NoText" = false by decide +kernel, show isq "NoRoom" "NoText" = false by decide +kernel, show isq "NoRow" "NoText" = false by decide +kernel, show isq "NoTable" "NoText" = false by decide +kernel, show isq "NoText" "NoText" = true by decide +kernel, show isq "Spoilt" "NoText" = false by decide +kernel, show isq "NoMore" "NoText" = false by decide +kernel, show isq "NoWork" "NoText" = false by decide +kernel, show isq "NoCell" "NoText" = false by decide +kernel, show isq "NoDeed" "NoText" = false by decide +kernel]
  rfl
section
open PySem PySem.Spec TL
theorem deedP_tup {ws : List Str} {d : D} (h : deedP ws = some d) : ∃ xs, d = .tuple xs ∧ Lay 1 d := by
  have ls : ∀ {x : Str}, Asc x → Lay 0 (.str x) := fun h => lay_str h.ok
  have div : ∀ {k a b c : Str}, Asc k → divP k a b c = some d → ∃ xs, d = .tuple xs ∧ Lay 1 d := fun {k a b c} hk h => by
    unfold divP at h
    split at h
    · split at h
      · cases h
        refine ⟨_, rfl, lay_tup fun y hy => ?_⟩
        simp only [List.mem_cons, List.not_mem_nil, or_false] at hy
        rcases hy with rfl | rfl | rfl | rfl
        · exact ls hk
        · exact lay_int _
        · exact lay_int _
        · exact lay_int _
      · cases h
    · cases h
  unfold deedP at h
  split at h
  · next k a =>
    split at h
    · unfold stepP at h
      cases e : numW a with
      | none => rw [e] at h; cases h
      | some z =>
        rw [e] at h; cases h
        refine ⟨_, rfl, lay_tup fun y hy => ?_⟩
        simp only [List.mem_cons, List.not_mem_nil, or_false] at hy
        rcases hy with rfl | rfl
        · exact ls asc_step
        · exact lay_int _
    · cases h
  · next k a b c =>
    split at h
    · exact div asc_begin h
    · split at h
      · exact div asc_rows h
      · split at h
        · unfold putP at h
          split at h
          · next x y _ _ =>
            have fin_ : ∀ z : D, Lay 0 z → Lay 1 (.tuple [.str "put", .int x, .int y, z]) := fun z hz => lay_tup fun u hu => by
              simp only [List.mem_cons, List.not_mem_nil, or_false] at hu
              rcases hu with rfl | rfl | rfl | rfl
              · exact ls asc_put
              · exact lay_int _
              · exact lay_int _
              · exact hz
            split at h
            · cases h; exact ⟨_, rfl, fin_ _ lay_none⟩
            · cases e : numW c with
              | none => rw [e] at h; cases h
              | some z => rw [e] at h; cases h; exact ⟨_, rfl, fin_ _ (lay_int _)⟩
          · cases h
        · cases h
  · cases h
noncomputable def rowV (line : Str) : D := (deedP (Txt.split line " ")).getD .none
noncomputable def rowVD : D → D
  | .str l => rowV l
  | _ => .none
def GoodX (text : Str) : Prop := text = "" ∨ ∀ line ∈ Txt.split text "\n", (deedP (Txt.split line " ")).isSome = true
open Classical in
noncomputable def dsX (text : Str) : List D := if text = "" then [] else (Txt.split text "\n").map rowV
theorem lines_ok {text : Str} (ha : Asc text) (hl : text.length ≤ 900000) : (Txt.split text "\n").length ≤ 900001 ∧ ∀ line ∈ Txt.split text "\n", Asc line ∧ line.length ≤ 900000 := by
  obtain ⟨f1, f2, f3, f4⟩ := jt_nl.facts text
  refine ⟨by omega, fun line hline => ⟨fun c hc => ha c (f4 line hline c hc), ?_⟩⟩
  have : line.length ≤ ((Txt.split text "\n").map (·.length)).sum := le_sum46 _ _ (List.mem_map.mpr ⟨line, hline, rfl⟩)
  have h1 : 0 < (Txt.split text "\n").length := List.length_pos_iff.mpr f3
  omega
theorem e_read_deeds {text : Str} (ha : Asc text) (hl : text.length ≤ 900000) : (GoodX text → m_read_deeds (.str text) [] = .ok (.list (dsX text)) []) ∧ (¬ GoodX text → m_read_deeds (.str text) [] = .exc (exD "NoText" []) []) := by
  obtain ⟨l1, l2⟩ := lines_ok ha hl
  have eK : ∀ line : Str, (kZ (u1 m_read_deed) [.str line] (fun _ => []) (fun _ m => m) : SM Unit D) () = match m_read_deed (.str line) [] with | .ok x ts => .ok x () | .exc e ts => .exc e () | .bad => .bad := fun line => rfl
  have row : ∀ line ∈ Txt.split text "\n", ((deedP (Txt.split line " ")).isSome = true → (kZ (u1 m_read_deed) [.str line] (fun _ => []) (fun _ m => m) : SM Unit D) () = .ok (rowV line) ()) ∧ (¬ (deedP (Txt.split line " ")).isSome = true → (kZ (u1 m_read_deed) [.str line] (fun _ => []) (fun _ m => m) : SM Unit D) () = .exc (exD "NoText" []) ()) := fun line hline => by
    obtain ⟨a1, a2⟩ := l2 line hline
    obtain ⟨r1, r2⟩ := e_read_deed a1 a2
    rw [eK]
    unfold rowV
    cases h : deedP (Txt.split line " ") with
    | none =>
      refine ⟨(fun z => by cases z), fun _ => ?_⟩
      rw [r2 h]
    | some d =>
      refine ⟨fun _ => ?_, fun z => absurd rfl z⟩
      rw [r1 d h]; rfl
  by_cases h0 : text = ""
  · have hz : GoodX text := .inl h0
    refine ⟨fun _ => zb_ok (m := ()) (ts' := []) (prj := fun _ => []) ?_ rfl, fun z => absurd hz z⟩
    unfold m_read_deeds_b dsX
    walk_at "ev"
    rw [d_eqT ha asc_nil, decide_eq_true h0, if_pos h0]
    walk_at "ev"
    rfl
  · have hgx : GoodX text ↔ ∀ line ∈ Txt.split text "\n", (deedP (Txt.split line " ")).isSome = true := ⟨fun z => z.resolve_left h0, .inr⟩
    rw [hgx]
    constructor
    · intro hg
      refine zb_ok (m := ()) ?_ rfl
      unfold m_read_deeds_b dsX
      rw [r_mt1, d_spl jt_nl (by omega)]
      walk_at "ev"
      rw [d_eqT ha asc_nil, decide_eq_false h0, if_neg h0]
      walk_at "ev"
      rw [r_lc]
      refine (bd_ok (a := .list ((Txt.split text "\n").map rowV)) (m' := ()) ((bd_ok (lc_okM (g := rowVD) _ [] (fun _ _ => rfl) (fun x hx => ?_) ?_)).trans ?_)).trans rfl
      · obtain ⟨line, hline, rfl⟩ := List.mem_map.mp hx
        exact (row line hline).1 (hg line hline)
      · exact line_le (by rw [List.length_nil, List.length_map]; omega)
      · rw [List.nil_append, List.map_map]; rfl
    · intro hg
      refine zb_exc (m := ()) ?_ rfl
      unfold m_read_deeds_b
      rw [r_mt1, d_spl jt_nl (by omega)]
      walk_at "ev"
      rw [d_eqT ha asc_nil, decide_eq_false h0]
      walk_at "ev"
      rw [r_lc]
      refine bd_exc (bd_exc (lc_exM (P := fun x => ∃ line ∈ Txt.split text "\n", x = .str line ∧ (deedP (Txt.split line " ")).isSome = true) _ [] (fun _ _ => rfl) (fun x hx hp => ?_) (fun x hx hp => ?_) (line_le (by rw [List.length_nil, List.length_map]; omega)) fun z => hg fun line hline => ?_))
      · obtain ⟨line, hline, rfl, hs⟩ := hp
        exact ⟨rowV line, (row line hline).1 hs⟩
      · obtain ⟨line, hline, rfl⟩ := List.mem_map.mp hx
        exact (row line hline).2 fun hs => hp ⟨line, hline, rfl, hs⟩
      · obtain ⟨l2, _, e2, hs⟩ := z (.str line) (List.mem_map.mpr ⟨line, hline, rfl⟩)
        cases e2; exact hs
theorem rowV_two (line : Str) : (rowV line = .none ∧ (deedP (Txt.split line " ")).isSome = false) ∨ ((∃ xs, rowV line = .tuple xs) ∧ (deedP (Txt.split line " ")).isSome = true ∧ Lay 1 (rowV line)) := by
  unfold rowV
  cases h : deedP (Txt.split line " ") with
  | none => exact .inl ⟨rfl, rfl⟩
  | some d =>
    obtain ⟨xs, e, hl⟩ := deedP_tup h
    exact .inr ⟨⟨xs, e⟩, rfl, hl⟩
theorem rowV_lay (line : Str) : Lay 1 (rowV line) := by
  rcases rowV_two line with ⟨e, _⟩ | ⟨_, _, h⟩
  · rw [e]; exact lay_none
  · exact h
theorem inDD_none {text : Str} : inDD false .none (.list ((Txt.split text "\n").map rowV)) = some (.bool (!decide (∀ line ∈ Txt.split text "\n", (deedP (Txt.split line " ")).isSome = true))) := by
  show (if SeqAt.shaped PyData.none && SeqAt.shaped (.list ((Txt.split text "\n").map rowV)) then some (PyData.bool (((Txt.split text "\n").map rowV).any fun z => PyData.eqv z .none)) else none) = _
  have hl : Lay 2 (.list ((Txt.split text "\n").map rowV)) := lay_list fun x hx => by
    obtain ⟨line, _, rfl⟩ := List.mem_map.mp hx
    exact rowV_lay line
  rw [sh_none, hl.shaped (by decide), Bool.true_and, if_pos rfl]
  congr 2
  by_cases c : ∀ line ∈ Txt.split text "\n", (deedP (Txt.split line " ")).isSome = true
  · rw [decide_eq_true c, Bool.not_true, List.any_eq_false]
    intro x hx
    obtain ⟨line, hline, rfl⟩ := List.mem_map.mp hx
    rcases rowV_two line with ⟨_, e⟩ | ⟨⟨xs, e⟩, _⟩
    · rw [c line hline] at e; cases e
    · rw [e]; simp [PyData.eqv]
  · rw [decide_eq_false c, Bool.not_false, List.any_eq_true]
    obtain ⟨line, hline, hn⟩ : ∃ line ∈ Txt.split text "\n", ¬ (deedP (Txt.split line " ")).isSome = true := by
      by_cases z : ∃ line ∈ Txt.split text "\n", ¬ (deedP (Txt.split line " ")).isSome = true
      · exact z
      · exact absurd (fun line hline => Classical.byContradiction fun h => z ⟨line, hline, h⟩) c
    refine ⟨rowV line, List.mem_map.mpr ⟨line, hline, rfl⟩, ?_⟩
    rcases rowV_two line with ⟨e, _⟩ | ⟨_, e, _⟩
    · rw [e]; simp [PyData.eqv]
    · exact absurd e hn
theorem e_law_readX {text : Str} (ha : Asc text) (hl : text.length ≤ 900000) : (GoodX text → m__law_read (.str text) [] = .ok (.list (dsX text)) []) ∧ (¬ GoodX text → m__law_read (.str text) [] = .ok .none []) := by
  obtain ⟨l1, l2⟩ := lines_ok ha hl
  have eK : ∀ line : Str, (kZ0 (u1 m__law_read_row) [.str line] (fun _ => []) (fun _ m => m) : SM Unit D) () = match m__law_read_row (.str line) [] with | .ok x ts => .ok x () | _ => .bad := fun line => rfl
  have row : ∀ line ∈ Txt.split text "\n", (kZ0 (u1 m__law_read_row) [.str line] (fun _ => []) (fun _ m => m) : SM Unit D) () = .ok (rowV line) () := fun line hline => by
    obtain ⟨a1, a2⟩ := l2 line hline
    rw [eK, e_law_read_row a1 a2]; rfl
  by_cases h0 : text = ""
  · have hz : GoodX text := .inl h0
    refine ⟨fun _ => zb_ok (m := ()) (ts' := []) (prj := fun _ => []) ?_ rfl, fun z => absurd hz z⟩
    unfold m__law_read_b dsX
    walk_at "ev"
    rw [d_eqT ha asc_nil, decide_eq_true h0, if_pos h0]
    walk_at "ev"
    rfl
  · have hgx : GoodX text ↔ ∀ line ∈ Txt.split text "\n", (deedP (Txt.split line " ")).isSome = true := ⟨fun z => z.resolve_left h0, .inr⟩
    rw [hgx]
    have main : ∀ {v : D}, (if (∀ line ∈ Txt.split text "\n", (deedP (Txt.split line " ")).isSome = true) then PyData.list (dsX text) else .none) = v → m__law_read (.str text) [] = .ok v [] := fun {v} hv => by
      refine zb_ok (m := ()) ?_ rfl
      unfold m__law_read_b
      rw [r_mt1, d_spl jt_nl (by omega)]
      walk_at "ev"
      rw [d_eqT ha asc_nil, decide_eq_false h0]
      walk_at "ev"
      rw [r_lc]
      refine (bd_ok (a := .list ((Txt.split text "\n").map rowV)) (m' := ()) ((bd_ok (lc_okM (g := rowVD) _ [] (fun _ _ => rfl) (fun x hx => ?_) ?_)).trans ?_)).trans ?_
      · obtain ⟨line, hline, rfl⟩ := List.mem_map.mp hx
        exact row line hline
      · exact line_le (by rw [List.length_nil, List.length_map]; omega)
      · rw [List.nil_append, List.map_map]; rfl
      · rw [inDD_none]
        by_cases c : ∀ line ∈ Txt.split text "\n", (deedP (Txt.split line " ")).isSome = true
        · rw [decide_eq_true c]
          rw [if_pos c] at hv
          rw [← hv]
          unfold dsX
          rw [if_neg h0]; rfl
        · rw [decide_eq_false c]
          rw [if_neg c] at hv
          rw [← hv]; rfl
    constructor
    · intro hg; exact main (if_pos hg)
    · intro hg; exact main (if_neg hg)
theorem e_law_toldX {text : Str} (ha : Asc text) (hl : text.length ≤ 900000) :
    (GoodX text → m__law_told (.str text) [] = .ok (.tuple [.list (dsX text), .str ""]) []) ∧ (¬ GoodX text → m__law_told (.str text) [] = .ok (.tuple [.none, .str "NoText+"]) []) := by
  obtain ⟨h1, h2⟩ := e_read_deeds ha hl
  have eK : (cZ (u1 m_read_deeds) (zF (pu (.str text)) zN) : SM D D) .none = match m_read_deeds (.str text) [] with | .ok x ts => .ok x .none | .exc e ts => .exc e .none | .bad => .bad := rfl
  constructor
  · intro g
    refine zb_ok (m := .list (dsX text)) ?_ rfl
    unfold m__law_told_b
    refine (bd_ok (a := .rt (.tuple [.list (dsX text), .str ""])) (m' := .list (dsX text)) ?_).trans rfl
    rw [r_bd]
    refine Eq.trans (bd_ok (x := putG (fun (y : D) (_m : D) => y) PyData.none) (m := PyData.none) (a := ()) (m' := PyData.none) rfl) ?_
    rw [r_bd]
    refine (bd_ok (a := .nx (.str "")) (m' := .list (dsX text)) (tryS_ok ?_)).trans rfl
    refine Eq.trans (bd_ok (a := ()) (m' := .list (dsX text)) ?_) rfl
    exact Eq.trans (bd_ok (a := .list (dsX text)) (m' := PyData.none) (eK.trans (by rw [h1 g]))) rfl
  · intro g
    refine zb_ok (m := .none) ?_ rfl
    unfold m__law_told_b
    refine (bd_ok (a := .rt (.tuple [.none, .str "NoText+"])) (m' := .none) ?_).trans rfl
    rw [r_bd]
    refine Eq.trans (bd_ok (x := putG (fun (y : D) (_m : D) => y) PyData.none) (m := PyData.none) (a := ()) (m' := PyData.none) rfl) ?_
    rw [r_bd]
    refine (bd_ok (a := .nx (.str "NoText+")) (m' := .none) ?_).trans rfl
    rw [tryS_exc (bd_exc (bd_exc (e := exD "NoText" []) (m' := PyData.none) (eK.trans (by rw [h2 g])))), if_pos (show isa (nmX (exD "NoText" [])) = true by decide +kernel), e_name_text]
    rfl
end
section
open PySem PySem.Spec TL
theorem zT_signs {z : Int} {c : Nat} (h : c ∈ tl (zT z)) : c = 45 ∨ (48 ≤ c ∧ c ≤ 57) := by
  rcases canon_z z with e | ⟨c0, l, e, hd, _⟩ | ⟨c0, l, e, hd, _⟩
  · rw [e] at h
    rw [List.mem_singleton.mp h]; exact .inr (by decide)
  · exact .inr (hd c h)
  · rw [e] at h
    rcases List.mem_cons.mp h with h | h
    · exact .inl h
    · exact .inr (hd c h)
/-- a word without blanks and line feeds -/
structure Wo (w : Str) (k : Nat) : Prop where
  a : Asc w
  b : 32 ∉ tl w
  n : 10 ∉ tl w
  l : w.length ≤ k
theorem dgs_le (l : List Nat) : (dgs l).length ≤ l.length := by
  unfold dgs
  split
  · rw [List.length_cons]; omega
  · exact Nat.le_refl _
theorem wo_num {z : Int} {k : Nat} (hk : 0 < k) (h : z.natAbs < 10 ^ k) : Wo (zT z) (k + 1) ∧ (k ≤ 60 → numW (zT z) = some z) := by
  have hl : (dgs (tl (zT z))).length ≤ k ∧ (tl (zT z)).length ≤ k + 1 := by
    cases z with
    | ofNat n =>
      have h1 := numL_len (n := n) hk h
      have e : tl (zT (Int.ofNat n)) = numL n := tl_zN n
      rw [e]
      have := dgs_le (numL n)
      omega
    | negSucc n =>
      have h1 := numL_len (n := n + 1) hk h
      rw [tl_zM, dgs_neg, List.length_cons]
      omega
  refine ⟨⟨fun c hc => by rcases zT_signs hc with h | h <;> omega, fun hc => by rcases zT_signs hc with h | h <;> omega, fun hc => by rcases zT_signs hc with h | h <;> omega, by rw [len_tl]; exact hl.2⟩, fun h60 => numW_some.mpr ⟨rfl, by omega⟩⟩
def swD : D → Str
  | .int z => zT z
  | .str s => s
  | _ => "none"
def SwK (x : D) : Prop := x = .none ∨ (∃ z : Int, x = .int z ∧ z.natAbs < 10 ^ 60) ∨ ∃ s, x = .str s
theorem d_strX {z : Int} (h : z.natAbs < 10 ^ 60) : strXD [.int z] = some (.str (zT z)) := by
  refine if_pos ?_
  by_cases h0 : z.natAbs = 0
  · rw [h0]; decide
  · refine (Nat.log2_lt h0).mpr (Nat.lt_of_lt_of_le h ?_)
    exact Nat.le_trans (by decide : (10 : Nat) ^ 60 ≤ 2 ^ 200) (Nat.pow_le_pow_right (by decide) (by decide))
theorem e_show_word {x : D} (h : SwK x) : m_show_word x = pu (.str (swD x)) := by
  rcases h with rfl | ⟨z, rfl, hz⟩ | ⟨s, rfl⟩
  · unfold m_show_word
    walk_at "ev"
    rfl
  · unfold m_show_word
    walk_at "ev"
    rw [d_strX hz]
    walk_at "ev"
    rfl
  · unfold m_show_word
    rfl
def deedW : D → List Str
  | .tuple xs => xs.map swD
  | _ => []
def deedT (d : D) : Str := Txt.join " " (deedW d)
/-- a deed that is written -/
structure DF (d : D) : Prop where
  tp : ∃ xs, d = .tuple xs ∧ (∀ x ∈ xs, SwK x) ∧ xs.length ≤ 4
  two : 2 ≤ (deedW d).length
  wo : ∀ w ∈ deedW d, Asc w ∧ 32 ∉ tl w ∧ 10 ∉ tl w
  wl : WL (deedW d) ≤ 90
  back : deedP (deedW d) = some d
theorem wl_cons (w : Str) (ws : List Str) : WL (w :: ws) = w.length + 1 + WL ws := by
  show WL ([w] ++ ws) = _
  rw [WL_app, WL_one]
theorem wl_nil : WL [] = 0 := rfl
theorem wo_begin : Wo "begin" 5 := ⟨by decide +kernel, by decide +kernel, by decide +kernel, by decide +kernel⟩
theorem wo_rows : Wo "rows" 5 := ⟨by decide +kernel, by decide +kernel, by decide +kernel, by decide +kernel⟩
theorem wo_step : Wo "step" 5 := ⟨by decide +kernel, by decide +kernel, by decide +kernel, by decide +kernel⟩
theorem wo_put : Wo "put" 5 := ⟨by decide +kernel, by decide +kernel, by decide +kernel, by decide +kernel⟩
theorem wo_none : Wo "none" 5 := ⟨by decide +kernel, by decide +kernel, by decide +kernel, by decide +kernel⟩
theorem df_div {k : Str} (hk : k = "begin" ∨ k = "rows") {far d many : Int} (h1 : far.natAbs < 10 ^ 60) (h2 : 1 ≤ d) (h3 : d ≤ 1000000000) (h4 : 0 ≤ many) (h5 : many ≤ 250) : DF (.tuple [.str k, .int far, .int d, .int many]) := by
  have hw : Wo k 5 := by rcases hk with rfl | rfl; exact wo_begin; exact wo_rows
  obtain ⟨w1, n1⟩ := wo_num (z := far) (k := 60) (by decide) h1
  obtain ⟨w2, n2⟩ := wo_num (z := d) (k := 10) (by decide) (by omega)
  obtain ⟨w3, n3⟩ := wo_num (z := many) (k := 3) (by decide) (by omega)
  have n1 := n1 (by decide)
  have n2 := n2 (by decide)
  have n3 := n3 (by decide)
  have l0 := hw.l
  have l1 := w1.l
  have l2 := w2.l
  have l3 := w3.l
  refine ⟨⟨_, rfl, fun x hx => ?_, by simp⟩, by show 2 ≤ 4; decide, fun w hm => ?_, ?_, ?_⟩
  · simp only [List.mem_cons, List.not_mem_nil, or_false] at hx
    rcases hx with rfl | rfl | rfl | rfl
    · exact .inr (.inr ⟨_, rfl⟩)
    · exact .inr (.inl ⟨_, rfl, h1⟩)
    · exact .inr (.inl ⟨_, rfl, by omega⟩)
    · exact .inr (.inl ⟨_, rfl, by omega⟩)
  · have hm2 : w ∈ [k, zT far, zT d, zT many] := hm
    simp only [List.mem_cons, List.not_mem_nil, or_false] at hm2
    rcases hm2 with rfl | rfl | rfl | rfl
    · exact ⟨hw.a, hw.b, hw.n⟩
    · exact ⟨w1.a, w1.b, w1.n⟩
    · exact ⟨w2.a, w2.b, w2.n⟩
    · exact ⟨w3.a, w3.b, w3.n⟩
  · show WL [k, zT far, zT d, zT many] ≤ 90
    rw [wl_cons, wl_cons, wl_cons, wl_cons, wl_nil]
    omega
  · show (if k = "begin" then divP "begin" (zT far) (zT d) (zT many) else if k = "rows" then divP "rows" (zT far) (zT d) (zT many) else if k = "put" then putP (zT far) (zT d) (zT many) else none) = _
    have e : ∀ k : Str, divP k (zT far) (zT d) (zT many) = some (.tuple [.str k, .int far, .int d, .int many]) := fun k => by
      unfold divP
      rw [n1, n2, n3]
      exact if_pos ⟨h2, h4, h5⟩
    rcases hk with rfl | rfl
    · rw [if_pos rfl, e]
    · rw [if_neg rows_begin, if_pos rfl, e]
theorem df_step {n : Int} (h1 : n.natAbs < 10 ^ 60) : DF (.tuple [.str "step", .int n]) := by
  obtain ⟨w1, n1⟩ := wo_num (z := n) (k := 60) (by decide) h1
  have n1 := n1 (by decide)
  have l0 := wo_step.l
  have l1 := w1.l
  refine ⟨⟨_, rfl, fun x hx => ?_, by simp⟩, by show 2 ≤ 2; decide, fun w hm => ?_, ?_, ?_⟩
  · simp only [List.mem_cons, List.not_mem_nil, or_false] at hx
    rcases hx with rfl | rfl
    · exact .inr (.inr ⟨_, rfl⟩)
    · exact .inr (.inl ⟨_, rfl, h1⟩)
  · have hm2 : w ∈ [("step" : Str), zT n] := hm
    simp only [List.mem_cons, List.not_mem_nil, or_false] at hm2
    rcases hm2 with rfl | rfl
    · exact ⟨wo_step.a, wo_step.b, wo_step.n⟩
    · exact ⟨w1.a, w1.b, w1.n⟩
  · show WL [("step" : Str), zT n] ≤ 90
    rw [wl_cons, wl_cons, wl_nil]
    omega
  · show (if ("step" : Str) = "step" then stepP (zT n) else none) = _
    rw [if_pos rfl]
    unfold stepP
    rw [n1]; rfl
theorem df_put {top far : Int} {f : D} (h0 : 0 ≤ top) (h2 : top < 64) (h1 : far.natAbs < 10 ^ 60) (hf : f = .none ∨ ∃ z : Int, f = .int z ∧ -3 ≤ z ∧ z ≤ 3) : DF (.tuple [.str "put", .int top, .int far, f]) := by
  obtain ⟨w1, n1⟩ := wo_num (z := far) (k := 60) (by decide) h1
  obtain ⟨w2, n2⟩ := wo_num (z := top) (k := 2) (by decide) (by omega)
  have n1 := n1 (by decide)
  have n2 := n2 (by decide)
  have hfw : Wo (swD f) 5 ∧ SwK f ∧ putP (zT top) (zT far) (swD f) = some (.tuple [.str "put", .int top, .int far, f]) := by
    unfold putP
    rw [n1, n2]
    rcases hf with rfl | ⟨z, rfl, z1, z2⟩
    · exact ⟨wo_none, .inl rfl, if_pos rfl⟩
    · obtain ⟨w3, n3⟩ := wo_num (z := z) (k := 1) (by decide) (by omega)
      have n3 := n3 (by decide)
      refine ⟨⟨w3.a, w3.b, w3.n, Nat.le_trans w3.l (by decide)⟩, .inr (.inl ⟨_, rfl, by omega⟩), ?_⟩
      have hne : ¬ swD (.int z) = "none" := fun e => by
        have e' : zT z = "none" := e
        rw [e'] at n3
        rw [num_none] at n3; cases n3
      show (if swD (.int z) = "none" then _ else (numW (zT z)).map fun z => PyData.tuple [.str "put", .int top, .int far, .int z]) = _
      rw [if_neg hne, n3]; rfl
  obtain ⟨wf, kf, pf⟩ := hfw
  have l0 := wo_put.l
  have l1 := w1.l
  have l2 := w2.l
  have l3 := wf.l
  refine ⟨⟨_, rfl, fun x hx => ?_, by simp⟩, by show 2 ≤ 4; decide, fun w hm => ?_, ?_, ?_⟩
  · simp only [List.mem_cons, List.not_mem_nil, or_false] at hx
    rcases hx with rfl | rfl | rfl | rfl
    · exact .inr (.inr ⟨_, rfl⟩)
    · exact .inr (.inl ⟨_, rfl, by omega⟩)
    · exact .inr (.inl ⟨_, rfl, h1⟩)
    · exact kf
  · have hm2 : w ∈ [("put" : Str), zT top, zT far, swD f] := hm
    simp only [List.mem_cons, List.not_mem_nil, or_false] at hm2
    rcases hm2 with rfl | rfl | rfl | rfl
    · exact ⟨wo_put.a, wo_put.b, wo_put.n⟩
    · exact ⟨w2.a, w2.b, w2.n⟩
    · exact ⟨w1.a, w1.b, w1.n⟩
    · exact ⟨wf.a, wf.b, wf.n⟩
  · show WL [("put" : Str), zT top, zT far, swD f] ≤ 90
    rw [wl_cons, wl_cons, wl_cons, wl_cons, wl_nil]
    omega
  · show (if ("put" : Str) = "begin" then divP "begin" (zT top) (zT far) (swD f) else if ("put" : Str) = "rows" then divP "rows" (zT top) (zT far) (swD f) else if ("put" : Str) = "put" then putP (zT top) (zT far) (swD f) else none) = _
    rw [if_neg put_begin, if_neg put_rows, if_pos rfl, pf]
theorem DF.text {d : D} (h : DF d) : Txt.split (deedT d) " " = deedW d ∧ Asc (deedT d) ∧ (deedT d).length + 1 ≤ 90 ∧ 1 ≤ (deedT d).length ∧ 10 ∉ tl (deedT d) ∧ m_show_deed d = pu (.str (deedT d)) ∧ rowV (deedT d) = d ∧ Lay 1 d := by
  have two := h.two
  have hwl := h.wl
  have hne : deedW d ≠ [] := fun e => by rw [e] at two; simp at two
  have e1 : Txt.split (deedT d) " " = deedW d := split_join (s := 32) (S := []) jt_sp.e jt_sp.k hne fun w hw => (h.wo w hw).2.1
  obtain ⟨b1, b2⟩ := jt_sp.join_bd (deedW d)
  have b1' : (deedT d).length ≤ WL (deedW d) - 1 := b1
  obtain ⟨_, f2, _, _⟩ := jt_sp.facts (deedT d)
  rw [e1] at f2
  have b0 := WL_len (deedW d)
  refine ⟨e1, b2 fun w hw => (h.wo w hw).1, by omega, by omega, ?_, ?_, ?_, ?_⟩
  · intro hc
    have e : tl (deedT d) = joinL [32] ((deedW d).map tl) := by
      show tl (Txt.join " " (deedW d)) = _
      rw [join_eq, tl_join, jt_sp.e]
    rw [e] at hc
    rcases (join_bd 32 ((deedW d).map tl)).2 10 hc with z | ⟨p, hp, hc2⟩
    · cases z
    · obtain ⟨w, hw, rfl⟩ := List.mem_map.mp hp
      exact (h.wo w hw).2.2 hc2
  · obtain ⟨xs, rfl, hk, hl⟩ := h.tp
    unfold m_show_deed
    walk_at "ev"
    rw [lc_mapS46 (g := fun x => .str (swD x)) (fun _ _ => rfl) (fun x hx => by rw [e_show_word (hk x hx)]; rfl) (by omega), show xs.map (fun x => PyData.str (swD x)) = (xs.map swD).map PyData.str from by rw [List.map_map]; rfl]
    unfold SM.join
    have hj : ((xs.map swD).map fun s : Str => s.length).sum + (xs.map swD).length * (" " : Str).length ≤ 16777216 := by
      have : WL (xs.map swD) = ((xs.map swD).map fun s : Str => s.length).sum + (xs.map swD).length := rfl
      have hwl' : WL (xs.map swD) ≤ 90 := hwl
      rw [jt_len jt_sp]; omega
    rw [r_bd, show strO (.str " ") = some (" " : Str) from rfl, r_of, r_bd, r_bd, d_join hj, r_of, r_bd]
    rfl
  · unfold rowV
    rw [e1, h.back]; rfl
  · exact (deedP_tup h.back).choose_spec.2
end
section
open PySem PySem.Spec TL
theorem WL_le {c : Nat} {ys : List Str} (h : ∀ y ∈ ys, y.length ≤ c) : WL ys ≤ ys.length * (c + 1) := by
  have := sum_le ys h
  unfold WL
  rw [Nat.mul_succ]; omega
theorem for_app {μ ρ : Type} {r : D → D} {b : D → D → SM μ (Fl D D)} {K : Nat} : ∀ (xs : List D) (acc : List D), acc.length + xs.length ≤ K → (∀ x ∈ xs, ∀ acc : List D, acc.length < K → b x (.list acc) = pu (.nx (.list (acc ++ [r x])))) → (forS xs (.list acc) b : SM μ (Fl D ρ)) = pu (.nx (.list (acc ++ xs.map r)))
  | [], acc, _, _ => by rw [List.map_nil, List.append_nil]; rfl
  | x :: xs, acc, hK, h => by
    rw [List.length_cons] at hK
    show bd (b x (.list acc)) _ = _
    rw [h x (.head _) acc (by omega), pu_bd]
    show forS xs (.list (acc ++ [r x])) b = _
    rw [for_app xs _ (by rw [List.length_append, List.length_singleton]; omega) fun y hy => h y (.tail _ hy), List.append_assoc]; rfl
def deedsT (ds : List D) : Str := Txt.join "\n" (ds.map deedT)
noncomputable def deedTD : D → D := fun d => .str (deedT d)
theorem deeds_wl {ds : List D} (h : ∀ d ∈ ds, DF d) : WL (ds.map deedT) ≤ ds.length * 90 := by
  have := WL_le (ys := ds.map deedT) (c := 89) fun y hy => by
    obtain ⟨d, hd, rfl⟩ := List.mem_map.mp hy
    have := (h d hd).text.2.2.1
    omega
  rw [List.length_map] at this
  exact this
theorem deeds_text {ds : List D} (h : ∀ d ∈ ds, DF d) (hl : ds.length ≤ 599) : Asc (deedsT ds) ∧ (deedsT ds).length ≤ 53910 ∧ GoodX (deedsT ds) ∧ dsX (deedsT ds) = ds := by
  have hw := deeds_wl h
  have h1 : ds.length * 90 ≤ 599 * 90 := Nat.mul_le_mul_right _ hl
  obtain ⟨b1, b2⟩ := jt_nl.join_bd (ds.map deedT)
  have b1' : (deedsT ds).length ≤ WL (ds.map deedT) - 1 := b1
  have ha : Asc (deedsT ds) := b2 fun w hw => by
    obtain ⟨d, hd, rfl⟩ := List.mem_map.mp hw
    exact (h d hd).text.2.1
  refine ⟨ha, by omega, ?_⟩
  cases hds : ds with
  | nil =>
    have e0 : deedsT [] = "" := by decide +kernel
    rw [e0]
    exact ⟨.inl rfl, by unfold dsX; rw [if_pos rfl]⟩
  | cons d0 r =>
    rw [← hds]
    have hne : ds.map deedT ≠ [] := fun e => by rw [hds] at e; cases e
    have e1 : Txt.split (deedsT ds) "\n" = ds.map deedT := split_join (s := 10) (S := []) jt_nl.e jt_nl.k hne fun w hw => by
      obtain ⟨d, hd, rfl⟩ := List.mem_map.mp hw
      exact (h d hd).text.2.2.2.2.1
    have hn0 : ¬ deedsT ds = "" := fun e => by
      obtain ⟨_, f2, _, _⟩ := jt_nl.facts (deedsT ds)
      rw [e1, e, len_nilT, hds] at f2
      have h3 := (h d0 (by rw [hds]; exact .head _)).text.2.2.2.1
      rw [List.map_cons, List.map_cons, List.sum_cons, List.length_cons] at f2
      omega
    refine ⟨.inr fun line hline => ?_, ?_⟩
    · rw [e1] at hline
      obtain ⟨d, hd, rfl⟩ := List.mem_map.mp hline
      rw [(h d hd).text.1, (h d hd).back]; rfl
    · unfold dsX
      rw [if_neg hn0, e1, List.map_map]
      exact (List.map_congr_left (g := id) fun d hd => (h d hd).text.2.2.2.2.2.2.1).trans (List.map_id ds)
theorem join_ok {ds : List D} (h : ∀ d ∈ ds, DF d) (hl : ds.length ≤ 599) : ((ds.map deedT).map fun s : Str => s.length).sum + (ds.map deedT).length * ("\n" : Str).length ≤ 16777216 := by
  have hw := deeds_wl h
  have h1 : ds.length * 90 ≤ 599 * 90 := Nat.mul_le_mul_right _ hl
  have : WL (ds.map deedT) = ((ds.map deedT).map fun s : Str => s.length).sum + (ds.map deedT).length := rfl
  rw [jt_len jt_nl]; omega
theorem e_show_deeds {ds : List D} (h : ∀ d ∈ ds, DF d) (hl : ds.length ≤ 599) : m_show_deeds (.list ds) = pu (.str (deedsT ds)) := by
  unfold m_show_deeds
  walk_at "ev"
  rw [lc_mapS46 (g := deedTD) (fun _ _ => rfl) (fun x hx => by rw [(h x hx).text.2.2.2.2.2.1]; rfl) (by omega), show ds.map deedTD = (ds.map deedT).map PyData.str from by rw [List.map_map]; rfl]
  unfold SM.join
  rw [r_bd, show strO (.str "\n") = some ("\n" : Str) from rfl, r_of, r_bd, r_bd, d_join (join_ok h hl), r_of, r_bd]
  rfl
theorem d_appX46 {ds : List D} {x : D} (h : ds.length ≤ 1000000) : appD (.list ds) x = some (.list (ds ++ [x])) := if_pos (Nat.lt_of_le_of_lt h (by decide))
theorem e_law_textX {ds : List D} (h : ∀ d ∈ ds, DF d) (hl : ds.length ≤ 599) : m__law_text (.list ds) = pu (.str (deedsT ds)) := by
  unfold m__law_text
  walk_at "ev"
  rw [for_app (r := deedTD) (K := 1000000) _ [] (by rw [List.length_nil]; omega) fun x hx acc hacc => ?_]
  · walk_at "ev"
    rw [List.nil_append, show ds.map deedTD = (ds.map deedT).map PyData.str from by rw [List.map_map]; rfl]
    unfold SM.join
    rw [r_bd, show strO (.str "\n") = some ("\n" : Str) from rfl, r_of, r_bd, r_bd, d_join (join_ok h hl), r_of, r_bd]
    rfl
  · have hd := h x hx
    obtain ⟨xs, rfl, hk, hlx⟩ := hd.tp
    have hwl := hd.wl
    walk_at "ev"
    rw [lc_mapS46 (g := fun x => .str (swD x)) (fun _ _ => rfl) (fun x hx => by
      rcases hk x hx with rfl | ⟨z, rfl, hz⟩ | ⟨s, rfl⟩
      · walk_at "ev"
        rfl
      · walk_at "ev"
        rw [d_strX hz]
        rfl
      · rfl) (by omega), show xs.map (fun x => PyData.str (swD x)) = (xs.map swD).map PyData.str from by rw [List.map_map]; rfl]
    have hj : ((xs.map swD).map fun s : Str => s.length).sum + (xs.map swD).length * (" " : Str).length ≤ 16777216 := by
      have : WL (xs.map swD) = ((xs.map swD).map fun s : Str => s.length).sum + (xs.map swD).length := rfl
      have hwl' : WL (xs.map swD) ≤ 90 := hwl
      rw [jt_len jt_sp]; omega
    unfold SM.join
    rw [r_bd, show strO (.str " ") = some (" " : Str) from rfl, r_of, r_bd, r_bd, d_join hj, r_of, r_bd, d_appX46 (by omega)]
    rfl
/-- texts that write none -/
theorem spl_end (s : Nat) : ∀ (l acc : List Nat), [] ∈ spl [s] 0 acc (l ++ [s])
  | [], acc => by
    show [] ∈ spl [s] 0 acc [s]
    rw [spl_hit (by rw [pre1]; exact decide_eq_true rfl), show [s].length - 1 = 0 from rfl, spl_nil]
    exact .tail _ (.head _)
  | c :: l, acc => by
    rw [List.cons_append]
    by_cases h : c = s
    · rw [spl_hit (by rw [pre1, h]; exact decide_eq_true rfl), show [s].length - 1 = 0 from rfl]
      exact .tail _ (spl_end s l [])
    · rw [spl_miss (by rw [pre1]; exact decide_eq_false h)]
      exact spl_end s l (acc ++ [c])
theorem empty_in (x : Str) : ("" : Str) ∈ Txt.split (x ++ "\n") "\n" := by
  have h := jt_nl.spl (x ++ "\n")
  rw [tl_append, jt_nl.e] at h
  have h2 := spl_end 10 (tl x) []
  rw [← h] at h2
  obtain ⟨w, hw, e⟩ := List.mem_map.mp h2
  have : w = "" := ext_tl (by rw [e]; decide +kernel)
  rw [← this]; exact hw
theorem split_one {y w : Str} {s : Nat} (h : Jt y s) (hs : s ∉ tl w) : Txt.split w y = [w] := by
  have := split_join (s := s) (S := []) h.e h.k (parts := [w]) (by simp) (fun p hp => by rw [List.mem_singleton.mp hp]; exact hs)
  have e : Txt.join y [w] = w := by rw [join_eq]; rfl
  rw [e] at this
  exact this
theorem not_good_nl (x : Str) : ¬ GoodX (x ++ "\n") := by
  rintro (h | h)
  · have := congrArg (fun s : Str => s.length) h
    simp only [len_app, jt_len jt_nl, len_nilT] at this
    omega
  · have := h "" (empty_in x)
    rw [split_one jt_sp (by decide +kernel)] at this
    cases this
theorem not_good_one {w : Str} (h0 : ¬ w = "") (h1 : 10 ∉ tl w) (h2 : 32 ∉ tl w) : ¬ GoodX w := by
  rintro (h | h)
  · exact h0 h
  · have := h w (by rw [split_one jt_nl h1]; exact .head _)
    rw [split_one jt_sp h2] at this
    cases this
end
section
open PySem PySem.Spec TL
theorem c9 : powD (.int 10) (.int 9) = some (.int 1000000000) := by
  have := d_pow (a := 10) (k := 9) (by decide) (by decide)
  exact this
theorem ok_law_deeds {d : D} (hd : Dk d 0) : Ok m__law_deeds d fun y d' => ∃ ds : List D, y = .list ds ∧ ds.length ≤ 599 ∧ (∀ x ∈ ds, DF x) ∧ Dk d' 20000 := by
  unfold m__law_deeds
  refine ok_fin ?_
  walk_at "fj"
  rw [r_sqb]
  walk_at "pk"
  rintro _ d1 ⟨v1, rfl, v10, v11, hd1⟩
  rw [r_sqb]
  walk_at "pk"
  rintro _ d2 ⟨v2, rfl, v20, v21, hd2⟩
  walk_at "fj"
  obtain ⟨cnt, ecnt, c0, c1⟩ : ∃ cnt : Int, idxD (PyData.list [.int v1, .int 599]) (.int (if decide (v2 = 0) = true then 1 else 0)) = some (.int cnt) ∧ 0 ≤ cnt ∧ cnt ≤ 599 := by
    by_cases c : v2 = 0
    · rw [decide_eq_true c, if_pos rfl]; exact ⟨599, d_ixl1 _ _ _, by decide, by decide⟩
    · rw [decide_eq_false c, if_neg (by decide)]; exact ⟨v1, d_ixl0 _ _, v10, by omega⟩
  rw [ecnt]
  walk_at "fj"
  rw [d_rng1 (by omega) (by omega)]
  walk_at "fj"
  have hlen : (rgL 0 cnt).length ≤ 599 := by rw [rgL_len]; omega
  refine ok_sq ((ok_for (fun i (s : D) mm => ∃ ds : List D, s = .list ds ∧ ds.length = i ∧ (∀ x ∈ ds, DF x) ∧ Dk mm (2 + 20 * i)) ⟨[], rfl, rfl, (fun x h => by cases h), hd2.le (by omega)⟩ ?_).mono ?_)
  · rintro i x _ mm hx ⟨ds, rfl, hds1, hds2, hdk⟩
    have hi := (List.getElem?_eq_some_iff.mp hx).1
    walk_at "pk"
    rintro _ d3 ⟨kind, rfl, k0, k1, hd3⟩
    walk_at "fj"
    refine ok_bd (ok_qx (Ok.mono (show Ok (m__law_great (.int 60)) _ _ from ok_great (f := 60) hd3 (by omega) (by omega)) ?_))
    rintro _ d4 ⟨g, rfl, hg, hd4⟩
    walk_at "fj"
    walk_at "pk"
    rintro _ d5 ⟨v5, rfl, v50, v51, hd5⟩
    walk_at "fj"
    walk_at "pk"
    rintro _ d6 ⟨v6, rfl, v60, v61, hd6⟩
    obtain ⟨y, my, ey⟩ := ix_some (xs := [PyData.int (g : Int), .int v5, .int 0]) v60 (by show v6 < 3; omega)
    obtain ⟨a, rfl, ha⟩ : ∃ a : Int, y = .int a ∧ a.natAbs < 10 ^ 60 := by
      simp only [List.mem_cons, List.not_mem_nil, or_false] at my
      rcases my with e | e | e
      · exact ⟨_, e, by omega⟩
      · exact ⟨_, e, by omega⟩
      · exact ⟨_, e, by decide⟩
    rw [ey]
    walk_at "fj"
    walk_at "pk"
    rintro _ d7 ⟨v7, rfl, v70, v71, hd7⟩
    obtain ⟨y2, my2, ey2⟩ := ix_some (xs := [PyData.int 1, .int (-1)]) v70 (by show v7 < 2; omega)
    obtain ⟨sg, rfl, hsg⟩ : ∃ sg : Int, y2 = .int sg ∧ (sg = 1 ∨ sg = -1) := by
      simp only [List.mem_cons, List.not_mem_nil, or_false] at my2
      rcases my2 with e | e
      · exact ⟨_, e, .inl rfl⟩
      · exact ⟨_, e, .inr rfl⟩
    rw [ey2]
    walk_at "fj"
    have ha2 : a.natAbs < 2 ^ 200 := Nat.lt_of_lt_of_le ha (by decide)
    rw [d_mul (fit_of (n := 200) ha2 (by decide)) (fit_of (n := 4) (by rcases hsg with rfl | rfl <;> decide) (by decide))]
    walk_at "fj"
    have hfar : (a * sg).natAbs < 10 ^ 60 := by
      rcases hsg with rfl | rfl
      · rw [Int.mul_one]; exact ha
      · rw [show a * -1 = -a by omega, Int.natAbs_neg]; exact ha
    generalize a * sg = far at hfar
    have fin_ : ∀ {x : D} {d8 : D}, DF x → Dk d8 (2 + 20 * i + 20) → Ok (bd (of (appD (.list ds) x)) fun deeds1 => (pu (.nx deeds1) : SM D (Fl D D))) d8 fun o m' => ∃ s', (o = .nx s' ∨ o = .ct s') ∧ ∃ ds : List D, s' = .list ds ∧ ds.length = i + 1 ∧ (∀ x ∈ ds, DF x) ∧ Dk m' (2 + 20 * (i + 1)) := fun {x d8} hx hd8 => by
      rw [d_appX46 (by omega), r_of, r_bd]
      refine ok_pu ⟨_, .inl rfl, ds ++ [x], rfl, by rw [List.length_append, List.length_singleton, hds1], fun z hz => ?_, hd8.le (by omega)⟩
      rcases List.mem_append.mp hz with h | h
      · exact hds2 z h
      · rw [List.mem_singleton.mp h]; exact hx
    by_cases c2 : kind < 2
    · rw [decide_eq_true c2]
      walk_at "fj"
      walk_at "pk"
      rintro _ d8 ⟨v8, rfl, v80, v81, hd8⟩
      walk_at "pk"
      rintro _ d9 ⟨v9, rfl, v90, v91, hd9⟩
      obtain ⟨y3, my3, ey3⟩ := ix_some (xs := [PyData.int v8, .int 0, .int 250]) v90 (by show v9 < 3; omega)
      obtain ⟨many, rfl, m0, m1⟩ : ∃ many : Int, y3 = .int many ∧ 0 ≤ many ∧ many ≤ 250 := by
        simp only [List.mem_cons, List.not_mem_nil, or_false] at my3
        rcases my3 with e | e | e
        · exact ⟨_, e, v80, by omega⟩
        · exact ⟨_, e, by decide, by decide⟩
        · exact ⟨_, e, by decide, by decide⟩
      rw [ey3]
      walk_at "fj"
      obtain ⟨y4, my4, ey4⟩ := ix_some (xs := [PyData.str "begin", .str "rows"]) k0 (by show kind < 2; omega)
      obtain ⟨k, rfl, hk⟩ : ∃ k : Str, y4 = .str k ∧ (k = "begin" ∨ k = "rows") := by
        simp only [List.mem_cons, List.not_mem_nil, or_false] at my4
        rcases my4 with e | e
        · exact ⟨_, e, .inl rfl⟩
        · exact ⟨_, e, .inr rfl⟩
      rw [ey4, c9]
      walk_at "fj"
      refine ok_bd (ok_qx ((ok_pick hd9 (by omega) (by decide) (by decide)).mono ?_))
      rintro _ d10 ⟨v10', rfl, w0, w1, hd10⟩
      walk_at "fj"
      exact fin_ (df_div hk hfar (by omega) (by omega) m0 m1) (hd10.le (by omega))
    · rw [decide_eq_false c2]
      walk_at "fj"
      by_cases c4 : kind < 4
      · rw [decide_eq_true c4]
        walk_at "fj"
        walk_at "pk"
        rintro _ d8 ⟨v8, rfl, v80, v81, hd8⟩
        walk_at "pk"
        rintro _ d9 ⟨v9, rfl, v90, v91, hd9⟩
        obtain ⟨y3, my3, ey3⟩ := ix_some (xs := [PyData.int v8, .int far]) v90 (by show v9 < 2; omega)
        obtain ⟨n, rfl, hn⟩ : ∃ n : Int, y3 = .int n ∧ n.natAbs < 10 ^ 60 := by
          simp only [List.mem_cons, List.not_mem_nil, or_false] at my3
          rcases my3 with e | e
          · exact ⟨_, e, by omega⟩
          · exact ⟨_, e, hfar⟩
        rw [ey3]
        walk_at "fj"
        exact fin_ (df_step hn) (hd9.le (by omega))
      · rw [decide_eq_false c4]
        walk_at "fj"
        refine ok_bd (ok_qx ((ok_pick (k := 64) hd7 (by omega) (by decide) (by decide)).mono ?_))
        rintro _ d8 ⟨v8, rfl, v80, v81, hd8⟩
        walk_at "pk"
        rintro _ d9 ⟨v9, rfl, v90, v91, hd9⟩
        walk_at "fj"
        walk_at "pk"
        rintro _ d10 ⟨v10', rfl, w0, w1, hd10⟩
        obtain ⟨f, my3, ey3⟩ := ix_some (xs := [PyData.none, .int (3 - v9)]) w0 (by show v10' < 2; omega)
        have hf : f = .none ∨ ∃ z : Int, f = .int z ∧ -3 ≤ z ∧ z ≤ 3 := by
          simp only [List.mem_cons, List.not_mem_nil, or_false] at my3
          rcases my3 with e | e
          · exact .inl e
          · exact .inr ⟨_, e, by omega, by omega⟩
        rw [ey3]
        walk_at "fj"
        exact fin_ (df_put v80 v81 hfar hf) (hd10.le (by omega))
  · rintro _ mm ⟨s, rfl, ds, rfl, hds1, hds2, hdk⟩
    refine ⟨_, rfl, ok_pu ⟨_, .inl rfl, ds, rfl, by omega, hds2, hdk.le (by omega)⟩⟩
end
theorem int_get {fs : List Int} {i : Nat} {x : D} (h : (fs.map PyData.int)[i]? = some x) : ∃ hi : i < fs.length, x = .int fs[i] := by
  rw [List.getElem?_map] at h
  cases e : fs[i]? with
  | none => rw [e] at h; cases h
  | some f =>
    rw [e] at h
    cases h
    obtain ⟨hi, e2⟩ := List.getElem?_eq_some_iff.mp e
    exact ⟨hi, by rw [e2]⟩
section
open PySem PySem.Spec TL
theorem k_strstr : kitB "str" "str" = some true := by decide +kernel
theorem k_listlist : kitB "list" "list" = some true := by decide +kernel
theorem dsX_lay {text : Str} : Lay 2 (.list (dsX text)) := by
  unfold dsX
  split
  · exact lay_list fun x h => by cases h
  · exact lay_list fun x hx => by
      obtain ⟨line, _, rfl⟩ := List.mem_map.mp hx
      exact rowV_lay line
theorem dsX_len {text : Str} (hl : text.length ≤ 900000) : (dsX text).length ≤ 900001 := by
  obtain ⟨f1, _⟩ := jt_nl.facts text
  unfold dsX
  split
  · exact Nat.zero_le _
  · rw [List.length_map]; omega
end
theorem law_true : ∀ ns : List Int, ns.length ≤ 63 → (∀ z ∈ ns, Builtin.Int.intBits z ≤ 1048576) → ∃ m', m_law (scrD (ns.map .int)) (.none, .none) = .ok (.bool true) m' := fun ns hn _ => by
  have key : Ok (m_law (scrD (ns.map .int))) (.none, .none) fun x _ => x = .bool true := by
    unfold m_law
    refine ok_fin ?_
    walk_at "fj"
    rw [d_catS (by rw [List.length_map]; exact line_le (by show ns.length + 1 ≤ _; omega))]
    walk_at "fj"
    obtain ⟨z, hz⟩ : ∃ z : Int, idxD (.list (ns.map PyData.int ++ [.int 0])) (.int 0) = some (.int z) := by
      cases ns with
      | nil => exact ⟨0, d_ixl0 _ _⟩
      | cons y ys => exact ⟨y, d_ixl0 _ _⟩
    rw [hz]
    walk_at "fj"
    obtain ⟨dk, e, hd⟩ := ok_deck (c := z) (t := 0) (n := 0) (by omega) (by omega)
    rw [e]
    walk_at "fj"
    refine ok_putG rfl ?_
    refine ok_kD ((ok_law_deeds hd).mono ?_)
    rintro _ d1 ⟨ds, rfl, hds1, hds2, hd1⟩
    walk_at "fj"
    obtain ⟨ht1, ht2, ht3, ht4⟩ := deeds_text hds2 hds1
    have hLay : Lay 2 (.list ds) := lay_list fun x hx => (hds2 x hx).text.2.2.2.2.2.2.2
    rw [e_show_deeds hds2 hds1, e_law_textX hds2 hds1]
    walk_at "fj"
    rw [d_isi, show tyN (PyData.str (deedsT ds)) = "str" from rfl, k_strstr]
    walk_at "fj"
    rw [show ((some true).map PyData.bool) = some (PyData.bool true) from rfl]
    walk_at "fj"
    rw [d_neT ht1 ht1, decide_eq_true rfl]
    walk_at "fj"
    rw [d_neS (hLay.shaped (by decide))]
    walk_at "fj"
    obtain ⟨ms, hms, es2⟩ := sli_scr (lo := some 1) (hi := some 17) hn
    rw [es2]
    walk_at "fj"
    rw [d_cat (by rw [List.length_map]; exact line_le (by show ms.length + 1 ≤ _; omega))]
    walk_at "fj"
    rw [show (ms.map PyData.int ++ [.int 0]) = (ms ++ [0]).map .int by rw [List.map_append]; rfl]
    refine ok_sq ((ok_for (fun _ (_ : Unit) mm => ∃ (dk told : D), mm = (dk, told)) ⟨d1, .none, rfl⟩ ?_).mono ?_)
    · rintro i x _ _ hx ⟨dk2, told, rfl⟩
      obtain ⟨hi, rfl⟩ := int_get hx
      obtain ⟨dk3, e3, hd3⟩ := ok_deck (c := (ms ++ [0])[i]) (t := 7900) (n := 7900) (by omega) (by omega)
      rw [e3]
      walk_at "fj"
      refine ok_putG rfl ?_
      rw [r_sqb]
      refine ok_kD ((ok_pick hd3 (by omega) (by decide) (by decide)).mono ?_)
      rintro _ dk4 ⟨v, rfl, v0, v1, hd4⟩
      rw [d_rng1 (by omega) (by omega)]
      walk_at "fj"
      refine ok_sq ((ok_for (fun i (s : D) mm => ∃ (dk : D) (z : Str), mm = (dk, told) ∧ s = .str z ∧ Asc z ∧ z.length + 1 ≤ 2 ^ i * 53911 ∧ Dk dk (7901 + 7 * i)) ⟨dk4, _, rfl, rfl, ht1, by omega, hd4⟩ ?_).mono ?_)
      · rintro j y _ _ hy ⟨dk5, z, rfl, rfl, az, lz, hd5⟩
        have hj : j ≤ 2 := by
          have := (List.getElem?_eq_some_iff.mp hy).1
          rw [rgL_len] at this
          omega
        have h2 : 2 ^ j ≤ 2 ^ 2 := Nat.pow_le_pow_right (by decide) hj
        refine ok_kD ?_
        rw [r_u2]
        refine (ok_bent hd5 (by omega) az (by omega)).mono ?_
        rintro _ dk6 ⟨z2, rfl, az2, lz2, hd6⟩
        exact ok_pu ⟨_, .inl rfl, dk6, z2, rfl, rfl, az2, by rw [Nat.pow_succ]; omega, hd6.le (by omega)⟩
      rintro _ _ ⟨_, rfl, dk5, z, rfl, rfl, az, lz, hd5⟩
      refine ⟨_, rfl, ?_⟩
      have hlz : z.length ≤ 900000 := by
        rw [rgL_len] at lz
        have h2 : 2 ^ (v - 0).toNat ≤ 2 ^ 3 := Nat.pow_le_pow_right (by decide) (by omega)
        omega
      obtain ⟨r1, r2⟩ := e_law_readX az hlz
      obtain ⟨q1, q2⟩ := e_law_toldX az hlz
      rw [d_rng1 (by decide) (by decide)]
      by_cases hG : GoodX z
      · refine ok_kZ0 (ts := []) (m' := (dk5, told)) (by rw [r_u1]; exact r1 hG) rfl ?_
        walk_at "fj"
        refine ok_sq ((ok_for (fun _ (_ : Unit) mm => ∃ (told : D), mm = (dk5, told)) ⟨told, rfl⟩ ?_).mono ?_)
        · rintro j y _ _ hy ⟨told2, rfl⟩
          refine ok_kZ0 (ts := []) (m' := (dk5, told2)) (by rw [r_u1]; exact q1 hG) rfl ?_
          walk_at "fj"
          refine ok_putG rfl ?_
          walk_at "fj"
          refine ok_rdrB (c := false) ?_ ?_
          · walk_at "fj"
            rw [d_neT asc_nil asc_nil, decide_eq_true rfl]
            walk_at "fj"
            rw [d_isi, show tyN (PyData.list (dsX z)) = "list" from rfl, k_listlist]
            walk_at "fj"
            rw [show ((some true).map PyData.bool) = some (PyData.bool true) from rfl]
            walk_at "fj"
            rw [d_neS (dsX_lay.shaped (by decide))]
            walk_at "fj"
          walk_at "fj"
          refine ok_bd ⟨(), (dk5, .list (dsX z)), rfl, ?_⟩
          have hlx := dsX_len hlz
          refine ok_mdP (r := .list (dsX z)) (y := .list (dsX z ++ [.none])) rfl (d_appX46 (by omega)) rfl ?_
          exact ok_pu ⟨(), .inl rfl, _, rfl⟩
        · rintro _ _ ⟨_, rfl, told2, rfl⟩
          exact ⟨_, rfl, ok_pu ⟨(), .inl rfl, _, _, rfl⟩⟩
      · refine ok_kZ0 (ts := []) (m' := (dk5, told)) (by rw [r_u1]; exact r2 hG) rfl ?_
        walk_at "fj"
        refine ok_sq ((ok_for (fun _ (_ : Unit) mm => ∃ (told : D), mm = (dk5, told)) ⟨told, rfl⟩ ?_).mono ?_)
        · rintro j y _ _ hy ⟨told2, rfl⟩
          refine ok_kZ0 (ts := []) (m' := (dk5, told2)) (by rw [r_u1]; exact q2 hG) rfl ?_
          walk_at "fj"
          refine ok_putG rfl ?_
          walk_at "fj"
          refine ok_rdrB (c := false) ?_ ?_
          · walk_at "fj"
            rw [d_neT (by decide +kernel) (by decide +kernel), decide_eq_true rfl]
            walk_at "fj"
          walk_at "fj"
          exact ok_pu ⟨(), .inl rfl, _, rfl⟩
        · rintro _ _ ⟨_, rfl, told2, rfl⟩
          exact ⟨_, rfl, ok_pu ⟨(), .inl rfl, _, _, rfl⟩⟩
    rintro _ _ ⟨_, rfl, dk2, told, rfl⟩
    refine ⟨_, rfl, ?_⟩
    rw [d_addT (by rw [jt_len jt_nl]; omega)]
    walk_at "fj"
    refine ok_sq ((ok_for (fun _ (_ : Unit) mm => mm = (dk2, told)) rfl ?_).mono ?_)
    · rintro i x _ _ hx rfl
      have hmem := List.mem_of_getElem? hx
      obtain ⟨w, rfl, hw1, hw2, hw3⟩ : ∃ w : Str, x = .str w ∧ Asc w ∧ w.length ≤ 900000 ∧ ¬ GoodX w := by
        simp only [List.mem_cons, List.not_mem_nil, or_false] at hmem
        rcases hmem with e | e | e
        · exact ⟨_, e, asc_app ht1 (by decide +kernel), by rw [len_app, jt_len jt_nl]; omega, not_good_nl _⟩
        · exact ⟨_, e, by decide +kernel, by decide +kernel, not_good_one (by decide +kernel) (by decide +kernel) (by decide +kernel)⟩
        · exact ⟨_, e, by decide +kernel, by decide +kernel, not_good_one (by decide +kernel) (by decide +kernel) (by decide +kernel)⟩
      obtain ⟨_, q2⟩ := e_law_toldX hw1 hw2
      refine ok_kZ0 (ts := []) (m' := (dk2, told)) (by rw [r_u1]; exact q2 hw3) rfl ?_
      have h3 : Lay 1 (.tuple [.none, .str "NoText+"]) := lay_tup fun x hx => by
        simp only [List.mem_cons, List.not_mem_nil, or_false] at hx
        rcases hx with rfl | rfl
        · exact lay_none
        · exact lay_str (show Asc "NoText+" by decide +kernel).ok
      rw [d_neS (h3.shaped (by decide))]
      walk_at "fj"
      exact ok_pu ⟨(), .inl rfl, rfl⟩
    · rintro _ _ ⟨_, rfl, rfl⟩
      exact ⟨_, rfl, ok_pu ⟨_, .inl rfl, rfl⟩⟩
  obtain ⟨x, m', e, rfl⟩ := key
  exact ⟨m', e⟩
section
variable {P : Program} {w : World} {K : PySem.W.Frag} {mg : Str → Option Value} {base : Heap}
theorem ok_law (T : Txt K mg) : FnOk P w K mg base CX0 7 T.a_law T.fd_law ["script"] (sp_law K) := ok_law_of T law_true
end
theorem all_mk {l : PySem.W.OpenLaw} {w : World} {K : PySem.W.Frag} {h : Heap} {mg : Str → Option Value} {fa : Addr} (X : K.In h) (G : h.Ns mainGlobals mg) (hfa : mg "law" = some (.ref fa))
    {CNoText : Addr}
    {CNoFigure : Addr}
    {CNoLooks : Addr}
    {CNoRoom : Addr}
    {CNoRow : Addr}
    {CNoTable : Addr}
    {CSpoilt : Addr}
    {CNoMore : Addr}
    {CNoWork : Addr}
    {CNoCell : Addr}
    {CNoDeed : Addr}
    {CSlackError : Addr}
    {f0 : Addr} {od0 an0 : Option Addr} {sl0 : Array (Option Value)} {oc0 kV0 dc0 pm0 cd0 ct0 : Value}
    {f1 : Addr} {od1 an1 : Option Addr} {sl1 : Array (Option Value)} {oc1 kV1 dc1 pm1 cd1 ct1 : Value}
    {f2 : Addr} {od2 an2 : Option Addr} {sl2 : Array (Option Value)} {oc2 kV2 dc2 pm2 cd2 ct2 : Value}
    {f3 : Addr} {od3 an3 : Option Addr} {sl3 : Array (Option Value)} {oc3 kV3 dc3 pm3 cd3 ct3 : Value}
    {f4 : Addr} {od4 an4 : Option Addr} {sl4 : Array (Option Value)} {oc4 kV4 dc4 pm4 cd4 ct4 : Value}
    {f5 : Addr} {od5 an5 : Option Addr} {sl5 : Array (Option Value)} {oc5 kV5 dc5 pm5 cd5 ct5 : Value}
    {f6 : Addr} {od6 an6 : Option Addr} {sl6 : Array (Option Value)} {oc6 kV6 dc6 pm6 cd6 ct6 : Value}
    {f7 : Addr} {od7 an7 : Option Addr} {sl7 : Array (Option Value)} {oc7 kV7 dc7 pm7 cd7 ct7 : Value}
    {f8 : Addr} {od8 an8 : Option Addr} {sl8 : Array (Option Value)} {oc8 kV8 dc8 pm8 cd8 ct8 : Value}
    {f9 : Addr} {od9 an9 : Option Addr} {sl9 : Array (Option Value)} {oc9 kV9 dc9 pm9 cd9 ct9 : Value}
    {f10 : Addr} {od10 an10 : Option Addr} {sl10 : Array (Option Value)} {oc10 kV10 dc10 pm10 cd10 ct10 : Value}
    {f11 : Addr} {od11 an11 : Option Addr} {sl11 : Array (Option Value)} {oc11 kV11 dc11 pm11 cd11 ct11 : Value}
    {f12 : Addr} {od12 an12 : Option Addr} {sl12 : Array (Option Value)} {oc12 kV12 dc12 pm12 cd12 ct12 : Value}
    {f13 : Addr} {od13 an13 : Option Addr} {sl13 : Array (Option Value)} {oc13 kV13 dc13 pm13 cd13 ct13 : Value}
    {f14 : Addr} {od14 an14 : Option Addr} {sl14 : Array (Option Value)} {oc14 kV14 dc14 pm14 cd14 ct14 : Value}
    {f15 : Addr} {od15 an15 : Option Addr} {sl15 : Array (Option Value)} {oc15 kV15 dc15 pm15 cd15 ct15 : Value}
    {f16 : Addr} {od16 an16 : Option Addr} {sl16 : Array (Option Value)} {oc16 kV16 dc16 pm16 cd16 ct16 : Value}
    {f17 : Addr} {od17 an17 : Option Addr} {sl17 : Array (Option Value)} {oc17 kV17 dc17 pm17 cd17 ct17 : Value}
    {f18 : Addr} {od18 an18 : Option Addr} {sl18 : Array (Option Value)} {oc18 kV18 dc18 pm18 cd18 ct18 : Value}
    {f19 : Addr} {od19 an19 : Option Addr} {sl19 : Array (Option Value)} {oc19 kV19 dc19 pm19 cd19 ct19 : Value}
    {f20 : Addr} {od20 an20 : Option Addr} {sl20 : Array (Option Value)} {oc20 kV20 dc20 pm20 cd20 ct20 : Value}
    {f21 : Addr} {od21 an21 : Option Addr} {sl21 : Array (Option Value)} {oc21 kV21 dc21 pm21 cd21 ct21 : Value}
    {f22 : Addr} {od22 an22 : Option Addr} {sl22 : Array (Option Value)} {oc22 kV22 dc22 pm22 cd22 ct22 : Value}
    {gu0 : Value}
    {gu1 : Value}
    {gu2 : Value}
    (aCNoText : PySem.W.nsIn K mainGlobals "NoText" = some (some (.ref CNoText)))
    (aCNoFigure : PySem.W.nsIn K mainGlobals "NoFigure" = some (some (.ref CNoFigure)))
    (aCNoLooks : PySem.W.nsIn K mainGlobals "NoLooks" = some (some (.ref CNoLooks)))
    (aCNoRoom : PySem.W.nsIn K mainGlobals "NoRoom" = some (some (.ref CNoRoom)))
    (aCNoRow : PySem.W.nsIn K mainGlobals "NoRow" = some (some (.ref CNoRow)))
    (aCNoTable : PySem.W.nsIn K mainGlobals "NoTable" = some (some (.ref CNoTable)))
    (aCSpoilt : PySem.W.nsIn K mainGlobals "Spoilt" = some (some (.ref CSpoilt)))
    (aCNoMore : PySem.W.nsIn K mainGlobals "NoMore" = some (some (.ref CNoMore)))
    (aCNoWork : PySem.W.nsIn K mainGlobals "NoWork" = some (some (.ref CNoWork)))
    (aCNoCell : PySem.W.nsIn K mainGlobals "NoCell" = some (some (.ref CNoCell)))
    (aCNoDeed : PySem.W.nsIn K mainGlobals "NoDeed" = some (some (.ref CNoDeed)))
    (aCSlackError : PySem.W.nsIn K mainGlobals "SlackError" = some (some (.ref CSlackError)))
    (xb_SlackError : PySem.W.subIn K (.ref CSlackError) (.type "BaseException") = some true)
    (xd_SlackError : PySem.W.hasDictIn K CSlackError = true)
    (xt_SlackError : PySem.W.typeIn K (.ref CSlackError) = some (.type "type"))
    (xu_NoText_SlackError : PySem.W.subIn K (.ref CNoText) (.ref CSlackError) = some true)
    (kc_NoText : PySem.W.keepIn K (.ref CNoText) = true)
    (eb_NoText : PySem.W.subIn K (.ref CNoText) (.type "BaseException") = some true)
    (et_NoText : PySem.W.typeIn K (.ref CNoText) = some (.type "type"))
    (ed_NoText : PySem.W.hasDictIn K CNoText = true)
    (eg_NoText : PySem.W.findIn K (.ref CNoText) "__getattribute__" = some (some (.builtin "BaseException.__getattribute__")))
    (ek_NoText : PySem.W.findIn K (.ref CNoText) "__getattr__" = some none)
    (ea_NoText : PySem.W.findIn K (.ref CNoText) "__class__" = some (some (.builtin "object.__class__")))
    (em_NoText : PySem.W.mroIn K CNoText (.type "object") = some true)
    (xq_NoText : PySem.W.excIn K CNoText [.type "ValueError", .type "Exception", .type "BaseException", .type "object"] "ValueError.__new__" = true)
    (ss_NoText : PySem.W.subIn K (.ref CNoText) (.ref CNoText) = some true)
    (ii_NoText_NoFigure : PySem.W.subIn K (.ref CNoText) (.ref CNoFigure) = some false)
    (ii_NoText_NoLooks : PySem.W.subIn K (.ref CNoText) (.ref CNoLooks) = some false)
    (ii_NoText_NoRoom : PySem.W.subIn K (.ref CNoText) (.ref CNoRoom) = some false)
    (ii_NoText_NoRow : PySem.W.subIn K (.ref CNoText) (.ref CNoRow) = some false)
    (ii_NoText_NoTable : PySem.W.subIn K (.ref CNoText) (.ref CNoTable) = some false)
    (ii_NoText_NoText : PySem.W.subIn K (.ref CNoText) (.ref CNoText) = some true)
    (ii_NoText_Spoilt : PySem.W.subIn K (.ref CNoText) (.ref CSpoilt) = some false)
    (ii_NoText_NoMore : PySem.W.subIn K (.ref CNoText) (.ref CNoMore) = some false)
    (ii_NoText_NoWork : PySem.W.subIn K (.ref CNoText) (.ref CNoWork) = some false)
    (ii_NoText_NoCell : PySem.W.subIn K (.ref CNoText) (.ref CNoCell) = some false)
    (ii_NoText_NoDeed : PySem.W.subIn K (.ref CNoText) (.ref CNoDeed) = some false)
    (ii_NoText_ValueError : PySem.W.subIn K (.ref CNoText) (.type "ValueError") = some true)
    (id_NoFigure : PySem.W.hasDictIn K CNoFigure = true)
    (it_NoFigure : PySem.W.typeIn K (.ref CNoFigure) = some (.type "type"))
    (id_NoLooks : PySem.W.hasDictIn K CNoLooks = true)
    (it_NoLooks : PySem.W.typeIn K (.ref CNoLooks) = some (.type "type"))
    (id_NoRoom : PySem.W.hasDictIn K CNoRoom = true)
    (it_NoRoom : PySem.W.typeIn K (.ref CNoRoom) = some (.type "type"))
    (id_NoRow : PySem.W.hasDictIn K CNoRow = true)
    (it_NoRow : PySem.W.typeIn K (.ref CNoRow) = some (.type "type"))
    (id_NoTable : PySem.W.hasDictIn K CNoTable = true)
    (it_NoTable : PySem.W.typeIn K (.ref CNoTable) = some (.type "type"))
    (id_NoText : PySem.W.hasDictIn K CNoText = true)
    (it_NoText : PySem.W.typeIn K (.ref CNoText) = some (.type "type"))
    (id_Spoilt : PySem.W.hasDictIn K CSpoilt = true)
    (it_Spoilt : PySem.W.typeIn K (.ref CSpoilt) = some (.type "type"))
    (id_NoMore : PySem.W.hasDictIn K CNoMore = true)
    (it_NoMore : PySem.W.typeIn K (.ref CNoMore) = some (.type "type"))
    (id_NoWork : PySem.W.hasDictIn K CNoWork = true)
    (it_NoWork : PySem.W.typeIn K (.ref CNoWork) = some (.type "type"))
    (id_NoCell : PySem.W.hasDictIn K CNoCell = true)
    (it_NoCell : PySem.W.typeIn K (.ref CNoCell) = some (.type "type"))
    (id_NoDeed : PySem.W.hasDictIn K CNoDeed = true)
    (it_NoDeed : PySem.W.typeIn K (.ref CNoDeed) = some (.type "type"))
    (e_n : PySem.W.specialIn K (.builtin "object.__class__") "__get__" = some (some (.builtin "getset_descriptor.__get__")))
    (e_k : PySem.W.takesIn K (.builtin "object.__class__") = some true)
    (a0 : PySem.W.nsIn K mainGlobals "number_of" = some (some (.ref f0))) (l0 : K.lookup f0 = some ⟨oc0, od0, .func (PySem.W.fnOf "number_of" "number_of" (defArgs s_number_of) (defBody s_number_of) (defScope s_number_of) .none kV0 dc0 pm0 an0 cd0 ct0), sl0⟩) (c0 : PySem.W.codeIn K cd0 "number_of" = true) (k0 : PySem.W.keepIn K (.ref f0) = true)
    (a1 : PySem.W.nsIn K mainGlobals "show_word" = some (some (.ref f1))) (l1 : K.lookup f1 = some ⟨oc1, od1, .func (PySem.W.fnOf "show_word" "show_word" (defArgs s_show_word) (defBody s_show_word) (defScope s_show_word) .none kV1 dc1 pm1 an1 cd1 ct1), sl1⟩) (c1 : PySem.W.codeIn K cd1 "show_word" = true) (k1 : PySem.W.keepIn K (.ref f1) = true)
    (a2 : PySem.W.nsIn K mainGlobals "show_deed" = some (some (.ref f2))) (l2 : K.lookup f2 = some ⟨oc2, od2, .func (PySem.W.fnOf "show_deed" "show_deed" (defArgs s_show_deed) (defBody s_show_deed) (defScope s_show_deed) .none kV2 dc2 pm2 an2 cd2 ct2), sl2⟩) (c2 : PySem.W.codeIn K cd2 "show_deed" = true) (k2 : PySem.W.keepIn K (.ref f2) = true)
    (a3 : PySem.W.nsIn K mainGlobals "show_deeds" = some (some (.ref f3))) (l3 : K.lookup f3 = some ⟨oc3, od3, .func (PySem.W.fnOf "show_deeds" "show_deeds" (defArgs s_show_deeds) (defBody s_show_deeds) (defScope s_show_deeds) .none kV3 dc3 pm3 an3 cd3 ct3), sl3⟩) (c3 : PySem.W.codeIn K cd3 "show_deeds" = true) (k3 : PySem.W.keepIn K (.ref f3) = true)
    (a4 : PySem.W.nsIn K mainGlobals "read_number" = some (some (.ref f4))) (l4 : K.lookup f4 = some ⟨oc4, od4, .func (PySem.W.fnOf "read_number" "read_number" (defArgs s_read_number) (defBody s_read_number) (defScope s_read_number) .none kV4 dc4 pm4 an4 cd4 ct4), sl4⟩) (c4 : PySem.W.codeIn K cd4 "read_number" = true) (k4 : PySem.W.keepIn K (.ref f4) = true)
    (a5 : PySem.W.nsIn K mainGlobals "read_division" = some (some (.ref f5))) (l5 : K.lookup f5 = some ⟨oc5, od5, .func (PySem.W.fnOf "read_division" "read_division" (defArgs s_read_division) (defBody s_read_division) (defScope s_read_division) .none kV5 dc5 pm5 an5 cd5 ct5), sl5⟩) (c5 : PySem.W.codeIn K cd5 "read_division" = true) (k5 : PySem.W.keepIn K (.ref f5) = true)
    (a6 : PySem.W.nsIn K mainGlobals "read_deed" = some (some (.ref f6))) (l6 : K.lookup f6 = some ⟨oc6, od6, .func (PySem.W.fnOf "read_deed" "read_deed" (defArgs s_read_deed) (defBody s_read_deed) (defScope s_read_deed) .none kV6 dc6 pm6 an6 cd6 ct6), sl6⟩) (c6 : PySem.W.codeIn K cd6 "read_deed" = true) (k6 : PySem.W.keepIn K (.ref f6) = true)
    (a7 : PySem.W.nsIn K mainGlobals "read_deeds" = some (some (.ref f7))) (l7 : K.lookup f7 = some ⟨oc7, od7, .func (PySem.W.fnOf "read_deeds" "read_deeds" (defArgs s_read_deeds) (defBody s_read_deeds) (defScope s_read_deeds) .none kV7 dc7 pm7 an7 cd7 ct7), sl7⟩) (c7 : PySem.W.codeIn K cd7 "read_deeds" = true) (k7 : PySem.W.keepIn K (.ref f7) = true)
    (a8 : PySem.W.nsIn K mainGlobals "_law_deck" = some (some (.ref f8))) (l8 : K.lookup f8 = some ⟨oc8, od8, .func (PySem.W.fnOf "_law_deck" "_law_deck" (defArgs s__law_deck) (defBody s__law_deck) (defScope s__law_deck) .none kV8 dc8 pm8 an8 cd8 ct8), sl8⟩) (c8 : PySem.W.codeIn K cd8 "_law_deck" = true) (k8 : PySem.W.keepIn K (.ref f8) = true)
    (a9 : PySem.W.nsIn K mainGlobals "_law_pick" = some (some (.ref f9))) (l9 : K.lookup f9 = some ⟨oc9, od9, .func (PySem.W.fnOf "_law_pick" "_law_pick" (defArgs s__law_pick) (defBody s__law_pick) (defScope s__law_pick) .none kV9 dc9 pm9 an9 cd9 ct9), sl9⟩) (c9 : PySem.W.codeIn K cd9 "_law_pick" = true) (k9 : PySem.W.keepIn K (.ref f9) = true)
    (a10 : PySem.W.nsIn K mainGlobals "_law_great" = some (some (.ref f10))) (l10 : K.lookup f10 = some ⟨oc10, od10, .func (PySem.W.fnOf "_law_great" "_law_great" (defArgs s__law_great) (defBody s__law_great) (defScope s__law_great) .none kV10 dc10 pm10 an10 cd10 ct10), sl10⟩) (c10 : PySem.W.codeIn K cd10 "_law_great" = true) (k10 : PySem.W.keepIn K (.ref f10) = true)
    (a11 : PySem.W.nsIn K mainGlobals "_law_name_of" = some (some (.ref f11))) (l11 : K.lookup f11 = some ⟨oc11, od11, .func (PySem.W.fnOf "_law_name_of" "_law_name_of" (defArgs s__law_name_of) (defBody s__law_name_of) (defScope s__law_name_of) .none kV11 dc11 pm11 an11 cd11 ct11), sl11⟩) (c11 : PySem.W.codeIn K cd11 "_law_name_of" = true) (k11 : PySem.W.keepIn K (.ref f11) = true)
    (a12 : PySem.W.nsIn K mainGlobals "_law_signs" = some (some (.ref f12))) (l12 : K.lookup f12 = some ⟨oc12, od12, .func (PySem.W.fnOf "_law_signs" "_law_signs" (defArgs s__law_signs) (defBody s__law_signs) (defScope s__law_signs) .none kV12 dc12 pm12 an12 cd12 ct12), sl12⟩) (c12 : PySem.W.codeIn K cd12 "_law_signs" = true) (k12 : PySem.W.keepIn K (.ref f12) = true)
    (a13 : PySem.W.nsIn K mainGlobals "_law_sign_bent" = some (some (.ref f13))) (l13 : K.lookup f13 = some ⟨oc13, od13, .func (PySem.W.fnOf "_law_sign_bent" "_law_sign_bent" (defArgs s__law_sign_bent) (defBody s__law_sign_bent) (defScope s__law_sign_bent) .none kV13 dc13 pm13 an13 cd13 ct13), sl13⟩) (c13 : PySem.W.codeIn K cd13 "_law_sign_bent" = true) (k13 : PySem.W.keepIn K (.ref f13) = true)
    (a14 : PySem.W.nsIn K mainGlobals "_law_list_bent" = some (some (.ref f14))) (l14 : K.lookup f14 = some ⟨oc14, od14, .func (PySem.W.fnOf "_law_list_bent" "_law_list_bent" (defArgs s__law_list_bent) (defBody s__law_list_bent) (defScope s__law_list_bent) .none kV14 dc14 pm14 an14 cd14 ct14), sl14⟩) (c14 : PySem.W.codeIn K cd14 "_law_list_bent" = true) (k14 : PySem.W.keepIn K (.ref f14) = true)
    (a15 : PySem.W.nsIn K mainGlobals "_law_bent" = some (some (.ref f15))) (l15 : K.lookup f15 = some ⟨oc15, od15, .func (PySem.W.fnOf "_law_bent" "_law_bent" (defArgs s__law_bent) (defBody s__law_bent) (defScope s__law_bent) .none kV15 dc15 pm15 an15 cd15 ct15), sl15⟩) (c15 : PySem.W.codeIn K cd15 "_law_bent" = true) (k15 : PySem.W.keepIn K (.ref f15) = true)
    (a16 : PySem.W.nsIn K mainGlobals "_law_number" = some (some (.ref f16))) (l16 : K.lookup f16 = some ⟨oc16, od16, .func (PySem.W.fnOf "_law_number" "_law_number" (defArgs s__law_number) (defBody s__law_number) (defScope s__law_number) .none kV16 dc16 pm16 an16 cd16 ct16), sl16⟩) (c16 : PySem.W.codeIn K cd16 "_law_number" = true) (k16 : PySem.W.keepIn K (.ref f16) = true)
    (a17 : PySem.W.nsIn K mainGlobals "_law_deeds" = some (some (.ref f17))) (l17 : K.lookup f17 = some ⟨oc17, od17, .func (PySem.W.fnOf "_law_deeds" "_law_deeds" (defArgs s__law_deeds) (defBody s__law_deeds) (defScope s__law_deeds) .none kV17 dc17 pm17 an17 cd17 ct17), sl17⟩) (c17 : PySem.W.codeIn K cd17 "_law_deeds" = true) (k17 : PySem.W.keepIn K (.ref f17) = true)
    (a18 : PySem.W.nsIn K mainGlobals "_law_text" = some (some (.ref f18))) (l18 : K.lookup f18 = some ⟨oc18, od18, .func (PySem.W.fnOf "_law_text" "_law_text" (defArgs s__law_text) (defBody s__law_text) (defScope s__law_text) .none kV18 dc18 pm18 an18 cd18 ct18), sl18⟩) (c18 : PySem.W.codeIn K cd18 "_law_text" = true) (k18 : PySem.W.keepIn K (.ref f18) = true)
    (a19 : PySem.W.nsIn K mainGlobals "_law_read_row" = some (some (.ref f19))) (l19 : K.lookup f19 = some ⟨oc19, od19, .func (PySem.W.fnOf "_law_read_row" "_law_read_row" (defArgs s__law_read_row) (defBody s__law_read_row) (defScope s__law_read_row) .none kV19 dc19 pm19 an19 cd19 ct19), sl19⟩) (c19 : PySem.W.codeIn K cd19 "_law_read_row" = true) (k19 : PySem.W.keepIn K (.ref f19) = true)
    (a20 : PySem.W.nsIn K mainGlobals "_law_read" = some (some (.ref f20))) (l20 : K.lookup f20 = some ⟨oc20, od20, .func (PySem.W.fnOf "_law_read" "_law_read" (defArgs s__law_read) (defBody s__law_read) (defScope s__law_read) .none kV20 dc20 pm20 an20 cd20 ct20), sl20⟩) (c20 : PySem.W.codeIn K cd20 "_law_read" = true) (k20 : PySem.W.keepIn K (.ref f20) = true)
    (a21 : PySem.W.nsIn K mainGlobals "_law_told" = some (some (.ref f21))) (l21 : K.lookup f21 = some ⟨oc21, od21, .func (PySem.W.fnOf "_law_told" "_law_told" (defArgs s__law_told) (defBody s__law_told) (defScope s__law_told) .none kV21 dc21 pm21 an21 cd21 ct21), sl21⟩) (c21 : PySem.W.codeIn K cd21 "_law_told" = true) (k21 : PySem.W.keepIn K (.ref f21) = true)
    (a22 : PySem.W.nsIn K mainGlobals "law" = some (some (.ref f22))) (l22 : K.lookup f22 = some ⟨oc22, od22, .func (PySem.W.fnOf "law" "law" (defArgs s_law) (defBody s_law) (defScope s_law) .none kV22 dc22 pm22 an22 cd22 ct22), sl22⟩) (c22 : PySem.W.codeIn K cd22 "law" = true) (k22 : PySem.W.keepIn K (.ref f22) = true)
    (z0 : PySem.W.nsIn K mainGlobals "len" = some none)
    (z1 : PySem.W.nsIn K mainGlobals "all" = some none)
    (z2 : PySem.W.nsIn K mainGlobals "int" = some none)
    (z3 : PySem.W.nsIn K mainGlobals "str" = some none)
    (z4 : PySem.W.nsIn K mainGlobals "range" = some none)
    (z5 : PySem.W.nsIn K mainGlobals "isinstance" = some none)
    (z6 : PySem.W.nsIn K mainGlobals "ValueError" = some none)
    (z7 : PySem.W.nsIn K mainGlobals "zip" = some none)
    (z8 : PySem.W.nsIn K mainGlobals "tuple" = some none)
    (z9 : PySem.W.nsIn K mainGlobals "list" = some none)
    (g0a : PySem.W.nsIn K mainGlobals "DIGITS" = some (some gu0)) (g0r : RelV (.str "0123456789") gu0)
    (g1a : PySem.W.nsIn K mainGlobals "MOST_DIGITS" = some (some gu1)) (g1r : RelV (.int 60) gu1)
    (g2a : PySem.W.nsIn K mainGlobals "MOST_FIGURES" = some (some gu2)) (g2r : RelV (.int 250) gu2) :
    ∃ fd : FuncData, (∀ (s : Shared) (v : Value), BindsTo s fd ⟨[v], []⟩ [("script", v)]) ∧ ∀ base : Heap, K.In base → base.Ns mainGlobals mg → FnOk l.prog w K mg base CX0 7 fa fd ["script"] (sp_law K) := by
  have e := hfa.symm.trans (PySem.W.mg_of X G a22)
  cases e
  have F0 := fun_mk (st := s_number_of) l0 c0 k0
  have b0 := F0.binds (ps := ["word"]) fun _ _ _ _ _ _ us hl => by obtain ⟨_, rfl⟩ := ls1 (l := us) (by first | exact hl | exact hl.symm); rfl
  have F1 := fun_mk (st := s_show_word) l1 c1 k1
  have b1 := F1.binds (ps := ["thing"]) fun _ _ _ _ _ _ us hl => by obtain ⟨_, rfl⟩ := ls1 (l := us) (by first | exact hl | exact hl.symm); rfl
  have F2 := fun_mk (st := s_show_deed) l2 c2 k2
  have b2 := F2.binds (ps := ["deed"]) fun _ _ _ _ _ _ us hl => by obtain ⟨_, rfl⟩ := ls1 (l := us) (by first | exact hl | exact hl.symm); rfl
  have F3 := fun_mk (st := s_show_deeds) l3 c3 k3
  have b3 := F3.binds (ps := ["deeds"]) fun _ _ _ _ _ _ us hl => by obtain ⟨_, rfl⟩ := ls1 (l := us) (by first | exact hl | exact hl.symm); rfl
  have F4 := fun_mk (st := s_read_number) l4 c4 k4
  have b4 := F4.binds (ps := ["word"]) fun _ _ _ _ _ _ us hl => by obtain ⟨_, rfl⟩ := ls1 (l := us) (by first | exact hl | exact hl.symm); rfl
  have F5 := fun_mk (st := s_read_division) l5 c5 k5
  have b5 := F5.binds (ps := ["name", "words"]) fun _ _ _ _ _ _ us hl => by obtain ⟨_, _, rfl⟩ := ls2 (l := us) (by first | exact hl | exact hl.symm); rfl
  have F6 := fun_mk (st := s_read_deed) l6 c6 k6
  have b6 := F6.binds (ps := ["line"]) fun _ _ _ _ _ _ us hl => by obtain ⟨_, rfl⟩ := ls1 (l := us) (by first | exact hl | exact hl.symm); rfl
  have F7 := fun_mk (st := s_read_deeds) l7 c7 k7
  have b7 := F7.binds (ps := ["text"]) fun _ _ _ _ _ _ us hl => by obtain ⟨_, rfl⟩ := ls1 (l := us) (by first | exact hl | exact hl.symm); rfl
  have F8 := fun_mk (st := s__law_deck) l8 c8 k8
  have b8 := F8.binds (ps := ["cell", "turn"]) fun _ _ _ _ _ _ us hl => by obtain ⟨_, _, rfl⟩ := ls2 (l := us) (by first | exact hl | exact hl.symm); rfl
  have F9 := fun_mk (st := s__law_pick) l9 c9 k9
  have b9 := F9.binds (ps := ["deck", "many"]) fun _ _ _ _ _ _ us hl => by obtain ⟨_, _, rfl⟩ := ls2 (l := us) (by first | exact hl | exact hl.symm); rfl
  have F10 := fun_mk (st := s__law_great) l10 c10 k10
  have b10 := F10.binds (ps := ["deck", "figures"]) fun _ _ _ _ _ _ us hl => by obtain ⟨_, _, rfl⟩ := ls2 (l := us) (by first | exact hl | exact hl.symm); rfl
  have F11 := fun_mk (st := s__law_name_of) l11 c11 k11
  have b11 := F11.binds (ps := ["e"]) fun _ _ _ _ _ _ us hl => by obtain ⟨_, rfl⟩ := ls1 (l := us) (by first | exact hl | exact hl.symm); rfl
  have F12 := fun_mk (st := s__law_signs) l12 c12 k12
  have b12 := F12.binds (ps := []) fun _ _ _ _ _ _ us hl => by obtain rfl := ls0 (l := us) (by first | exact hl | exact hl.symm); rfl
  have F13 := fun_mk (st := s__law_sign_bent) l13 c13 k13
  have b13 := F13.binds (ps := ["deck", "text"]) fun _ _ _ _ _ _ us hl => by obtain ⟨_, _, rfl⟩ := ls2 (l := us) (by first | exact hl | exact hl.symm); rfl
  have F14 := fun_mk (st := s__law_list_bent) l14 c14 k14
  have b14 := F14.binds (ps := ["deck", "some"]) fun _ _ _ _ _ _ us hl => by obtain ⟨_, _, rfl⟩ := ls2 (l := us) (by first | exact hl | exact hl.symm); rfl
  have F15 := fun_mk (st := s__law_bent) l15 c15 k15
  have b15 := F15.binds (ps := ["deck", "text", "joints"]) fun _ _ _ _ _ _ us hl => by obtain ⟨_, _, _, rfl⟩ := ls3 (l := us) (by first | exact hl | exact hl.symm); rfl
  have F16 := fun_mk (st := s__law_number) l16 c16 k16
  have b16 := F16.binds (ps := ["word"]) fun _ _ _ _ _ _ us hl => by obtain ⟨_, rfl⟩ := ls1 (l := us) (by first | exact hl | exact hl.symm); rfl
  have F17 := fun_mk (st := s__law_deeds) l17 c17 k17
  have b17 := F17.binds (ps := ["deck"]) fun _ _ _ _ _ _ us hl => by obtain ⟨_, rfl⟩ := ls1 (l := us) (by first | exact hl | exact hl.symm); rfl
  have F18 := fun_mk (st := s__law_text) l18 c18 k18
  have b18 := F18.binds (ps := ["deeds"]) fun _ _ _ _ _ _ us hl => by obtain ⟨_, rfl⟩ := ls1 (l := us) (by first | exact hl | exact hl.symm); rfl
  have F19 := fun_mk (st := s__law_read_row) l19 c19 k19
  have b19 := F19.binds (ps := ["row"]) fun _ _ _ _ _ _ us hl => by obtain ⟨_, rfl⟩ := ls1 (l := us) (by first | exact hl | exact hl.symm); rfl
  have F20 := fun_mk (st := s__law_read) l20 c20 k20
  have b20 := F20.binds (ps := ["text"]) fun _ _ _ _ _ _ us hl => by obtain ⟨_, rfl⟩ := ls1 (l := us) (by first | exact hl | exact hl.symm); rfl
  have F21 := fun_mk (st := s__law_told) l21 c21 k21
  have b21 := F21.binds (ps := ["text"]) fun _ _ _ _ _ _ us hl => by obtain ⟨_, rfl⟩ := ls1 (l := us) (by first | exact hl | exact hl.symm); rfl
  have F22 := fun_mk (st := s_law) l22 c22 k22
  have b22 := F22.binds (ps := ["script"]) fun _ _ _ _ _ _ us hl => by obtain ⟨_, rfl⟩ := ls1 (l := us) (by first | exact hl | exact hl.symm); rfl
  let T : Txt K mg := { C_NoText := CNoText, g_NoText := PySem.W.mg_of X G aCNoText, C_NoFigure := CNoFigure, g_NoFigure := PySem.W.mg_of X G aCNoFigure, C_NoLooks := CNoLooks, g_NoLooks := PySem.W.mg_of X G aCNoLooks, C_NoRoom := CNoRoom, g_NoRoom := PySem.W.mg_of X G aCNoRoom, C_NoRow := CNoRow, g_NoRow := PySem.W.mg_of X G aCNoRow, C_NoTable := CNoTable, g_NoTable := PySem.W.mg_of X G aCNoTable, C_Spoilt := CSpoilt, g_Spoilt := PySem.W.mg_of X G aCSpoilt, C_NoMore := CNoMore, g_NoMore := PySem.W.mg_of X G aCNoMore, C_NoWork := CNoWork, g_NoWork := PySem.W.mg_of X G aCNoWork, C_NoCell := CNoCell, g_NoCell := PySem.W.mg_of X G aCNoCell, C_NoDeed := CNoDeed, g_NoDeed := PySem.W.mg_of X G aCNoDeed, C_SlackError := CSlackError, g_SlackError := PySem.W.mg_of X G aCSlackError, xb_SlackError := xb_SlackError, xd_SlackError := xd_SlackError, xt_SlackError := xt_SlackError, xu_NoText_SlackError := xu_NoText_SlackError, kc_NoText := kc_NoText, eb_NoText := eb_NoText, et_NoText := et_NoText, ed_NoText := ed_NoText, eg_NoText := eg_NoText, ek_NoText := ek_NoText, ea_NoText := ea_NoText, em_NoText := em_NoText, xq_NoText := xq_NoText, ss_NoText := ss_NoText, ii_NoText_NoFigure := ii_NoText_NoFigure, ii_NoText_NoLooks := ii_NoText_NoLooks, ii_NoText_NoRoom := ii_NoText_NoRoom, ii_NoText_NoRow := ii_NoText_NoRow, ii_NoText_NoTable := ii_NoText_NoTable, ii_NoText_NoText := ii_NoText_NoText, ii_NoText_Spoilt := ii_NoText_Spoilt, ii_NoText_NoMore := ii_NoText_NoMore, ii_NoText_NoWork := ii_NoText_NoWork, ii_NoText_NoCell := ii_NoText_NoCell, ii_NoText_NoDeed := ii_NoText_NoDeed, ii_NoText_ValueError := ii_NoText_ValueError, id_NoFigure := id_NoFigure, it_NoFigure := it_NoFigure, id_NoLooks := id_NoLooks, it_NoLooks := it_NoLooks, id_NoRoom := id_NoRoom, it_NoRoom := it_NoRoom, id_NoRow := id_NoRow, it_NoRow := it_NoRow, id_NoTable := id_NoTable, it_NoTable := it_NoTable, id_NoText := id_NoText, it_NoText := it_NoText, id_Spoilt := id_Spoilt, it_Spoilt := it_Spoilt, id_NoMore := id_NoMore, it_NoMore := it_NoMore, id_NoWork := id_NoWork, it_NoWork := it_NoWork, id_NoCell := id_NoCell, it_NoCell := it_NoCell, id_NoDeed := id_NoDeed, it_NoDeed := it_NoDeed, e_n := e_n, e_k := e_k, a_number_of := f0, fd_number_of := _, F_number_of := F0, m_number_of := PySem.W.mg_of X G a0, b_number_of := b0, a_show_word := f1, fd_show_word := _, F_show_word := F1, m_show_word := PySem.W.mg_of X G a1, b_show_word := b1, a_show_deed := f2, fd_show_deed := _, F_show_deed := F2, m_show_deed := PySem.W.mg_of X G a2, b_show_deed := b2, a_show_deeds := f3, fd_show_deeds := _, F_show_deeds := F3, m_show_deeds := PySem.W.mg_of X G a3, b_show_deeds := b3, a_read_number := f4, fd_read_number := _, F_read_number := F4, m_read_number := PySem.W.mg_of X G a4, b_read_number := b4, a_read_division := f5, fd_read_division := _, F_read_division := F5, m_read_division := PySem.W.mg_of X G a5, b_read_division := b5, a_read_deed := f6, fd_read_deed := _, F_read_deed := F6, m_read_deed := PySem.W.mg_of X G a6, b_read_deed := b6, a_read_deeds := f7, fd_read_deeds := _, F_read_deeds := F7, m_read_deeds := PySem.W.mg_of X G a7, b_read_deeds := b7, a__law_deck := f8, fd__law_deck := _, F__law_deck := F8, m__law_deck := PySem.W.mg_of X G a8, b__law_deck := b8, a__law_pick := f9, fd__law_pick := _, F__law_pick := F9, m__law_pick := PySem.W.mg_of X G a9, b__law_pick := b9, a__law_great := f10, fd__law_great := _, F__law_great := F10, m__law_great := PySem.W.mg_of X G a10, b__law_great := b10, a__law_name_of := f11, fd__law_name_of := _, F__law_name_of := F11, m__law_name_of := PySem.W.mg_of X G a11, b__law_name_of := b11, a__law_signs := f12, fd__law_signs := _, F__law_signs := F12, m__law_signs := PySem.W.mg_of X G a12, b__law_signs := b12, a__law_sign_bent := f13, fd__law_sign_bent := _, F__law_sign_bent := F13, m__law_sign_bent := PySem.W.mg_of X G a13, b__law_sign_bent := b13, a__law_list_bent := f14, fd__law_list_bent := _, F__law_list_bent := F14, m__law_list_bent := PySem.W.mg_of X G a14, b__law_list_bent := b14, a__law_bent := f15, fd__law_bent := _, F__law_bent := F15, m__law_bent := PySem.W.mg_of X G a15, b__law_bent := b15, a__law_number := f16, fd__law_number := _, F__law_number := F16, m__law_number := PySem.W.mg_of X G a16, b__law_number := b16, a__law_deeds := f17, fd__law_deeds := _, F__law_deeds := F17, m__law_deeds := PySem.W.mg_of X G a17, b__law_deeds := b17, a__law_text := f18, fd__law_text := _, F__law_text := F18, m__law_text := PySem.W.mg_of X G a18, b__law_text := b18, a__law_read_row := f19, fd__law_read_row := _, F__law_read_row := F19, m__law_read_row := PySem.W.mg_of X G a19, b__law_read_row := b19, a__law_read := f20, fd__law_read := _, F__law_read := F20, m__law_read := PySem.W.mg_of X G a20, b__law_read := b20, a__law_told := f21, fd__law_told := _, F__law_told := F21, m__law_told := PySem.W.mg_of X G a21, b__law_told := b21, a_law := fa, fd_law := _, F_law := F22, m_law := PySem.W.mg_of X G a22, b_law := b22, z_len := PySem.W.mg_none_of X G z0, z_all := PySem.W.mg_none_of X G z1, z_int := PySem.W.mg_none_of X G z2, z_str := PySem.W.mg_none_of X G z3, z_range := PySem.W.mg_none_of X G z4, z_isinstance := PySem.W.mg_none_of X G z5, z_ValueError := PySem.W.mg_none_of X G z6, z_zip := PySem.W.mg_none_of X G z7, z_tuple := PySem.W.mg_none_of X G z8, z_list := PySem.W.mg_none_of X G z9, u_DIGITS := gu0, m_DIGITS := PySem.W.mg_of X G g0a, r_DIGITS := g0r, u_MOST_DIGITS := gu1, m_MOST_DIGITS := PySem.W.mg_of X G g1a, r_MOST_DIGITS := g1r, u_MOST_FIGURES := gu2, m_MOST_FIGURES := PySem.W.mg_of X G g2a, r_MOST_FIGURES := g2r }
  exact ⟨PySem.W.fnOf "law" "law" (defArgs s_law) (defBody s_law) (defScope s_law) .none kV22 dc22 pm22 an22 cd22 ct22, fun s v => .of_eq rfl, fun base _ _ => ok_law T⟩
theorem walk {l : PySem.W.OpenLaw} {q : Program} {loose : List Str} {XP : (Str → Option Value) → Heap → Prop} {YP : World → Heap → Prop} {d : DefRec} {K : Params → PySem.W.Frag} (hn : l.most = some 63) (hdf : d.params.defaults = [])
    (hY : ∀ (w : World) (h : Heap), YP w h → (K w.params).In h)
    (F : ∀ (w : World) (mg : Str → Option Value) (fa : Addr) (h : Heap), (K w.params).In h → h.Ns mainGlobals mg → mg d.name = some (.ref fa) →
      ∃ fd : FuncData, (∀ (s : Shared) (u : Value), BindsTo s fd ⟨[u], []⟩ [("script", u)]) ∧ ∀ base : Heap, (K w.params).In base → base.Ns mainGlobals mg → FnOk l.prog w (K w.params) mg base CX0 7 fa fd ["script"] (sp_law (K w.params))) :
    PySem.W.WalkO q loose XP YP l.row.toRowW d [] (fun f vs => PySem.call f vs) :=
  L2.walk_ofB (n := 63) (k := 7) (x := "script") (CX := fun _ => CX0) (sp := fun w => sp_law (K w.params)) hn (by decide) hdf ⟨rfl, by decide, by decide⟩ hY F (fun _ _ a ns hl hb _ hS => ⟨a, ns, rfl, hS, hl, hb, fun _ => rfl⟩) fun _ _ _ _ _ z => z
end My
open PySem PySem.W PyProof.Rows
set_option maxRecDepth 100000 in
set_option maxHeartbeats 0 in
theorem PySem.Challenge.cw_slackfigures_k46_whole_texts_of_deeds_holds : PySem.Challenge.rw_slackfigures_k46_whole_texts_of_deeds.Holds := by
  w_on; o_law; k_head; (case hw => w_witness2)
  k_fill
  refine My.walk (l := PySem.Challenge.rw_slackfigures_k46_whole_texts_of_deeds) rfl rfl (fun w h Y => PySem.W.kIn_of Y) ?F
  case F =>
    intro w mg fa h KX G hmg
    refine' My.all_mk KX G hmg ?aCNoText ?aCNoFigure ?aCNoLooks ?aCNoRoom ?aCNoRow ?aCNoTable ?aCSpoilt ?aCNoMore ?aCNoWork ?aCNoCell ?aCNoDeed ?aCSlackError ?xb_SlackError ?xd_SlackError ?xt_SlackError ?xu_NoText_SlackError ?kc_NoText ?eb_NoText ?et_NoText ?ed_NoText ?eg_NoText ?ek_NoText ?ea_NoText ?em_NoText ?xq_NoText ?ss_NoText ?ii_NoText_NoFigure ?ii_NoText_NoLooks ?ii_NoText_NoRoom ?ii_NoText_NoRow ?ii_NoText_NoTable ?ii_NoText_NoText ?ii_NoText_Spoilt ?ii_NoText_NoMore ?ii_NoText_NoWork ?ii_NoText_NoCell ?ii_NoText_NoDeed ?ii_NoText_ValueError ?id_NoFigure ?it_NoFigure ?id_NoLooks ?it_NoLooks ?id_NoRoom ?it_NoRoom ?id_NoRow ?it_NoRow ?id_NoTable ?it_NoTable ?id_NoText ?it_NoText ?id_Spoilt ?it_Spoilt ?id_NoMore ?it_NoMore ?id_NoWork ?it_NoWork ?id_NoCell ?it_NoCell ?id_NoDeed ?it_NoDeed ?e_n ?e_k ?a0 ?l0 ?c0 ?k0 ?a1 ?l1 ?c1 ?k1 ?a2 ?l2 ?c2 ?k2 ?a3 ?l3 ?c3 ?k3 ?a4 ?l4 ?c4 ?k4 ?a5 ?l5 ?c5 ?k5 ?a6 ?l6 ?c6 ?k6 ?a7 ?l7 ?c7 ?k7 ?a8 ?l8 ?c8 ?k8 ?a9 ?l9 ?c9 ?k9 ?a10 ?l10 ?c10 ?k10 ?a11 ?l11 ?c11 ?k11 ?a12 ?l12 ?c12 ?k12 ?a13 ?l13 ?c13 ?k13 ?a14 ?l14 ?c14 ?k14 ?a15 ?l15 ?c15 ?k15 ?a16 ?l16 ?c16 ?k16 ?a17 ?l17 ?c17 ?k17 ?a18 ?l18 ?c18 ?k18 ?a19 ?l19 ?c19 ?k19 ?a20 ?l20 ?c20 ?k20 ?a21 ?l21 ?c21 ?k21 ?a22 ?l22 ?c22 ?k22 ?z0 ?z1 ?z2 ?z3 ?z4 ?z5 ?z6 ?z7 ?z8 ?z9 ?g0a ?g0r ?g1a ?g1r ?g2a ?g2r
    (case aCNoText => k_is)
    (case aCNoFigure => k_is)
    (case aCNoLooks => k_is)
    (case aCNoRoom => k_is)
    (case aCNoRow => k_is)
    (case aCNoTable => k_is)
    (case aCSpoilt => k_is)
    (case aCNoMore => k_is)
    (case aCNoWork => k_is)
    (case aCNoCell => k_is)
    (case aCNoDeed => k_is)
    (case aCSlackError => k_is)
    (case xb_SlackError => k_is)
    (case xd_SlackError => k_is)
    (case xt_SlackError => k_is)
    (case xu_NoText_SlackError => k_is)
    (case kc_NoText => k_is)
    (case eb_NoText => k_is)
    (case et_NoText => k_is)
    (case ed_NoText => k_is)
    (case eg_NoText => k_is)
    (case ek_NoText => k_is)
    (case ea_NoText => k_is)
    (case em_NoText => k_is)
    (case xq_NoText => first | k_is | k_exc)
    (case ss_NoText => first | rfl | k_is)
    (case ii_NoText_NoFigure => k_is)
    (case ii_NoText_NoLooks => k_is)
    (case ii_NoText_NoRoom => k_is)
    (case ii_NoText_NoRow => k_is)
    (case ii_NoText_NoTable => k_is)
    (case ii_NoText_NoText => first | rfl | k_is)
    (case ii_NoText_Spoilt => k_is)
    (case ii_NoText_NoMore => k_is)
    (case ii_NoText_NoWork => k_is)
    (case ii_NoText_NoCell => k_is)
    (case ii_NoText_NoDeed => k_is)
    (case ii_NoText_ValueError => k_is)
    (case id_NoFigure => k_is)
    (case it_NoFigure => k_is)
    (case id_NoLooks => k_is)
    (case it_NoLooks => k_is)
    (case id_NoRoom => k_is)
    (case it_NoRoom => k_is)
    (case id_NoRow => k_is)
    (case it_NoRow => k_is)
    (case id_NoTable => k_is)
    (case it_NoTable => k_is)
    (case id_NoText => k_is)
    (case it_NoText => k_is)
    (case id_Spoilt => k_is)
    (case it_Spoilt => k_is)
    (case id_NoMore => k_is)
    (case it_NoMore => k_is)
    (case id_NoWork => k_is)
    (case it_NoWork => k_is)
    (case id_NoCell => k_is)
    (case it_NoCell => k_is)
    (case id_NoDeed => k_is)
    (case it_NoDeed => k_is)
    (case e_n => k_is)
    (case e_k => k_is)
    (case a0 => k_is)
    (case l0 => k_is)
    (case c0 => k_is)
    (case k0 => k_is)
    (case a1 => k_is)
    (case l1 => k_is)
    (case c1 => k_is)
    (case k1 => k_is)
    (case a2 => k_is)
    (case l2 => k_is)
    (case c2 => k_is)
    (case k2 => k_is)
    (case a3 => k_is)
    (case l3 => k_is)
    (case c3 => k_is)
    (case k3 => k_is)
    (case a4 => k_is)
    (case l4 => k_is)
    (case c4 => k_is)
    (case k4 => k_is)
    (case a5 => k_is)
    (case l5 => k_is)
    (case c5 => k_is)
    (case k5 => k_is)
    (case a6 => k_is)
    (case l6 => k_is)
    (case c6 => k_is)
    (case k6 => k_is)
    (case a7 => k_is)
    (case l7 => k_is)
    (case c7 => k_is)
    (case k7 => k_is)
    (case a8 => k_is)
    (case l8 => k_is)
    (case c8 => k_is)
    (case k8 => k_is)
    (case a9 => k_is)
    (case l9 => k_is)
    (case c9 => k_is)
    (case k9 => k_is)
    (case a10 => k_is)
    (case l10 => k_is)
    (case c10 => k_is)
    (case k10 => k_is)
    (case a11 => k_is)
    (case l11 => k_is)
    (case c11 => k_is)
    (case k11 => k_is)
    (case a12 => k_is)
    (case l12 => k_is)
    (case c12 => k_is)
    (case k12 => k_is)
    (case a13 => k_is)
    (case l13 => k_is)
    (case c13 => k_is)
    (case k13 => k_is)
    (case a14 => k_is)
    (case l14 => k_is)
    (case c14 => k_is)
    (case k14 => k_is)
    (case a15 => k_is)
    (case l15 => k_is)
    (case c15 => k_is)
    (case k15 => k_is)
    (case a16 => k_is)
    (case l16 => k_is)
    (case c16 => k_is)
    (case k16 => k_is)
    (case a17 => k_is)
    (case l17 => k_is)
    (case c17 => k_is)
    (case k17 => k_is)
    (case a18 => k_is)
    (case l18 => k_is)
    (case c18 => k_is)
    (case k18 => k_is)
    (case a19 => k_is)
    (case l19 => k_is)
    (case c19 => k_is)
    (case k19 => k_is)
    (case a20 => k_is)
    (case l20 => k_is)
    (case c20 => k_is)
    (case k20 => k_is)
    (case a21 => k_is)
    (case l21 => k_is)
    (case c21 => k_is)
    (case k21 => k_is)
    (case a22 => k_is)
    (case l22 => k_is)
    (case c22 => k_is)
    (case k22 => k_is)
    (case z0 => k_is)
    (case z1 => k_is)
    (case z2 => k_is)
    (case z3 => k_is)
    (case z4 => k_is)
    (case z5 => k_is)
    (case z6 => k_is)
    (case z7 => k_is)
    (case z8 => k_is)
    (case z9 => k_is)
    (case g0a => k_is)
    (case g0r => first | exact rfl | exact ⟨_, rfl⟩ | k_is | decide)
    (case g1a => k_is)
    (case g1r => first | exact rfl | exact ⟨_, rfl⟩ | k_is | decide)
    (case g2a => k_is)
    (case g2r => first | exact rfl | exact ⟨_, rfl⟩ | k_is | decide)
