import PyProof.Rows.All
import Wide.All
import OpenK.AllK
import Wide.FinOn
import HandS.ForMost
import HandS.EndBits
import HandS.Wide
import HandS.WideBits
import HandS.IsInst
import HandS.Style
import HandS.Codes
import HandS.Text
import HandS.Conv
import PySem.Challenge.RW_slackfigures_k05_points_and_cells
set_option Elab.async false
set_option linter.all false
set_option maxRecDepth 100000
set_option maxHeartbeats 4000000
namespace My
open PySem L2
def top (i : Nat) : Stmt := PySem.Challenge.pw_slackfigures_k05_points_and_cells.main.body.getD i (.Pass ⟨0, 0, 0, 0⟩)
abbrev s_are_looks : Stmt := top 2
abbrev s_half_of : Stmt := top 3
abbrev s_first_top : Stmt := top 4
abbrev s_is_point : Stmt := top 6
abbrev s_cells_of : Stmt := top 7
abbrev s_serves : Stmt := top 8
abbrev s__law_deck : Stmt := top 10
abbrev s__law_pick : Stmt := top 11
abbrev s__law_kind : Stmt := top 12
abbrev s__law_great : Stmt := top 13
abbrev s__law_half : Stmt := top 14
abbrev s__law_numbers : Stmt := top 15
abbrev s__law_is_point : Stmt := top 16
abbrev s__law_shown_right : Stmt := top 17
abbrev s_law : Stmt := top 18
theorem sc_are_looks : FnScope ["kind", "looks", "tops", "parts"] ["kind", "looks"] (defScope s_are_looks) := ⟨rfl, rfl, rfl, by decide +kernel, rfl, by decide +kernel, by decide +kernel⟩
theorem sc_half_of : FnScope ["kind", "looks"] ["kind", "looks"] (defScope s_half_of) := ⟨rfl, rfl, rfl, by decide +kernel, rfl, by decide +kernel, by decide +kernel⟩
theorem sc_first_top : FnScope ["looks"] ["looks"] (defScope s_first_top) := ⟨rfl, rfl, rfl, by decide +kernel, rfl, by decide +kernel, by decide +kernel⟩
theorem sc_is_point : FnScope ["kind", "looks", "point", "base", "most", "tops", "parts", "wide", "divisor", "rest"] ["kind", "looks", "point"] (defScope s_is_point) := ⟨rfl, rfl, rfl, by decide +kernel, rfl, by decide +kernel, by decide +kernel⟩
theorem sc_cells_of : FnScope ["kind", "looks", "sight", "point", "tops", "parts", "wide", "divisor", "rest", "top", "look", "less"] ["kind", "looks", "sight", "point"] (defScope s_cells_of) := ⟨rfl, rfl, rfl, by decide +kernel, rfl, by decide +kernel, by decide +kernel⟩
theorem sc_serves : FnScope ["kind", "figure", "point", "base", "most", "divisor", "rest"] ["kind", "figure", "point"] (defScope s_serves) := ⟨rfl, rfl, rfl, by decide +kernel, rfl, by decide +kernel, by decide +kernel⟩
theorem sc__law_deck : FnScope ["cell", "turn"] ["cell", "turn"] (defScope s__law_deck) := ⟨rfl, rfl, rfl, by decide +kernel, rfl, by decide +kernel, by decide +kernel⟩
theorem sc__law_pick : FnScope ["deck", "many", "found", "number"] ["deck", "many"] (defScope s__law_pick) := ⟨rfl, rfl, rfl, by decide +kernel, rfl, by decide +kernel, by decide +kernel⟩
theorem sc__law_kind : FnScope ["deck", "base"] ["deck"] (defScope s__law_kind) := ⟨rfl, rfl, rfl, by decide +kernel, rfl, by decide +kernel, by decide +kernel⟩
theorem sc__law_great : FnScope ["deck", "figures", "size", "turn", "found"] ["deck", "figures"] (defScope s__law_great) := ⟨rfl, rfl, rfl, by decide +kernel, rfl, by decide +kernel, by decide +kernel⟩
theorem sc__law_half : FnScope ["kind", "looks"] ["kind", "looks"] (defScope s__law_half) := ⟨rfl, rfl, rfl, by decide +kernel, rfl, by decide +kernel, by decide +kernel⟩
theorem sc__law_numbers : FnScope ["deck", "kind", "looks", "wide", "size", "divisor", "reach", "unit", "rest", "odd"] ["deck", "kind", "looks"] (defScope s__law_numbers) := ⟨rfl, rfl, rfl, by decide +kernel, rfl, by decide +kernel, by decide +kernel⟩
theorem sc__law_is_point : FnScope ["kind", "looks", "point", "wide", "divisor", "rest"] ["kind", "looks", "point"] (defScope s__law_is_point) := ⟨rfl, rfl, rfl, by decide +kernel, rfl, by decide +kernel, by decide +kernel⟩
theorem sc__law_shown_right : FnScope ["kind", "looks", "point", "wide", "divisor", "rest", "top", "look", "sight", "due", "told", "marks", "figure", "far", "some", "k"] ["kind", "looks", "point"] (defScope s__law_shown_right) := ⟨rfl, rfl, rfl, by decide +kernel, rfl, by decide +kernel, by decide +kernel⟩
theorem sc_law : FnScope ["script", "deck", "kind", "turn", "looks", "told", "due", "half", "cell", "point"] ["script"] (defScope s_law) := ⟨rfl, rfl, rfl, by decide +kernel, rfl, by decide +kernel, by decide +kernel⟩
/-- what the top has left -/
structure Txt (K : PySem.W.Frag) (mg : Str → Option Value) where
  a_are_looks : Addr
  fd_are_looks : FuncData
  F_are_looks : Fun K "are_looks" "are_looks" s_are_looks a_are_looks fd_are_looks
  m_are_looks : mg "are_looks" = some (.ref a_are_looks)
  b_are_looks : Binds K fd_are_looks ["kind", "looks"] []
  a_half_of : Addr
  fd_half_of : FuncData
  F_half_of : Fun K "half_of" "half_of" s_half_of a_half_of fd_half_of
  m_half_of : mg "half_of" = some (.ref a_half_of)
  b_half_of : Binds K fd_half_of ["kind", "looks"] []
  a_first_top : Addr
  fd_first_top : FuncData
  F_first_top : Fun K "first_top" "first_top" s_first_top a_first_top fd_first_top
  m_first_top : mg "first_top" = some (.ref a_first_top)
  b_first_top : Binds K fd_first_top ["looks"] []
  a_is_point : Addr
  fd_is_point : FuncData
  F_is_point : Fun K "is_point" "is_point" s_is_point a_is_point fd_is_point
  m_is_point : mg "is_point" = some (.ref a_is_point)
  b_is_point : Binds K fd_is_point ["kind", "looks", "point"] []
  a_cells_of : Addr
  fd_cells_of : FuncData
  F_cells_of : Fun K "cells_of" "cells_of" s_cells_of a_cells_of fd_cells_of
  m_cells_of : mg "cells_of" = some (.ref a_cells_of)
  b_cells_of : Binds K fd_cells_of ["kind", "looks", "sight", "point"] []
  a_serves : Addr
  fd_serves : FuncData
  F_serves : Fun K "serves" "serves" s_serves a_serves fd_serves
  m_serves : mg "serves" = some (.ref a_serves)
  b_serves : Binds K fd_serves ["kind", "figure", "point"] []
  a__law_deck : Addr
  fd__law_deck : FuncData
  F__law_deck : Fun K "_law_deck" "_law_deck" s__law_deck a__law_deck fd__law_deck
  m__law_deck : mg "_law_deck" = some (.ref a__law_deck)
  b__law_deck : Binds K fd__law_deck ["cell", "turn"] []
  a__law_pick : Addr
  fd__law_pick : FuncData
  F__law_pick : Fun K "_law_pick" "_law_pick" s__law_pick a__law_pick fd__law_pick
  m__law_pick : mg "_law_pick" = some (.ref a__law_pick)
  b__law_pick : Binds K fd__law_pick ["deck", "many"] []
  a__law_kind : Addr
  fd__law_kind : FuncData
  F__law_kind : Fun K "_law_kind" "_law_kind" s__law_kind a__law_kind fd__law_kind
  m__law_kind : mg "_law_kind" = some (.ref a__law_kind)
  b__law_kind : Binds K fd__law_kind ["deck"] []
  a__law_great : Addr
  fd__law_great : FuncData
  F__law_great : Fun K "_law_great" "_law_great" s__law_great a__law_great fd__law_great
  m__law_great : mg "_law_great" = some (.ref a__law_great)
  b__law_great : Binds K fd__law_great ["deck", "figures"] []
  a__law_half : Addr
  fd__law_half : FuncData
  F__law_half : Fun K "_law_half" "_law_half" s__law_half a__law_half fd__law_half
  m__law_half : mg "_law_half" = some (.ref a__law_half)
  b__law_half : Binds K fd__law_half ["kind", "looks"] []
  a__law_numbers : Addr
  fd__law_numbers : FuncData
  F__law_numbers : Fun K "_law_numbers" "_law_numbers" s__law_numbers a__law_numbers fd__law_numbers
  m__law_numbers : mg "_law_numbers" = some (.ref a__law_numbers)
  b__law_numbers : Binds K fd__law_numbers ["deck", "kind", "looks"] []
  a__law_is_point : Addr
  fd__law_is_point : FuncData
  F__law_is_point : Fun K "_law_is_point" "_law_is_point" s__law_is_point a__law_is_point fd__law_is_point
  m__law_is_point : mg "_law_is_point" = some (.ref a__law_is_point)
  b__law_is_point : Binds K fd__law_is_point ["kind", "looks", "point"] []
  a__law_shown_right : Addr
  fd__law_shown_right : FuncData
  F__law_shown_right : Fun K "_law_shown_right" "_law_shown_right" s__law_shown_right a__law_shown_right fd__law_shown_right
  m__law_shown_right : mg "_law_shown_right" = some (.ref a__law_shown_right)
  b__law_shown_right : Binds K fd__law_shown_right ["kind", "looks", "point"] []
  a_law : Addr
  fd_law : FuncData
  F_law : Fun K "law" "law" s_law a_law fd_law
  m_law : mg "law" = some (.ref a_law)
  b_law : Binds K fd_law ["script"] []
  z_abs : mg "abs" = none
  z_range : mg "range" = none
  z_max : mg "max" = none
  z_min : mg "min" = none
  z_int : mg "int" = none
  z_isinstance : mg "isinstance" = none
  z_list : mg "list" = none
  z_bool : mg "bool" = none
  z_len : mg "len" = none
  u_MOST_CELLS : Value
  m_MOST_CELLS : mg "MOST_CELLS" = some u_MOST_CELLS
  r_MOST_CELLS : RelV (.int 20000) u_MOST_CELLS
section
variable {P : Program} {w : World} {K : PySem.W.Frag} {mg : Str → Option Value} {base : Heap}
local macro_rules | `(tactic| walk_at "rd1") => `(tactic| first
  | refine ⟨_, rfl, ?_⟩
  | refine ⟨_, _, rfl, rfl, ?_⟩
  | refine ⟨_, _, _, _, rfl, rfl, SqL.of (by assumption), rfl, ?_⟩
  | refine ⟨_, _, _, _, rfl, rfl, SqT.of (by assumption), rfl, ?_⟩
  | refine ⟨_, _, _, _, rfl, rfl, by assumption, rfl, ?_⟩
  | refine ⟨_, _, rfl, .inl (SqL.of (by assumption)), ?_⟩
  | refine ⟨_, _, rfl, ?_⟩
  | refine ⟨_, _, rfl, .inr (SqT.of (by assumption)), ?_⟩
  | refine ⟨(show (0 : Int) < _ by first | assumption | decide | omega), ?_⟩
  | refine ⟨(rfl : scal _ _ = true), ?_⟩
  | refine ⟨⟨by decide, by decide⟩, ?_⟩
  | refine ⟨⟨by decide, by decide, by decide⟩, ?_⟩
  | refine ⟨Or.inl ⟨by decide, by decide⟩, ?_⟩
  | refine ⟨Or.inr ⟨by decide, by decide⟩, ?_⟩
  | fail "rd")
local macro_rules | `(tactic| walk_at "rd") => `(tactic| (walk_at "rd1"; repeat walk_at "rd1"))
/-! ### heaps -/
/-- what stood at another place than a stands as it was -/
def Keep (a : Addr) (H H' : Hp) : Prop := ∀ b o, b ≠ a → H b = some o → H' b = some o
theorem Keep.refl (a : Addr) (H : Hp) : Keep a H H := fun _ _ _ h => h
theorem Keep.trans {a : Addr} {H H1 H2 : Hp} (x : Keep a H H1) (y : Keep a H1 H2) : Keep a H H2 := fun b o n h => y b o n (x b o n h)
theorem Keep.upd {a : Addr} {H : Hp} {o : HO} : Keep a H (upd H a o) := fun b u n h => by
  rw [upd_ne n]
  exact h
theorem Keep.new {a p : Addr} {H : Hp} {o : HO} (h : H p = none) : Keep a H (L2.upd H p o) := fun b u _ e => by
  rw [upd_ne (ne_of_none e h)]
  exact e
theorem Keep.same {a : Addr} {H H' : Hp} (h : Same H H') : Keep a H H' := fun b o _ e => h b o e
theorem same_new {H : Hp} {p : Addr} (h : H p = none) (o : HO) : Same H (upd H p o) := fun b u q => by
  rw [upd_ne (ne_of_none q h)]
  exact q
/-! ### + of lists that are read (the script among them) -/
section
open PySem.Spec PyProof.Rows
def rCatR (K : PySem.W.Frag) : R2 := fun x y H Q => ∃ l b us zs, x = .ref l ∧ y = .ref b ∧ SqL K H l us ∧ SqL K H b zs ∧ us.length + zs.length ≤ sizeLine ∧ ∀ p, H p = none → Q (.ref p) (upd H p (.lst (us ++ zs)))
theorem op_catR {X : Cx} : OpR X (binaryOp .Add) (rCatR X.K) := by
  intro pins sh sg H x y v u Q I rx ry hyp
  obtain ⟨l, b, us, zs, rfl, rfl, hl, hb, hz, q⟩ := hyp
  cases rx
  cases ry
  obtain ⟨i1, r1, p1, _⟩ := I.list hl
  obtain ⟨i2, r2, p2, _⟩ := I.list hb
  have n1 := r1.length
  have n2 := r2.length
  obtain ⟨⟨c1, d1, t1, s1⟩, g1, e1, m1, f1⟩ := p1.isList
  obtain ⟨⟨c2, d2, t2, s2⟩, g2, e2, m2, f2⟩ := p2.isList
  simp only at e1 f1 e2 f2
  subst e1 f1 e2 f2
  refine concat_meets ⟨_, g1, rfl⟩ ⟨_, g2, rfl⟩ noFill_list_add seq_list_add PySem.F.slot_list_add PySem.F.entry_list_add (PySem.F.args_list_add_2 _ _)
    (list_addW l b i1.toArray i2.toArray m1 m2 d1 d2 s1 s2 (by simp only [List.size_toArray]; omega)) ⟨g1, g2, ?_⟩
  rw [show i1.toArray ++ i2.toArray = (i1 ++ i2).toArray by simp]
  exact ⟨.ref _, _, I.lnew (t' := sh.toks) (r1.append r2) (by rw [List.length_append]; exact hz), rfl, q _ I.fresh⟩
end
/-! ### the deck -/
def Deck (H : Hp) (a : Addr) (n : Nat) : Prop := ∃ d0 d1 d2 : Int, H a = some (.lst [.int d0, .int d1, .int d2]) ∧ 0 ≤ d0 ∧ 0 ≤ d1 ∧ d1 < 2147483648 ∧ 0 ≤ d2 ∧ d2 ≤ n
theorem Deck.le {H : Hp} {a : Addr} {n m : Nat} (h : Deck H a n) (e : n ≤ m) : Deck H a m := by
  obtain ⟨d0, d1, d2, h1, h2, h3, h4, h5, h6⟩ := h
  exact ⟨d0, d1, d2, h1, h2, h3, h4, h5, by omega⟩
theorem Deck.same {H H' : Hp} {a : Addr} {n : Nat} (h : Deck H a n) (e : Same H H') : Deck H' a n := by
  obtain ⟨d0, d1, d2, h1, r⟩ := h
  exact ⟨d0, d1, d2, e _ _ h1, r⟩
theorem Deck.some {H : Hp} {a : Addr} {n : Nat} (h : Deck H a n) : ∃ o, H a = some o := by
  obtain ⟨d0, d1, d2, h1, r⟩ := h
  exact ⟨_, h1⟩
theorem Deck.ne {H : Hp} {a p : Addr} {n : Nat} (h : Deck H a n) (e : H p = none) : p ≠ a := by
  obtain ⟨d0, d1, d2, h1, r⟩ := h
  exact fun z => by rw [z, h1] at e; cases e
def sp__law_deck (K : PySem.W.Frag) : Sp := fun vs H Q _ => ∃ (c t : Int) (n : Nat), vs = [.int c, .int t] ∧ 0 ≤ t ∧ t ≤ n ∧
  ∀ p H', H p = none → Same H H' → Deck H' p n → Q (.ref p) H'
def sp__law_pick (K : PySem.W.Frag) : Sp := fun vs H Q _ => ∃ (a : Addr) (many : Int) (n : Nat), vs = [.ref a, .int many] ∧ Deck H a n ∧ n ≤ 1000000000 ∧ 0 < many ∧ many.natAbs.log2 < 9000 ∧
  ∀ v H', 0 ≤ v → v < many → Keep a H H' → Deck H' a (n + 1) → Q (.int v) H'
theorem ok__law_deck (T : Txt K mg) : FnOk P w K mg base CX0 1 T.a__law_deck T.fd__law_deck ["cell", "turn"] (sp__law_deck K) := by
  refine T.F__law_deck.ok sc__law_deck (fun vs H Q E h => ?_) (fun cdv A outer s H vs Q E hr h => ?_)
  · obtain ⟨c, t, n, rfl, _⟩ := h
    rfl
  obtain ⟨c, t, n, rfl, ht, htn, q⟩ := h
  refine ⟨_, (pss_cons (ps_if (pt_cmpR op_ge (pv 0) (pe_op op_pow pe_int pe_int) (nomark _)) (pss_one (ps_ret (pe_lst (pa_cons (pe_op op_sub (pv 0) (pe_op op_pow pe_int pe_int)) (pa_cons (pe_op op_mod (pv 0) pe_int) (pa_cons (pv 1) pa_nil)))))) pss_nil)
      (pss_one (ps_ret (pe_lst (pa_cons pe_int (pa_cons (pe_op op_mod (pv 0) pe_int) (pa_cons (pv 1) pa_nil))))))), ?_⟩
  walk_at "rd"
  have e18 : (10 : Int) ^ (18 : Int).toNat = 1000000000000000000 := by decide +kernel
  refine ite2 (fun c' => ?_) (fun _ => ?_)
  · have c1 : (10 : Int) ^ (18 : Int).toNat ≤ c := of_decide_eq_true c'
    walk_at "rd"
    refine ⟨by show 3 ≤ sizeLine; decide, fun p hp => ?_⟩
    refine q p _ hp (same_new hp _) ⟨_, _, _, upd_same, ?_, ?_, ?_, ht, htn⟩ <;> omega
  · walk_at "rd"
    refine ⟨by show 3 ≤ sizeLine; decide, fun p hp => ?_⟩
    refine q p _ hp (same_new hp _) ⟨_, _, _, upd_same, ?_, ?_, ?_, ht, htn⟩ <;> omega
theorem ok__law_pick (T : Txt K mg) : FnOk P w K mg base CX0 1 T.a__law_pick T.fd__law_pick ["deck", "many"] (sp__law_pick K) := by
  refine T.F__law_pick.ok sc__law_pick (fun vs H Q E h => ?_) (fun cdv A outer s H vs Q E hr h => ?_)
  · obtain ⟨a, many, n, rfl, _⟩ := h
    rfl
  obtain ⟨a, many, n, rfl, ⟨d0, d1, d2, hd, h0, h1, h1', h2, h2'⟩, hn, hm, hm', q⟩ := h
  refine ⟨_, (pss_cons (ps_if (pt_cmpR op_gt (pe_ix ix_list (pv 0) pe_int (fun _ _ => rfl)) pe_int (nomark _)) (pss_cons (ps_set (i := 2) sc__law_pick.nd rfl (Or.inl rfl) (pe_op op_mod (pe_ix ix_list (pv 0) pe_int (fun _ _ => rfl)) (pv 1)))
      (pss_cons (ps_asg (pe_op op_fdivW (pe_ix ix_list (pv 0) pe_int (fun _ _ => rfl)) (pv 1)) (pg_sub (pv 0) pe_int set_list))
      (pss_one (ps_ret (pv 2))))) pss_nil)
      (pss_cons (ps_asg (pe_op op_add (pe_ix ix_list (pv 0) pe_int (fun _ _ => rfl)) pe_int) (pg_sub (pv 0) pe_int set_list))
      (pss_cons (ps_set (i := 3) sc__law_pick.nd rfl (Or.inl rfl) (pe_op op_mod (pe_op op_pow (pe_op op_add (pe_ix ix_list (pv 0) pe_int (fun _ _ => rfl)) (pe_op op_mul pe_int (pe_ix ix_list (pv 0) pe_int (fun _ _ => rfl)))) pe_int) pe_int))
      (pss_cons (ps_set (i := 2) sc__law_pick.nd rfl (Or.inl rfl) (pe_op op_fdivW (pe_op op_mod (pe_op op_pow (pe_op op_add (pv 3) (pe_op op_mul pe_int (pe_ix ix_list (pv 0) pe_int (fun _ _ => rfl)))) pe_int) pe_int) pe_int))
      (pss_cons (ps_if (pt_cmpR op_gt (pv 1) pe_int (nomark _)) (pss_one (ps_ret (pe_op op_mod (pe_op op_add (pe_op op_mul (pv 2) pe_int) (pv 3)) (pv 1)))) pss_nil)
      (pss_one (ps_ret (pe_op op_mod (pv 2) (pv 1))))))))), ?_⟩
  walk_at "rd"
  refine ite2 (fun c => ?_) (fun c => ?_)
  · walk_at "rd"
    refine ⟨⟨hm, hm'⟩, ?_⟩
    walk_at "rd"
    exact q _ _ (Int.emod_nonneg _ (by omega)) (Int.emod_lt_of_pos _ hm) Keep.upd ⟨_, _, _, upd_same, Int.ediv_nonneg h0 (by omega), h1, h1', h2, by omega⟩
  · walk_at "rd"
    have hd2 : (upd H a (.lst ([V.int d0, .int d1, .int d2].set 2 (.int (d2 + 1))))) a = some (.lst [.int d0, .int d1, .int (d2 + 1)]) := upd_same
    walk_at "rd"
    refine ⟨⟨by decide, by decide, by omega⟩, ?_⟩
    walk_at "rd"
    refine ⟨⟨by decide, by decide, by omega⟩, ?_⟩
    walk_at "rd"
    refine ite2 (fun c2 => ?_) (fun c2 => ?_)
    · walk_at "rd"
      exact q _ _ (Int.emod_nonneg _ (by omega)) (Int.emod_lt_of_pos _ hm) Keep.upd ⟨_, _, _, upd_same, h0, h1, h1', by omega, by omega⟩
    · walk_at "rd"
      exact q _ _ (Int.emod_nonneg _ (by omega)) (Int.emod_lt_of_pos _ hm) Keep.upd ⟨_, _, _, upd_same, h0, h1, h1', by omega, by omega⟩
/-! ### a written list at a drawn place -/
theorem at_some {α : Type} {xs : List α} {i : Int} (h0 : 0 ≤ i) (h1 : i < xs.length) : ∃ y, atI xs i = some y ∧ y ∈ xs := by
  obtain ⟨k, rfl⟩ := Int.eq_ofNat_of_zero_le h0
  have hk : k < xs.length := by omega
  exact ⟨xs[k], atI_nat (List.getElem?_eq_getElem hk), List.getElem_mem hk⟩
theorem lt_pow {z : Int} (h0 : 0 ≤ z) (h : z < 2 ^ 63) : z.natAbs.log2 < 9000 := by
  by_cases e : z.natAbs = 0
  · rw [e]; decide
  · have h1 : z.natAbs < 2 ^ 63 := by omega
    have h2 := (Nat.log2_lt e).mpr h1
    omega
def sp__law_kind (K : PySem.W.Frag) : Sp := fun vs H Q _ => ∃ (a : Addr) (n : Nat), vs = [.ref a] ∧ Deck H a n ∧ n ≤ 900000000 ∧
  ∀ (p : Addr) (b m : Int) (H' : Hp), Keep a H H' → Deck H' a (n + 2) → H' p = some (.tup [.int b, .int m]) → (b = 2 ∨ b = 4 ∨ b = 8 ∨ b = 16) → b / 2 ≤ m → m ≤ b - 1 → Q (.ref p) H'
theorem ok__law_kind (T : Txt K mg) : FnOk P w K mg base CX0 2 T.a__law_kind T.fd__law_kind ["deck"] (sp__law_kind K) := by
  refine T.F__law_kind.ok sc__law_kind (fun vs H Q E h => ?_) (fun cdv A outer s H vs Q E hr h => ?_)
  · obtain ⟨a, n, rfl, _⟩ := h
    rfl
  obtain ⟨a, n, rfl, hd, hn, q⟩ := h
  refine ⟨_, (pss_cons (ps_set (i := 1) sc__law_kind.nd rfl (Or.inl rfl) (pe_ix ix_list (pe_lst (pa_cons pe_int (pa_cons pe_int (pa_cons pe_int (pa_cons pe_int (pa_cons pe_int pa_nil)))))) (pe_call (ok__law_pick T) (hr.mono (by first | decide | omega)) rfl T.m__law_pick T.F__law_pick.kp T.b__law_pick .nil pass0 (pa_cons (pv 0) (pa_cons pe_int pa_nil))) (fun _ _ => rfl)))
      (pss_one (ps_ret (pe_tup (pa_cons (pv 1) (pa_cons (pe_op op_add (pe_op op_fdiv (pv 1) pe_int) (pe_call (ok__law_pick T) (hr.mono (by first | decide | omega)) rfl T.m__law_pick T.F__law_pick.kp T.b__law_pick .nil pass0 (pa_cons (pv 0) (pa_cons (pe_op op_sub (pv 1) (pe_op op_fdiv (pv 1) pe_int)) pa_nil)))) pa_nil)))))), ?_⟩
  refine ⟨by show 5 ≤ sizeLine; decide, fun l hl => ?_⟩
  walk_at "rd"
  refine ⟨a, 5, n, rfl, hd.same (same_new hl _), by omega, by decide, lt_pow (by decide) (by decide), fun v H1 v0 v1 k1 d1 => ?_⟩
  have hl1 : H1 l = some (.lst [.int 2, .int 4, .int 4, .int 8, .int 16]) := k1 _ _ (hd.ne hl) upd_same
  obtain ⟨y, hy, my⟩ := at_some (xs := [V.int 2, .int 4, .int 4, .int 8, .int 16]) v0 (by show v < 5; omega)
  refine ⟨l, _, v, y, rfl, rfl, SqL.of hl1, hy, ?_⟩
  have hb : ∃ b : Int, y = .int b ∧ (b = 2 ∨ b = 4 ∨ b = 8 ∨ b = 16) := by
    simp only [List.mem_cons, List.not_mem_nil, or_false] at my
    rcases my with e | e | e | e | e <;> exact ⟨_, e, by decide⟩
  obtain ⟨b, rfl, hb⟩ := hb
  walk_at "rd"
  refine ⟨a, b - b / 2, n + 1, rfl, d1, by omega, by omega, lt_pow (by omega) (by omega), fun v2 H2 w0 w1 k2 d2 => ?_⟩
  walk_at "rd"
  refine ⟨by show 2 ≤ sizeLine; decide, fun p hp => ?_⟩
  refine q p b (b / 2 + v2) _ ?_ (d2.same (same_new hp _)) upd_same hb (by omega) (by omega)
  exact (Keep.new (a := a) hl).trans (k1.trans (k2.trans (Keep.new hp)))
/-! ### what is known of a heap beside the deck: facts that stay -/
structure Fact (a : Addr) where
  P : Hp → Prop
  mono : ∀ {H H' : Hp}, Keep a H H' → P H → P H'
def Fs (a : Addr) (H : Hp) : List (Fact a) → Prop
  | [] => True
  | f :: L => f.P H ∧ Fs a H L
theorem Fs.keep {a : Addr} {H H' : Hp} (k : Keep a H H') : ∀ {L : List (Fact a)}, Fs a H L → Fs a H' L
  | [], _ => trivial
  | f :: _, h => ⟨f.mono k h.1, Fs.keep k h.2⟩
theorem Fs.get {a : Addr} {H : Hp} {f : Fact a} : ∀ {L : List (Fact a)}, Fs a H L → f ∈ L → f.P H
  | _ :: _, h, .head _ => h.1
  | _ :: _, h, .tail _ m => Fs.get h.2 m
/-- the object o stands at p, which is not the deck -/
def At (a p : Addr) (o : HO) : Fact a := ⟨fun H => p ≠ a ∧ H p = some o, fun k h => ⟨h.1, k _ _ h.1 h.2⟩⟩
/-- p is no deck, and something stands there -/
def Bd (a p : Addr) : Fact a := ⟨fun H => p ≠ a ∧ ∃ o, H p = some o, fun k h => ⟨h.1, h.2.choose, k _ _ h.1 h.2.choose_spec⟩⟩
structure S (a : Addr) (n : Nat) (H : Hp) (L : List (Fact a)) : Prop where
  d : Deck H a n
  f : Fs a H L
namespace S
variable {a : Addr} {n m : Nat} {H H' : Hp} {L : List (Fact a)}
theorem le (s : S a n H L) (h : n ≤ m) : S a m H L := ⟨s.d.le h, s.f⟩
theorem keep (s : S a n H L) (k : Keep a H H') (d : Deck H' a m) : S a m H' L := ⟨d, s.f.keep k⟩
theorem same (s : S a n H L) (e : Same H H') : S a n H' L := ⟨s.d.same e, s.f.keep (Keep.same e)⟩
theorem get {f : Fact a} (s : S a n H L) (h : f ∈ L) : f.P H := s.f.get h
theorem at_ {p : Addr} {o : HO} (s : S a n H L) (h : At a p o ∈ L) : H p = some o := (s.f.get h).2
theorem ne_ {p : Addr} {o : HO} (s : S a n H L) (h : At a p o ∈ L) : p ≠ a := (s.f.get h).1
theorem add {f : Fact a} (s : S a n H L) (h : f.P H) : S a n H (f :: L) := ⟨s.d, h, s.f⟩
theorem drop {f : Fact a} (s : S a n H (f :: L)) : S a n H L := ⟨s.d, s.f.2⟩
theorem only {f : Fact a} (s : S a n H (f :: L)) : S a n H [f] := ⟨s.d, s.f.1, trivial⟩
theorem new {p : Addr} (s : S a n H L) (h : H p = none) (o : HO) : S a n (upd H p o) (At a p o :: L) :=
  (s.same (same_new h o)).add ⟨s.d.ne h, upd_same⟩
theorem fresh {p : Addr} {o : HO} (s : S a n H L) (h : H p = none) (e : Same H H') (h2 : H' p = some o) : S a n H' (At a p o :: L) :=
  (s.same e).add ⟨s.d.ne h, h2⟩
/-- behind a draw -/
theorem next {many : Int} {R : Int → Hp → Prop} (s : S a n H L) (k : ∀ (v : Int) (H' : Hp), 0 ≤ v → v < many → Keep a H H' → S a (n + 1) H' L → R v H') :
    ∀ (v : Int) (H' : Hp), 0 ≤ v → v < many → Keep a H H' → Deck H' a (n + 1) → R v H' := fun v H' v0 v1 kk d => k v H' v0 v1 kk (s.keep kk d)
/-- a displayed list, read at a drawn place -/
theorem choose {K : PySem.W.Frag} {xs : List V} {many : Int} {Q : VK} {p : Addr} (s : S a n H L) (hp : H p = none) (h1 : many ≤ xs.length)
    (k : ∀ (y : V) (H' : Hp), y ∈ xs → Keep a H H' → S a (n + 1) H' L → Q y H') :
    ∀ (v : Int) (H' : Hp), 0 ≤ v → v < many → Keep a (upd H p (.lst xs)) H' → Deck H' a (n + 1) → rIxL K (.ref p) (.int v) H' Q := by
  intro v H' v0 v1 kk d
  have s2 := (s.new hp (.lst xs)).keep kk d
  obtain ⟨y, hy, my⟩ := at_some (xs := xs) v0 (by omega)
  exact ⟨p, xs, v, y, rfl, rfl, SqL.of (s2.at_ (.head _)), hy, k y H' my ((Keep.new hp).trans kk) s2.drop⟩
theorem disp {o : HO} {R : Addr → Hp → Prop} (s : S a n H L) (k : ∀ p, H p = none → S a n (upd H p o) (At a p o :: L) → R p (upd H p o)) : ∀ p, H p = none → R p (upd H p o) := fun p hp => k p hp (s.new hp o)
end S
/-- a deck made -/
theorem S.of_deck {n : Nat} {H : Hp} {R : Addr → Hp → Prop} (k : ∀ (a : Addr) (H' : Hp), H a = none → Same H H' → S a n H' [] → R a H') :
    ∀ p H', H p = none → Same H H' → Deck H' p n → R p H' := fun p H' hp e d => k p H' hp e ⟨d, trivial⟩
/-! ### loops over range(n) -/
theorem for_range0 {n : Nat} {g : TG} {tb : TS} {D : Ends} {σ : L2.St} {H : Hp} (Pv : Nat → L2.St → Hp → Prop) (h0 : Pv 0 σ H)
    (hs : ∀ (i : Nat) σ H, i < n → Pv i σ H → g (.int (i : Int)) σ H fun σ2 H2 => tb { D with nx := Pv (i + 1), ct := Pv (i + 1), bk := D.nx } σ2 H2) (hd : ∀ σ H, Pv n σ H → D.nx σ H) :
    ∃ W : Nat → Nat → L2.St → Hp → Prop, (∃ m, W 0 m σ H) ∧ ∀ i m σ H, W i m σ H →
      ((Itr 0 n).stop i H ∧ D.nx σ H) ∨ ((Itr 0 n).go i H ∧ ∃ N : L2.St → Hp → Prop, (∀ σ' H', N σ' H' → ∃ m', m' < m ∧ W (i + 1) m' σ' H') ∧ ∀ x H', (Itr 0 n).yld i H x H' → g x σ H' fun σ2 H2 => tb { D with nx := N, ct := N, bk := D.nx } σ2 H2) :=
  for_range (lo := 0) Pv h0 (fun i σ H hi p => by rw [Int.zero_add]; exact hs i σ H hi p) hd
/-! ### the value of an operation under another name -/
theorem add_to {i j k : Int} {H : Hp} {Q : VK} (e : i + j = k) (q : Q (.int k) H) : rI0 (fun i j => V.int (i + j)) (.int i) (.int j) H Q := ⟨i, j, rfl, rfl, by
  show Q (.int (i + j)) H
  rw [e]; exact q⟩
theorem sub_to {i j k : Int} {H : Hp} {Q : VK} (e : i - j = k) (q : Q (.int k) H) : rI0 (fun i j => V.int (i - j)) (.int i) (.int j) H Q := ⟨i, j, rfl, rfl, by
  show Q (.int (i - j)) H
  rw [e]; exact q⟩
theorem rI_to {C : Int → Int → Prop} {g : Int → Int → Int} {i j k : Int} {H : Hp} {Q : VK} (c : C i j) (e : g i j = k) (q : Q (.int k) H) : rI C (fun i j => V.int (g i j)) (.int i) (.int j) H Q := ⟨i, j, rfl, rfl, c, by
  show Q (.int (g i j)) H
  rw [e]; exact q⟩
/-- n - 1 of a number from 1 on -/
theorem op_sub1N {X : Cx} : OpR X (binaryOp .Sub) (fun x y H Q => ∃ n : Nat, x = .int (n : Int) ∧ y = .int 1 ∧ 1 ≤ n ∧ Q (.int ((n - 1 : Nat) : Int)) H) := by
  intro pins s σ H x y v u Q I rx ry h
  obtain ⟨n, rfl, rfl, c, q⟩ := h
  have e : ((n - 1 : Nat) : Int) = (n : Int) - 1 := by omega
  rw [e] at q
  exact op_sub pins s σ H _ _ v u Q I rx ry ⟨_, _, rfl, rfl, q⟩
/-! ### tests that are decided -/
section
variable {c A B : Prop} [Decidable c] {i j : Int}
theorem iteY (h : c) (x : A) : if decide c = true then A else B := by rw [if_pos (decide_eq_true h)]; exact x
theorem iteN (h : ¬ c) (x : B) : if decide c = true then A else B := by rw [if_neg (by rw [decide_eq_false h]; decide)]; exact x
theorem iteY' (h : ¬ c) (x : A) : if (!decide c) = true then A else B := by rw [decide_eq_false h, if_pos (by decide)]; exact x
theorem iteN' (h : c) (x : B) : if (!decide c) = true then A else B := by rw [decide_eq_true h, if_neg (by decide)]; exact x
theorem iteVY (h : i = j) (x : A) : if decide (V.int i = V.int j) = true then A else B := iteY (by rw [h]) x
theorem iteVN (h : i ≠ j) (x : B) : if decide (V.int i = V.int j) = true then A else B := iteN (fun e => h (by injection e)) x
theorem iteVY' (h : i ≠ j) (x : A) : if (!decide (V.int i = V.int j)) = true then A else B := iteY' (fun e => h (by injection e)) x
theorem iteVN' (h : i = j) (x : B) : if (!decide (V.int i = V.int j)) = true then A else B := iteN' (by rw [h]) x
end
local macro_rules | `(tactic| walk_at "mem") => `(tactic| first
  | exact .head _
  | exact .tail _ (.head _)
  | exact .tail _ (.tail _ (.head _))
  | exact .tail _ (.tail _ (.tail _ (.head _)))
  | exact .tail _ (.tail _ (.tail _ (.tail _ (.head _))))
  | exact .tail _ (.tail _ (.tail _ (.tail _ (.tail _ (.head _)))))
  | exact .tail _ (.tail _ (.tail _ (.tail _ (.tail _ (.tail _ (.head _)))))))
local macro_rules | `(tactic| walk_at "rd1") => `(tactic| first
  | refine ⟨_, rfl, ?_⟩
  | refine ⟨_, _, rfl, rfl, ?_⟩
  | refine ⟨_, _, _, _, rfl, rfl, SqL.of (by assumption), rfl, ?_⟩
  | refine ⟨_, _, _, _, rfl, rfl, SqT.of (by assumption), rfl, ?_⟩
  | refine ⟨_, _, _, _, rfl, rfl, by assumption, rfl, ?_⟩
  | refine ⟨_, _, rfl, .inl (SqL.of (by assumption)), ?_⟩
  | refine ⟨_, _, rfl, ?_⟩
  | refine ⟨_, _, rfl, .inr (SqT.of (by assumption)), ?_⟩
  | refine And.intro (by first | omega | assumption) ?_
  | refine And.intro ⟨(show -(2 ^ 62) ≤ _ by omega), (by omega), (by omega), (by omega)⟩ ?_
  | refine ⟨(rfl : scal _ _ = true), ?_⟩
  | refine ⟨⟨by decide, by decide⟩, ?_⟩
  | refine ⟨⟨by decide, by decide, by decide⟩, ?_⟩
  | refine ⟨Or.inl ⟨by decide, by decide⟩, ?_⟩
  | refine ⟨Or.inr ⟨by decide, by decide⟩, ?_⟩
  | refine ⟨_, rfl, rfl, (by omega), ?_⟩
  | refine ⟨_, _, rfl, rfl, (by omega), ?_⟩
  | refine ⟨_, _, _, _, rfl, rfl, SqL.of (S.at_ (by assumption) (by walk_at "mem")), rfl, ?_⟩
  | refine ⟨_, _, _, _, rfl, rfl, SqT.of (S.at_ (by assumption) (by walk_at "mem")), rfl, ?_⟩
  | refine ⟨_, _, _, _, true, rfl, .ty _, .base (.tup (S.at_ (by assumption) (by walk_at "mem"))), kit_ty (by decide +kernel), ?_⟩
  | refine ⟨_, _, _, _, true, rfl, .ty _, .base (.lst (S.at_ (by assumption) (by walk_at "mem"))), kit_ty (by decide +kernel), ?_⟩
  | refine ⟨_, _, _, _, true, rfl, .ty _, .base (.tup (by assumption)), kit_ty (by decide +kernel), ?_⟩
  | refine ⟨_, _, _, _, true, rfl, .ty _, .base (.lst (by assumption)), kit_ty (by decide +kernel), ?_⟩
  | refine ⟨_, _, _, _, true, rfl, .ty _, .base (.bl _), kit_ty (by decide +kernel), ?_⟩
  | refine ⟨fun _ => True, _, rfl, .int _, ?_⟩
  | refine And.intro rfl ?_
  | refine ⟨_, _, rfl, (show SqT _ _ _ _ by assumption), rfl, ?_⟩
  | refine ⟨_, _, rfl, SqT.of (by assumption), rfl, ?_⟩
  | refine ⟨_, _, rfl, SqT.of (S.at_ (by assumption) (by walk_at "mem")), rfl, ?_⟩
  | refine ⟨Or.inl ⟨by omega, by omega⟩, ?_⟩
  | refine ⟨Or.inr ⟨by omega, by omega⟩, ?_⟩
  | fail "rd")
local macro_rules | `(tactic| walk_at "if") => `(tactic| first
  | refine iteY (by omega) ?_
  | refine iteN (by omega) ?_
  | refine iteY' (by omega) ?_
  | refine iteN' (by omega) ?_
  | refine iteVY (by omega) ?_
  | refine iteVN (by omega) ?_
  | refine iteVY' (by omega) ?_
  | refine iteVN' (by omega) ?_
  | refine iteT ?_
  | refine iteF ?_)
local macro_rules | `(tactic| walk_at "rs") => `(tactic| repeat walk_at "rd1")
local macro_rules | `(tactic| walk_at "go") => `(tactic| repeat (first | walk_at "rd1" | walk_at "if"))
local macro_rules | `(tactic| walk_at "pick") => `(tactic| (
  refine ⟨_, _, _, rfl, S.d (by assumption), (by omega), (by first | omega | decide +kernel), lt_pow (by first | omega | decide +kernel) (by first | omega | decide +kernel), ?_⟩
  refine S.next (by assumption) ?_))
local macro_rules | `(tactic| walk_at "choose") => `(tactic| (
  refine ⟨(by simp only [List.length_cons, List.length_nil]; decide), fun p hp => ?_⟩
  walk_at "rd"
  refine ⟨_, _, _, rfl, S.d (S.same (by assumption) (same_new hp _)), (by omega), (by decide), lt_pow (by decide) (by decide), ?_⟩
  refine S.choose (by assumption) hp (by simp only [List.length_cons, List.length_nil]; decide) ?_))
theorem Keep.mut {a r : Addr} {H H' : Hp} {o : HO} (k : Keep a H H') (h : H r = none) : Keep a H (L2.upd H' r o) := fun b u n e => by
  rw [upd_ne (ne_of_none e h)]
  exact k b u n e
theorem Deck.mut {a r : Addr} {H : Hp} {n : Nat} {o : HO} (d : Deck H a n) (h : r ≠ a) : Deck (upd H r o) a n := by
  obtain ⟨d0, d1, d2, h1, q⟩ := d
  exact ⟨d0, d1, d2, by rw [upd_ne (Ne.symm h)]; exact h1, q⟩
theorem nat_of {v : Int} (h : 0 ≤ v) : ∃ n : Nat, v = (n : Int) := Int.eq_ofNat_of_zero_le h
theorem Keep.none_of {a p : Addr} {H H' : Hp} {n : Nat} (k : Keep a H H') (d : Deck H' a n) (h : H' p = none) : H p = none := by
  cases e : H p with
  | none => rfl
  | some o => rw [k p o (d.ne h) e] at h; cases h
/-! ### things of any kind -/
inductive Th (B : Addr → Prop) (H : Hp) : V → Prop where
  | int (i : Int) : Th B H (.int i)
  | bl (b : Bool) : Th B H (.bl b)
  | non : Th B H .non
  | str (z : Str) : Th B H (.str z)
  | lst (p : Addr) (xs : List V) (n : B p) (h : H p = some (.lst xs)) (t : ∀ x ∈ xs, Th B H x) : Th B H (.ref p)
  | tup (p : Addr) (xs : List V) (n : B p) (h : H p = some (.tup xs)) (t : ∀ x ∈ xs, Th B H x) : Th B H (.ref p)
theorem Th.keep {B B' : Addr → Prop} {H H' : Hp} {v : V} (k : ∀ p o, B p → H p = some o → H' p = some o) (e : ∀ p, B p → B' p) (h : Th B H v) : Th B' H' v := by
  induction h with
  | int i => exact .int i
  | bl b => exact .bl b
  | non => exact .non
  | str z => exact .str z
  | lst p xs n h t ih => exact .lst p xs (e p n) (k _ _ n h) ih
  | tup p xs n h t ih => exact .tup p xs (e p n) (k _ _ n h) ih
def isI : V → Bool
  | .int _ => true
  | _ => false
def sp_isI (K : PySem.W.Frag) : Sp := fun vs H Q _ => ∃ (B : Addr → Prop) (v : V), vs = [v] ∧ Th B H v ∧ Q (.bl (isI v)) H
/-! ### worths of pairs: the mathematics -/
/-- the worth by the size S -/
def pwS (S t : Int) : Int := if 2 * (t % S) < S then t % S else t % S - S
/-- the law's own -/
def lwS (S t : Int) : Int := if t % S ≥ S - S / 2 then t % S - S else t % S
theorem two_pos (k : Nat) : (0 : Int) < 2 ^ k := by
  have h := Nat.two_pow_pos k
  have e : (2 : Int) ^ k = ((2 ^ k : Nat) : Int) := by rw [Int.natCast_pow]; rfl
  rw [e]; omega
theorem two_cast (k : Nat) : (2 : Int) ^ k = ((2 ^ k : Nat) : Int) := by rw [Int.natCast_pow]; rfl
theorem div2 {i : Int} {l : Nat} (h : l < 9000) : CDivW i (2 ^ l) := ⟨two_pos l, by
  rw [two_cast, Int.natAbs_natCast, Nat.log2_two_pow]; exact h⟩
theorem two_even {w : Nat} (h : 1 ≤ w) : (2 : Int) ^ w = 2 * 2 ^ (w - 1) := by
  obtain ⟨k, rfl⟩ : ∃ k, w = k + 1 := ⟨w - 1, by omega⟩
  rw [Int.pow_succ, Nat.add_sub_cancel]; omega
theorem lw_pw {S t : Int} (h : ∃ Z, S = 2 * Z) : lwS S t = pwS S t := by
  obtain ⟨Z, rfl⟩ := h
  unfold lwS pwS
  generalize t % (2 * Z) = r
  by_cases c : 2 * r < 2 * Z
  · rw [if_pos c, if_neg (by omega)]
  · rw [if_neg c, if_pos (by omega)]
theorem lw_pw2 {w : Nat} {t : Int} (h : 1 ≤ w) : lwS (2 ^ w) t = pwS (2 ^ w) t := lw_pw ⟨_, two_even h⟩
theorem pw_range {S t : Int} (h : 0 < S) : -S ≤ 2 * pwS S t ∧ 2 * pwS S t < S := by
  have h1 := Int.emod_nonneg t (b := S) (by omega)
  have h2 := Int.emod_lt_of_pos t h
  unfold pwS
  split <;> omega
theorem pw_cong (S t : Int) : ∃ k, pwS S t = t + k * S := by
  have h := Int.emod_add_mul_ediv t S
  unfold pwS
  split
  · exact ⟨-(t / S), by rw [Int.neg_mul, Int.mul_comm (t / S)]; omega⟩
  · refine ⟨-(t / S) - 1, ?_⟩
    rw [Int.sub_mul, Int.neg_mul, Int.mul_comm (t / S)]; omega
theorem pw_mod {S t t' : Int} (h : t % S = t' % S) : pwS S t = pwS S t' := by
  unfold pwS; rw [h]
theorem pw_addmod {S a b : Int} : pwS S (a + b % S) = pwS S (a + b) := pw_mod (by rw [Int.add_emod, Int.emod_emod, ← Int.add_emod])
theorem mulk {k S x : Int} (h : 0 < S) (h1 : -(2 * S) < x) (h2 : x < S) (e : x = k * S) : k = 0 ∨ k = -1 := by
  rcases Int.lt_trichotomy k 0 with c | c | c
  · by_cases c2 : k = -1
    · exact .inr c2
    · have := Int.mul_le_mul_of_nonneg_right (show k ≤ -2 by omega) (Int.le_of_lt h)
      omega
  · exact .inl c
  · have := Int.mul_le_mul_of_nonneg_right (show 1 ≤ k by omega) (Int.le_of_lt h)
    omega
/-- the look and the worth -/
theorem look_right {V u a b : Int} (hV : 0 < V) (hu : 0 < u) (hZ : ∃ Z, V = 2 * Z) (h : pwS (V * u) (a + b) ≥ u - V * u / 2) :
    pwS V (a / u + b / u) * u ≤ pwS (V * u) (a + b) ∧ pwS (V * u) (a + b) ≤ pwS V (a / u + b / u) * u + 2 * u - 2 := by
  obtain ⟨Z, rfl⟩ := hZ
  have hS : 0 < 2 * Z * u := Int.mul_pos hV hu
  have r1 := pw_range (t := a + b) hS
  have r2 := pw_range (t := a / u + b / u) hV
  obtain ⟨k1, e1⟩ := pw_cong (2 * Z * u) (a + b)
  obtain ⟨k2, e2⟩ := pw_cong (2 * Z) (a / u + b / u)
  have ea := Int.emod_add_mul_ediv a u
  have eb := Int.emod_add_mul_ediv b u
  have a1 := Int.emod_nonneg a (b := u) (by omega)
  have a2 := Int.emod_lt_of_pos a hu
  have b1 := Int.emod_nonneg b (b := u) (by omega)
  have b2 := Int.emod_lt_of_pos b hu
  generalize pwS (2 * Z * u) (a + b) = F at *
  generalize pwS (2 * Z) (a / u + b / u) = L at *
  generalize a / u = A at *
  generalize b / u = B at *
  generalize a % u = x at *
  generalize b % u = y at *
  have e3 : L * u = u * A + u * B + k2 * (2 * Z * u) := by
    rw [e2, Int.add_mul, Int.add_mul, Int.mul_comm A, Int.mul_comm B, Int.mul_assoc k2]
  have e4 : F - L * u - (x + y) = (k1 - k2) * (2 * Z * u) := by
    rw [Int.sub_mul]; omega
  have hL1 : -(Z * u) ≤ L * u := by
    have := Int.mul_le_mul_of_nonneg_right (show -Z ≤ L by omega) (Int.le_of_lt hu)
    rw [Int.neg_mul] at this; exact this
  have hL2 : L * u ≤ Z * u - u := by
    have := Int.mul_le_mul_of_nonneg_right (show L ≤ Z - 1 by omega) (Int.le_of_lt hu)
    rw [Int.sub_mul, Int.one_mul] at this; exact this
  have eZ : 2 * Z * u = 2 * (Z * u) := by rw [Int.mul_assoc]
  have hu' : u ≤ Z * u := by
    have := Int.mul_le_mul_of_nonneg_right (show 1 ≤ Z by omega) (Int.le_of_lt hu)
    rw [Int.one_mul] at this; exact this
  rw [eZ] at e4 r1 h hS
  generalize L * u = Lu at *
  generalize Z * u = M at *
  rcases mulk hS (by omega) (by omega) e4 with c | c <;> rw [c] at e4 <;> omega
/-- two looks at the same -/
theorem look_near {V u a b t : Int} (hV : 0 < V) (hu : 0 < u) (h : t % (V * u) = (a + b) % (V * u)) :
    ((t % (V * u)) / u - pwS V (a / u + b / u)) % V = 0 ∨ ((t % (V * u)) / u - pwS V (a / u + b / u)) % V = 1 % V := by
  obtain ⟨k2, e2⟩ := pw_cong V (a / u + b / u)
  have ea := Int.emod_add_mul_ediv a u
  have eb := Int.emod_add_mul_ediv b u
  have a1 := Int.emod_nonneg a (b := u) (by omega)
  have a2 := Int.emod_lt_of_pos a hu
  have b1 := Int.emod_nonneg b (b := u) (by omega)
  have b2 := Int.emod_lt_of_pos b hu
  have e0 := Int.emod_add_mul_ediv (a + b) (V * u)
  rw [h]
  have e1 : (a + b) % (V * u) = (a % u + b % u) + u * (a / u + b / u - V * ((a + b) / (V * u))) := by
    rw [Int.mul_sub, Int.mul_add, ← Int.mul_assoc u V, Int.mul_comm u V]; omega
  have e5 : (a + b) % (V * u) / u = (a % u + b % u) / u + (a / u + b / u - V * ((a + b) / (V * u))) := by
    rw [e1, Int.add_mul_ediv_left _ _ (by omega)]
  rw [e5, e2]
  have e6 : (a % u + b % u) / u + (a / u + b / u - V * ((a + b) / (V * u))) - (a / u + b / u + k2 * V) = (a % u + b % u) / u + V * (-((a + b) / (V * u)) - k2) := by
    rw [Int.mul_sub, Int.mul_neg, Int.mul_comm V k2]; omega
  rw [e6, Int.add_mul_emod_self_left]
  by_cases c : a % u + b % u < u
  · left
    rw [Int.ediv_eq_zero_of_lt (by omega) c]
    exact Int.zero_emod _
  · right
    have e7 : (a % u + b % u) / u = 1 := by
      clear ea eb e0 e1 e5 e6 e2
      generalize a % u = a at *
      generalize b % u = b at *
      have := Int.add_mul_ediv_left (a + b - u) (b := u) 1 (by omega)
      rw [Int.mul_one, Int.sub_add_cancel, Int.ediv_eq_zero_of_lt (a := a + b - u) (by omega) (by omega)] at this
      omega
    rw [e7]
/-! three in two -/
def maj (a b c : Nat) : Nat := a &&& b ||| a &&& c ||| b &&& c
theorem csa (a : Nat) : ∀ b c : Nat, (a ^^^ b ^^^ c) + 2 * maj a b c = a + b + c := by
  induction a using Nat.strongRecOn with
  | _ a ih =>
    intro b c
    by_cases h0 : a = 0
    · subst h0
      induction b using Nat.strongRecOn generalizing c with
      | _ b ihb =>
        by_cases hb : b = 0
        · subst hb
          simp [maj]
        · have h := ihb (b / 2) (by omega) (c / 2)
          unfold maj at h ⊢
          rw [Nat.zero_xor, Nat.zero_and, Nat.zero_and, Nat.zero_or, Nat.zero_or] at h ⊢
          rw [← Nat.xor_div_two, ← Nat.and_div_two] at h
          have o1 := @Nat.xor_mod_two_eq_one b c
          have a1 := @Nat.and_mod_two_eq_one b c
          omega
    · have h := ih (a / 2) (by omega) (b / 2) (c / 2)
      unfold maj at h ⊢
      rw [← Nat.xor_div_two, ← Nat.xor_div_two, ← Nat.and_div_two, ← Nat.and_div_two, ← Nat.and_div_two, ← Nat.or_div_two, ← Nat.or_div_two] at h
      have o1 := @Nat.xor_mod_two_eq_one a b
      have o2 := @Nat.xor_mod_two_eq_one (a ^^^ b) c
      have a1 := @Nat.and_mod_two_eq_one a b
      have a2 := @Nat.and_mod_two_eq_one a c
      have a3 := @Nat.and_mod_two_eq_one b c
      have r1 := @Nat.or_mod_two_eq_one (a &&& b) (a &&& c)
      have r2 := @Nat.or_mod_two_eq_one (a &&& b ||| a &&& c) (b &&& c)
      omega
theorem xor_bit (a b c k : Nat) : (a ^^^ b ^^^ c) / 2 ^ k % 2 = (a / 2 ^ k % 2 + b / 2 ^ k % 2 + c / 2 ^ k % 2) % 2 := by
  rw [← Nat.shiftRight_eq_div_pow, ← Nat.shiftRight_eq_div_pow, ← Nat.shiftRight_eq_div_pow, ← Nat.shiftRight_eq_div_pow, Nat.shiftRight_xor_distrib, Nat.shiftRight_xor_distrib]
  have o1 := @Nat.xor_mod_two_eq_one (a >>> k) (b >>> k)
  have o2 := @Nat.xor_mod_two_eq_one (a >>> k ^^^ b >>> k) (c >>> k)
  omega
theorem maj_bit (a b c k : Nat) : maj a b c / 2 ^ k % 2 = (a / 2 ^ k % 2 + b / 2 ^ k % 2 + c / 2 ^ k % 2) / 2 := by
  unfold maj
  rw [← Nat.shiftRight_eq_div_pow, ← Nat.shiftRight_eq_div_pow, ← Nat.shiftRight_eq_div_pow, ← Nat.shiftRight_eq_div_pow, Nat.shiftRight_or_distrib, Nat.shiftRight_or_distrib, Nat.shiftRight_and_distrib, Nat.shiftRight_and_distrib, Nat.shiftRight_and_distrib]
  generalize a >>> k = a
  generalize b >>> k = b
  generalize c >>> k = c
  have a1 := @Nat.and_mod_two_eq_one a b
  have a2 := @Nat.and_mod_two_eq_one a c
  have a3 := @Nat.and_mod_two_eq_one b c
  have r1 := @Nat.or_mod_two_eq_one (a &&& b) (a &&& c)
  have r2 := @Nat.or_mod_two_eq_one (a &&& b ||| a &&& c) (b &&& c)
  omega
theorem xor3_lt {a b c w : Nat} (ha : a < 2 ^ w) (hb : b < 2 ^ w) (hc : c < 2 ^ w) : a ^^^ b ^^^ c < 2 ^ w := Nat.xor_lt_two_pow (Nat.xor_lt_two_pow ha hb) hc
theorem carry_bit {m w k : Nat} (h : k + 1 < w) : (2 * m % 2 ^ w) / 2 ^ (k + 1) % 2 = m / 2 ^ k % 2 := by
  have e : (2 * m % 2 ^ w).testBit (k + 1) = (2 * m).testBit (k + 1) := by
    rw [Nat.testBit_mod_two_pow]; simp [h]
  rw [Nat.testBit_eq_decide_div_mod_eq, Nat.testBit_eq_decide_div_mod_eq] at e
  have e2 : 2 * m / 2 ^ (k + 1) = m / 2 ^ k := by
    rw [Nat.pow_succ, Nat.mul_comm (2 ^ k), ← Nat.div_div_eq_div_mul]
    congr 1; omega
  rw [e2] at e
  have e3 := decide_eq_decide.mp e
  omega
theorem carry_even {m w : Nat} (h : 1 ≤ w) : (2 * m % 2 ^ w) % 2 = 0 := by
  obtain ⟨k, rfl⟩ : ∃ k, w = k + 1 := ⟨w - 1, by omega⟩
  rw [Nat.pow_succ, Nat.mul_comm (2 ^ k), Nat.mul_mod_mul_left]
  omega
/-! ### max of a tuple of two ints -/
section
open PySem.Spec PyProof.Rows
theorem cr_maxT2 {X : Cx} (hc : X.calm = true) : CallR X (.builtin "max") (fun vs H Q => ∃ (a : Addr) (i j : Int), vs = [.ref a] ∧ SqT X.K H a [.int i, .int j] ∧ Q (.int (if j > i then j else i)) H) := by
  intro pins sh sg H xs us Q I r hyp
  obtain ⟨l, i, j, rfl, hl, q⟩ := hyp
  rw [Vals.ref1 r]
  obtain ⟨its, rv, hT, _⟩ := I.tuple hl
  obtain ⟨u, w', rfl, ⟨t, rfl⟩, ⟨t', rfl⟩⟩ := vals2 rv
  have hT2 : sh.heap.IsTuple l (intItems #[(i, t), (j, t')]) := by
    obtain ⟨o, h1, h2, n, h3⟩ := hT
    exact ⟨o, h1, h2, n, by simpa [intItems] using h3⟩
  have hlt : l < sh.heap.objs.size := by obtain ⟨_, e, _⟩ := hT; exact Heap.lt_size e
  refine call_max_walk (wpAny_pyIter_tuple hT2 ?_)
  refine ⟨_, [_, l], [_], _, _, _, _, rfl, Walks.tuple (A := X.A.in1) (I.ok.hd hc) _ l (Nat.ne_of_lt hlt) (intItems #[(i, t), (j, t')]),
    ⟨⟨_, Heap.get?_push_size _ rfl, rfl, rfl⟩, hT2.push _⟩, fun z hz => ?_, by simp [intItems], CmpOf.ints_gt (numAt #[(i, t), (j, t')]) (fun _ _ => intItems_at), fun v h' tk hP hk => ?_⟩
  · show z < (sh.heap.push _).objs.size
    rw [Heap.size_push]
    rcases List.mem_cons.mp hz with rfl | hz
    · exact Nat.lt_succ_self _
    · rcases List.mem_cons.mp hz with rfl | hz
      · exact Nat.lt_succ_of_lt hlt
      · cases hz
  · have hold : ∀ z o, sh.heap.get? z = some o → h'.get? z = some o := fun z o e => by
      refine hk z o (fun hm => ?_) (Heap.get?_push_of_some _ e)
      rcases List.mem_cons.mp hm with e1 | hm
      · have := Heap.lt_size e; rw [e1] at this; exact Nat.lt_irrefl _ this
      · cases hm
    refine ⟨.int (if j > i then j else i), H, I.kept hold, ?_, q⟩
    have hP' : (intItems #[(i, t), (j, t')])[argBest (fun a b => decide (numAt #[(i, t), (j, t')] a > numAt #[(i, t), (j, t')] b)) 1]? = some v := by
      have hsz2 : (intItems #[(i, t), (j, t')]).size - 1 = 1 := by simp [intItems]
      rw [← hsz2]; exact hP
    by_cases hba : j > i
    · have e : argBest (fun a b => decide (numAt #[(i, t), (j, t')] a > numAt #[(i, t), (j, t')] b)) 1 = 1 := by simp [argBest, numAt, hba]
      rw [e] at hP'
      rw [if_pos hba]
      have : v = .int j t' := by simpa [intItems] using hP'.symm
      exact ⟨t', this⟩
    · have e : argBest (fun a b => decide (numAt #[(i, t), (j, t')] a > numAt #[(i, t), (j, t')] b)) 1 = 0 := by simp [argBest, numAt, hba]
      rw [e] at hP'
      rw [if_neg hba]
      have : v = .int i t := by simpa [intItems] using hP'.symm
      exact ⟨t, this⟩
end
/-! ### data that stands at places of which B is true -/
mutual
inductive Dt (B : Addr → Prop) (H : Hp) : V → PyData → Prop
  | non : Dt B H .non .none
  | bl (z : Bool) : Dt B H (.bl z) (.bool z)
  | int (i : Int) : Dt B H (.int i) (.int i)
  | str (x : Str) : Dt B H (.str x) (.str x)
  | lst {p : Addr} {xs : List V} {ds : List PyData} : B p → H p = some (.lst xs) → DtAll B H xs ds → Dt B H (.ref p) (.list ds)
  | tup {p : Addr} {xs : List V} {ds : List PyData} : B p → H p = some (.tup xs) → DtAll B H xs ds → Dt B H (.ref p) (.tuple ds)
inductive DtAll (B : Addr → Prop) (H : Hp) : List V → List PyData → Prop
  | nil : DtAll B H [] []
  | cons {v : V} {vs : List V} {d : PyData} {ds : List PyData} : Dt B H v d → DtAll B H vs ds → DtAll B H (v :: vs) (d :: ds)
end
section
variable {B B' : Addr → Prop} {H H' : Hp}
mutual
theorem Dt.mono (k : ∀ p o, B p → H p = some o → B' p ∧ H' p = some o) : ∀ (d : PyData) (v : V), Dt B H v d → Dt B' H' v d
  | .none, _, h => by cases h; exact .non
  | .bool _, _, h => by cases h; exact .bl _
  | .int _, _, h => by cases h; exact .int _
  | .str _, _, h => by cases h; exact .str _
  | .list ds, _, h => by
    cases h with
    | lst b e a => exact .lst (k _ _ b e).1 (k _ _ b e).2 (Dt.monoAll k ds _ a)
  | .tuple ds, _, h => by
    cases h with
    | tup b e a => exact .tup (k _ _ b e).1 (k _ _ b e).2 (Dt.monoAll k ds _ a)
  | .dict _, _, h => by cases h
theorem Dt.monoAll (k : ∀ p o, B p → H p = some o → B' p ∧ H' p = some o) : ∀ (ds : List PyData) (vs : List V), DtAll B H vs ds → DtAll B' H' vs ds
  | [], _, h => by cases h; exact .nil
  | d :: ds, _, h => by
    cases h with
    | cons x y => exact .cons (Dt.mono k d _ x) (Dt.monoAll k ds _ y)
end
mutual
theorem Dt.dp : ∀ (d : PyData) (v : V), Dt B H v d → Dp K H v d
  | .none, _, h => by cases h; exact .non
  | .bool _, _, h => by cases h; exact .bl _
  | .int _, _, h => by cases h; exact .int _
  | .str _, _, h => by cases h; exact .str _
  | .list ds, _, h => by
    cases h with
    | lst b e a => exact .lst (SqL.of e) (Dt.dpAll ds _ a)
  | .tuple ds, _, h => by
    cases h with
    | tup b e a => exact .tup (SqT.of e) (Dt.dpAll ds _ a)
  | .dict _, _, h => by cases h
theorem Dt.dpAll : ∀ (ds : List PyData) (vs : List V), DtAll B H vs ds → DpAll K H vs ds
  | [], _, h => by cases h; exact .nil
  | d :: ds, _, h => by
    cases h with
    | cons x y => exact .cons (Dt.dp d _ x) (Dt.dpAll ds _ y)
end
theorem DtAll.app : ∀ {vs : List V} {ds : List PyData} {us : List V} {es : List PyData}, DtAll B H vs ds → DtAll B H us es → DtAll B H (vs ++ us) (ds ++ es)
  | [], _, _, _, h, g => by cases h; exact g
  | v :: vs, _, _, _, h, g => by
    cases h with
    | cons x y => exact .cons x (DtAll.app y g)
theorem DtAll.ints : ∀ (ns : List Int), DtAll B H (ns.map V.int) (ns.map PyData.int)
  | [] => .nil
  | n :: r => .cons (.int n) (DtAll.ints r)
theorem DtAll.len : ∀ {vs : List V} {ds : List PyData}, DtAll B H vs ds → vs.length = ds.length
  | [], _, h => by cases h; rfl
  | v :: vs, _, h => by
    cases h with
    | cons x y => rw [List.length_cons, List.length_cons, DtAll.len y]
end
theorem Dt.list_inv {B : Addr → Prop} {H : Hp} {v : V} {ds : List PyData} (h : Dt B H v (.list ds)) : ∃ l acc, v = .ref l ∧ B l ∧ H l = some (.lst acc) ∧ DtAll B H acc ds := by
  cases h with
  | lst x y z => exact ⟨_, _, rfl, x, y, z⟩
/-- data, as a fact beside the deck -/
def Da (a : Addr) (v : V) (d : PyData) : Fact a := ⟨fun H => Dt (fun p => p ≠ a) H v d, fun k h => Dt.mono (fun p o b e => ⟨b, k p o b e⟩) _ _ h⟩
/-- new data is no deck -/
theorem Dt.new {a : Addr} {H0 H : Hp} {v : V} {d : PyData} {u : HO} (h : Dt (fun p => H0 p = none) H v d) (ha : H0 a = some u) : Dt (fun p => p ≠ a) H v d :=
  Dt.mono (fun p o b e => And.intro (ne_of_none ha b).symm e) _ _ h
/-! ints, and tuples of ints, in lists -/
def flat : PyData → Bool
  | .int _ => true
  | .bool _ => true
  | .none => true
  | _ => false
theorem flat_ok {d : PyData} (h : flat d = true) : d.canLay0 = true ∧ d.depth = 0 := by
  cases d with
  | int i => exact ⟨by simp only [PyData.canLay0], by simp only [PyData.depth]⟩
  | bool i => exact ⟨by simp only [PyData.canLay0], by simp only [PyData.depth]⟩
  | none => exact ⟨by simp only [PyData.canLay0], by simp only [PyData.depth]⟩
  | str x => cases h
  | list x => cases h
  | tuple x => cases h
  | dict x => cases h
theorem flats_ok : ∀ {ds : List PyData}, (∀ d ∈ ds, flat d = true) → PyData.canLayAll0 ds = true ∧ PyData.depthAll ds = 0
  | [], _ => ⟨by simp only [PyData.canLayAll0], by simp only [PyData.depthAll]⟩
  | d :: ds, h => by
    obtain ⟨h1, h2⟩ := flat_ok (h d (.head _))
    obtain ⟨h3, h4⟩ := flats_ok (ds := ds) fun x m => h x (.tail _ m)
    exact ⟨by simp only [PyData.canLayAll0]; rw [h1, h3]; rfl, by simp only [PyData.depthAll]; rw [h2, h4]; rfl⟩
theorem flats_ints {ns : List Int} : ∀ d ∈ ns.map PyData.int, flat d = true := fun d m => by
  obtain ⟨n, _, rfl⟩ := List.mem_map.mp m
  rfl
theorem shaped_of {d : PyData} (h1 : d.canLay0 = true) (h2 : d.depth ≤ 64) : SeqAt.shaped d = true := by
  unfold SeqAt.shaped
  rw [h1, decide_eq_true h2]; rfl
theorem shaped_flats {ds : List PyData} (h : ∀ d ∈ ds, flat d = true) : SeqAt.shaped (.list ds) = true := by
  obtain ⟨h1, h2⟩ := flats_ok h
  refine shaped_of ?_ ?_
  · simp only [PyData.canLay0]; exact h1
  · simp only [PyData.depth]; omega
theorem shaped_flatsT {ds : List PyData} (h : ∀ d ∈ ds, flat d = true) : SeqAt.shaped (.tuple ds) = true := by
  obtain ⟨h1, h2⟩ := flats_ok h
  refine shaped_of ?_ ?_
  · simp only [PyData.canLay0]; exact h1
  · simp only [PyData.depth]; omega
theorem shaped_ints (ns : List Int) : SeqAt.shaped (.list (ns.map PyData.int)) = true := shaped_flats flats_ints
theorem shaped_intsT (ns : List Int) : SeqAt.shaped (.tuple (ns.map PyData.int)) = true := shaped_flatsT flats_ints
theorem eqv_ints : ∀ (ns ms : List Int), PyData.eqvAll (ns.map PyData.int) (ms.map PyData.int) = decide (ns = ms)
  | [], [] => by simp [PyData.eqvAll]
  | [], _ :: _ => by simp [PyData.eqvAll]
  | _ :: _, [] => by simp [PyData.eqvAll]
  | n :: ns, m :: ms => by
    simp only [List.map_cons, PyData.eqvAll, PyData.eqv]
    rw [eqv_ints ns ms]
    by_cases h : n = m
    · subst h; simp
    · simp [h]
/-- a list of tuples of ints -/
def tupsI (xs : List (List Int)) : PyData := .list (xs.map fun ns => .tuple (ns.map PyData.int))
theorem tups_ok : ∀ (xs : List (List Int)), PyData.canLayAll0 (xs.map fun ns => .tuple (ns.map PyData.int)) = true ∧ PyData.depthAll (xs.map fun ns => .tuple (ns.map PyData.int)) ≤ 1
  | [] => ⟨by simp only [List.map_nil, PyData.canLayAll0], by simp only [List.map_nil, PyData.depthAll]; omega⟩
  | ns :: xs => by
    obtain ⟨h1, h2⟩ := tups_ok xs
    obtain ⟨h3, h4⟩ := flats_ok (flats_ints (ns := ns))
    refine ⟨?_, ?_⟩
    · simp only [List.map_cons, PyData.canLayAll0, PyData.canLay0]
      rw [h1, h3]; rfl
    · simp only [List.map_cons, PyData.depthAll, PyData.depth]
      omega
theorem shaped_tups (xs : List (List Int)) : SeqAt.shaped (tupsI xs) = true := by
  obtain ⟨h1, h2⟩ := tups_ok xs
  unfold tupsI
  refine shaped_of ?_ ?_
  · simp only [PyData.canLay0]; exact h1
  · simp only [PyData.depth]; omega
theorem eqv_tups (xs : List (List Int)) : PyData.eqv (tupsI xs) (tupsI xs) = true := SeqAt.eqv_refl _ (by
  unfold tupsI
  simp only [PyData.canLay0]
  exact (tups_ok xs).1)
theorem neD_same {K : PySem.W.Frag} {H : Hp} {x y : V} {d : PyData} {Q : VK} (h1 : Dp K H x d) (h2 : Dp K H y d) (hs : SeqAt.shaped d = true) (q : Q (.bl false) H) : rNeD K x y H Q :=
  ⟨d, d, h1, h2, hs, hs, by rw [SeqAt.eqv_refl d (SeqAt.canLay_of_shaped hs)]; exact q⟩
theorem eqD_same {K : PySem.W.Frag} {H : Hp} {x y : V} {d : PyData} {Q : VK} (h1 : Dp K H x d) (h2 : Dp K H y d) (hs : SeqAt.shaped d = true) (q : Q (.bl true) H) : rEqD K x y H Q :=
  ⟨d, d, h1, h2, hs, hs, by rw [SeqAt.eqv_refl d (SeqAt.canLay_of_shaped hs)]; exact q⟩
theorem shaped_bool (z : Bool) : SeqAt.shaped (.bool z) = true := shaped_of (by simp only [PyData.canLay0]) (by simp only [PyData.depth]; omega)
theorem neD_bl {K : PySem.W.Frag} {H : Hp} {x y : Bool} {Q : VK} (e : x = y) (q : Q (.bl false) H) : rNeD K (.bl x) (.bl y) H Q := by
  subst e
  exact neD_same (.bl _) (.bl _) (shaped_bool _) q
theorem neD_nil {K : PySem.W.Frag} {H : Hp} {x y : V} {ns : List Int} {Q : VK} (hne : ns ≠ []) (h1 : Dp K H x (.list (ns.map PyData.int))) (h2 : Dp K H y (.list [])) (q : Q (.bl true) H) : rNeD K x y H Q := by
  cases ns with
  | nil => exact absurd rfl hne
  | cons n r => exact ⟨_, _, h1, h2, shaped_ints _, shaped_ints [], by simp only [List.map_cons, PyData.eqv, PyData.eqvAll]; exact q⟩
theorem dp_ints {K : PySem.W.Frag} {H : Hp} {l : Addr} {ns : List Int} (h : H l = some (.lst (ns.map V.int))) : Dp K H (.ref l) (.list (ns.map PyData.int)) := Dt.dp (B := fun _ => True) _ _ (.lst trivial h (DtAll.ints ns))
theorem inV_mem {x : Int} {xs : List Int} (h : x ∈ xs) : inV (.int x) (xs.map V.int) = true := by
  unfold inV
  rw [List.any_map, List.any_eq_true]
  exact ⟨x, h, by simp [eqV]⟩
theorem flat_all (xs : List Int) : (xs.map V.int).all flatV = true := by
  rw [List.all_map, List.all_eq_true]
  intro x _
  rfl
/-! ### which figures serve: the mathematics -/
def absI (r : Int) : Int := if r < 0 then -r else r
def svs (b m f d r : Int) : Bool := decide ((b - 1) * absI (r - f * d) ≤ m * d)
theorem abs_mul {c x : Int} (h : 0 ≤ c) : c * absI x = absI (c * x) := by
  unfold absI
  by_cases h1 : x < 0
  · rw [if_pos h1]
    by_cases h2 : c * x < 0
    · rw [if_pos h2, Int.mul_neg]
    · have := Int.mul_nonpos_of_nonneg_of_nonpos h (show x ≤ 0 by omega)
      rw [if_neg h2, Int.mul_neg]; omega
  · rw [if_neg h1, if_neg]
    have := Int.mul_nonneg h (show 0 ≤ x by omega)
    omega
theorem abs_le {x y : Int} : absI x ≤ y ↔ -y ≤ x ∧ x ≤ y := by
  unfold absI
  split <;> omega
theorem svs_iff {b m f d r : Int} (hb : 2 ≤ b) : svs b m f d r = true ↔ (b - 1) * r - m * d ≤ f * ((b - 1) * d) ∧ f * ((b - 1) * d) ≤ (b - 1) * r + m * d := by
  unfold svs
  rw [decide_eq_true_iff, abs_mul (by omega), abs_le, Int.mul_sub, show (b - 1) * (f * d) = f * ((b - 1) * d) by rw [← Int.mul_assoc, Int.mul_comm (b - 1) f, Int.mul_assoc]]
  omega
/-- the least and the greatest figure that serves -/
def svL (b m d r : Int) : Int := -((m * d - (b - 1) * r) / ((b - 1) * d))
def svU (b m d r : Int) : Int := ((b - 1) * r + m * d) / ((b - 1) * d)
theorem svs_LU {b m f d r : Int} (hb : 2 ≤ b) (hd : 1 ≤ d) : svs b m f d r = true ↔ svL b m d r ≤ f ∧ f ≤ svU b m d r := by
  have hN : 0 < (b - 1) * d := Int.mul_pos (by omega) (by omega)
  rw [svs_iff hb]
  unfold svL svU
  rw [Int.le_ediv_iff_mul_le hN]
  have e : -((m * d - (b - 1) * r) / ((b - 1) * d)) ≤ f ↔ -f ≤ (m * d - (b - 1) * r) / ((b - 1) * d) := by omega
  rw [e, Int.le_ediv_iff_mul_le hN, Int.neg_mul]
  omega
theorem LU {b m d r : Int} (hb : 2 ≤ b) (hm : b ≤ 2 * m) (hd : 1 ≤ d) (h : (b - 1) * absI r ≤ b * m * d) : svL b m d r ≤ svU b m d r ∧ svL b m d r ≤ m ∧ -m ≤ svU b m d r := by
  have hN : 0 < (b - 1) * d := Int.mul_pos (by omega) (by omega)
  rw [abs_mul (by omega), abs_le] at h
  have e1 : b * m * d = m * ((b - 1) * d) + m * d := by
    rw [← Int.mul_assoc, ← Int.add_mul]
    congr 1
    rw [Int.mul_sub, Int.mul_one, Int.mul_comm m b]; omega
  have e2 : (b - 1) * d = b * d - d := by rw [Int.sub_mul, Int.one_mul]
  have e3 : b * d ≤ 2 * (m * d) := by
    have := Int.mul_le_mul_of_nonneg_right hm (show 0 ≤ d by omega)
    rw [Int.mul_assoc] at this; exact this
  rw [e1] at h
  unfold svL svU
  generalize (b - 1) * r = A at *
  generalize hX : m * d = X at *
  generalize hNe : (b - 1) * d = N at *
  have a1 := Int.emod_nonneg (A + X) (b := N) (by omega)
  have a2 := Int.emod_lt_of_pos (A + X) hN
  have a3 := Int.emod_add_mul_ediv (A + X) N
  have b1 := Int.emod_nonneg (X - A) (b := N) (by omega)
  have b2 := Int.emod_lt_of_pos (X - A) hN
  have b3 := Int.emod_add_mul_ediv (X - A) N
  refine ⟨?_, ?_, ?_⟩
  · have c1 : N * ((A + X) / N + (X - A) / N) > -N - 1 + 1 := by
      rw [Int.mul_add]; omega
    have c2 : N * (-1) < N * ((A + X) / N + (X - A) / N) := by rw [Int.mul_neg, Int.mul_one]; omega
    have := Int.lt_of_mul_lt_mul_left c2 (by omega)
    omega
  · have : -m ≤ (X - A) / N := by
      rw [Int.le_ediv_iff_mul_le hN, Int.neg_mul]; omega
    omega
  · rw [Int.le_ediv_iff_mul_le hN, Int.neg_mul]; omega
/-- what is within an interval, of all numbers below n -/
theorem filter_iv {n lo hi : Nat} {p : Nat → Bool} (h1 : lo ≤ hi) (h2 : hi ≤ n) (h : ∀ i, i < n → (p i = true ↔ lo ≤ i ∧ i < hi)) : (List.range n).filter p = List.range' lo (hi - lo) := by
  have e : List.range n = List.range' 0 lo ++ List.range' lo (hi - lo) ++ List.range' hi (n - hi) := by
    have e1 := List.range'_append_1 (s := 0) (m := lo) (n := hi - lo)
    have e2 := List.range'_append_1 (s := 0) (m := hi) (n := n - hi)
    rw [Nat.zero_add] at e1 e2
    rw [e1, show lo + (hi - lo) = hi by omega, e2, List.range_eq_range', show hi + (n - hi) = n by omega]
  rw [e, List.filter_append, List.filter_append]
  have f1 : (List.range' 0 lo).filter p = [] := by
    rw [List.filter_eq_nil_iff]
    intro i hi' hp
    rw [List.mem_range'_1] at hi'
    have := (h i (by omega)).mp hp
    omega
  have f2 : (List.range' hi (n - hi)).filter p = [] := by
    rw [List.filter_eq_nil_iff]
    intro i hi' hp
    rw [List.mem_range'_1] at hi'
    have := (h i (by omega)).mp hp
    omega
  have f3 : (List.range' lo (hi - lo)).filter p = List.range' lo (hi - lo) := by
    rw [List.filter_eq_self]
    intro i hi'
    rw [List.mem_range'_1] at hi'
    exact (h i (by omega)).mpr (by omega)
  rw [f1, f2, f3, List.nil_append, List.append_nil]
/-! ### the script's cells -/
theorem map_at {ns : List Int} {i : Nat} {x : V} (h : (ns.map V.int)[i]? = some x) : ∃ y, x = .int y ∧ ns[i]? = some y := by
  rw [List.getElem?_map] at h
  cases e : ns[i]? with
  | none => rw [e] at h; cases h
  | some y => rw [e] at h; exact ⟨y, by cases h; rfl, rfl⟩
theorem cut_ints (ns : List Int) (lo hi : Option Int) : ∃ cs : List Int, cutV (ns.map V.int) lo hi = cs.map V.int ∧ cs.length ≤ ns.length := by
  refine ⟨(ns.drop (HT.sIx (ns.map V.int).length 0 lo)).take (HT.sIx (ns.map V.int).length (ns.map V.int).length hi - HT.sIx (ns.map V.int).length 0 lo), ?_, ?_⟩
  · unfold cutV
    rw [List.map_take, List.map_drop]
  · rw [List.length_take, List.length_drop]; omega
theorem cat0 (ns : List Int) : ns.map V.int ++ [V.int 0] = (ns ++ [0]).map V.int := by rw [List.map_append]; rfl
theorem head0 (ns : List Int) : ∃ c0 : Int, atI (ns.map V.int ++ [V.int 0]) 0 = some (.int c0) := by
  cases ns with
  | nil => exact ⟨0, rfl⟩
  | cons x r => exact ⟨x, atI_nat (j := 0) rfl⟩
theorem cat_line {ns : List Int} (h : ns.length ≤ 63) : (ns.map V.int).length + [V.int 0].length ≤ sizeLine := by
  rw [List.length_map]
  exact small1000 (by show ns.length + 1 ≤ 1000; omega) |> Nat.le_of_lt
/-- the script, as a fact beside the deck -/
def Scr (K : PySem.W.Frag) (a sa : Addr) (xs : List V) : Fact a := ⟨fun H => ∀ H', Keep a H H' → SqL K H' sa xs, fun k h H'' k' => h H'' (k.trans k')⟩
theorem scr_of {K : PySem.W.Frag} {H0 H1 : Hp} {a sa : Addr} {xs : List V} (h : SqL K H0 sa xs) (ha : H0 a = none) (e : Same H0 H1) : (Scr K a sa xs).P H1 := fun H' k => by
  rcases h with (z | ⟨u, z⟩) | z
  · exact .inl (.inl (k _ _ (ne_of_none z ha) (e _ _ z)))
  · exact .inl (.inr ⟨u, k _ _ (ne_of_none z ha) (e _ _ z)⟩)
  · exact .inr z
theorem S.scr {K : PySem.W.Frag} {a sa : Addr} {n : Nat} {H : Hp} {L : List (Fact a)} {xs : List V} (s : S a n H L) (h : Scr K a sa xs ∈ L) : SqL K H sa xs := s.get h H (Keep.refl a H)
theorem deck_tup_ne {H : Hp} {a p : Addr} {n : Nat} {xs : List V} (d : Deck H a n) (h : H p = some (.tup xs)) : p ≠ a := fun z => by
  obtain ⟨d0, d1, d2, h1, _⟩ := d
  rw [z, h1] at h
  cases h
/-! ### kinds and cells: the program's own -/
def Kd (b m : Int) : Prop := (b = 2 ∨ b = 4 ∨ b = 8 ∨ b = 16) ∧ b / 2 ≤ m ∧ m ≤ b - 1
theorem Kd.bd {b m : Int} (h : Kd b m) : 2 ≤ b ∧ b ≤ 16 ∧ 1 ≤ m ∧ m ≤ 15 ∧ m < b ∧ b ≤ 2 * m ∧ 2 ≤ b * m ∧ b * m ≤ 240 := by
  obtain ⟨h1, h2, h3⟩ := h
  rcases h1 with e | e | e | e <;> subst e <;> refine ⟨?_, ?_, ?_, ?_, ?_, ?_, ?_, ?_⟩ <;> omega
theorem pow_le {n k : Nat} (h : n ≤ k) : (2 : Int) ^ n ≤ 2 ^ k := by
  rw [two_cast, two_cast]
  exact Int.ofNat_le.mpr (Nat.pow_le_pow_right (by decide) h)
theorem new_at {H : Hp} {p : Addr} (h : H p = none) (o : HO) : upd H p o p = some o := upd_same
theorem same_mut {H0 H1 : Hp} {l : Addr} (o : HO) (e : Same H0 H1) (h : H0 l = none) : Same H0 (upd H1 l o) := fun b u z => by
  rw [upd_ne (ne_of_none z h)]
  exact e b u z
theorem same_none {H0 H1 : Hp} {p : Addr} (e : Same H0 H1) (h : H1 p = none) : H0 p = none := by
  cases z : H0 p with
  | none => rfl
  | some o => rw [e p o z] at h; cases h
theorem sameT {K : PySem.W.Frag} {H H' : Hp} {a : Addr} {xs : List V} (e : Same H H') (z : SqT K H a xs) : SqT K H' a xs := by
  rcases z with (z | ⟨u, z⟩) | z
  · exact .inl (.inl (e _ _ z))
  · exact .inl (.inr ⟨u, e _ _ z⟩)
  · exact .inr z
def sp_first_top (K : PySem.W.Frag) : Sp := fun vs H Q _ => ∃ (p : Addr) (t : Nat) (r : V), vs = [.ref p] ∧ SqT K H p [.int (t : Int), r] ∧ 1 ≤ t ∧ t ≤ 100000 ∧ Q (.int (2 ^ (t - 1))) H
theorem ok_first_top (T : Txt K mg) : FnOk P w K mg base CX0 1 T.a_first_top T.fd_first_top ["looks"] (sp_first_top K) := by
  refine T.F_first_top.ok sc_first_top (fun vs H Q E h => ?_) (fun cdv A outer s H vs Q E hr h => ?_)
  · obtain ⟨p, t, r, rfl, _⟩ := h
    rfl
  obtain ⟨p, t, r, rfl, hp, ht, ht2, q⟩ := h
  refine ⟨_, (pss_one (ps_ret (pe_op op_oneShl pe_int (pe_op op_sub1N (pe_ix ix_tup (pv 0) pe_int (fun _ _ => rfl)) pe_int)))), ?_⟩
  walk_at "rd"
  exact q
def sp_half_of (K : PySem.W.Frag) : Sp := fun vs H Q _ => ∃ (kp lp : Addr) (b : Int) (m t : V) (r : Nat), vs = [.ref kp, .ref lp] ∧ SqT K H kp [.int b, m] ∧ SqT K H lp [t, .int (r : Int)] ∧ b.natAbs < 2 ^ 64 ∧ r ≤ 100000 ∧ Q (.int (b * 2 ^ r + 2)) H
theorem ok_half_of (T : Txt K mg) : FnOk P w K mg base CX0 1 T.a_half_of T.fd_half_of ["kind", "looks"] (sp_half_of K) := by
  refine T.F_half_of.ok sc_half_of (fun vs H Q E h => ?_) (fun cdv A outer s H vs Q E hr h => ?_)
  · obtain ⟨kp, lp, b, m, t, r, rfl, _⟩ := h
    rfl
  obtain ⟨kp, lp, b, m, t, r, rfl, hk, hl, hb, hr2, q⟩ := h
  refine ⟨_, (pss_one (ps_ret (pe_op op_add (pe_op op_shlN (pe_ix ix_tup (pv 0) pe_int (fun _ _ => rfl)) (pe_ix ix_tup (pv 1) pe_int (fun _ _ => rfl))) pe_int))), ?_⟩
  walk_at "rd"
  refine ⟨shl_ok hb (by omega), ?_⟩
  walk_at "rd"
  exact q
def areLk (b t p : Int) : Bool := decide (1 ≤ t ∧ t ≤ 10) && (decide (0 ≤ p ∧ p ≤ 10) && decide (2 ^ (t - 1).toNat * 2 * (b * 2 ^ p.toNat + 2) ≤ 20000))
def sp_are_looks (K : PySem.W.Frag) : Sp := fun vs H Q _ => ∃ (kp lp : Addr) (b m t p : Int), vs = [.ref kp, .ref lp] ∧ SqT K H kp [.int b, .int m] ∧ SqT K H lp [.int t, .int p] ∧ Kd b m ∧ Q (.bl (areLk b t p)) H
theorem ok_are_looks (T : Txt K mg) : FnOk P w K mg base CX0 2 T.a_are_looks T.fd_are_looks ["kind", "looks"] (sp_are_looks K) := by
  refine T.F_are_looks.ok sc_are_looks (fun vs H Q E h => ?_) (fun cdv A outer s H vs Q E hr h => ?_)
  · obtain ⟨kp, lp, b, m, t, p, rfl, _⟩ := h
    rfl
  obtain ⟨kp, lp, b, m, t, p, rfl, hk, hl, hkd, q⟩ := h
  refine ⟨_, (pss_cons (ps_asg (pv 1) (pg_tup rfl (pgs_cons (pg_name (i := 2) sc_are_looks.nd rfl (Or.inl rfl)) (pgs_cons (pg_name (i := 3) sc_are_looks.nd rfl (Or.inl rfl)) pgs_nil))))
      (pss_cons (ps_if (PW.pt (pw_or (pt_not (pt_chain op_le op_le pe_int (pv 2) pe_int)) (pw_or1 (pt_not (pt_chain op_le op_le pe_int (pv 3) pe_int))))) (pss_one (ps_ret pe_bl)) pss_nil)
      (pss_one (ps_ret (pe_cmpR op_le (pe_op op_mul (pe_op op_mul (pe_call (ok_first_top T) (hr.mono (by first | decide | omega)) rfl T.m_first_top T.F_first_top.kp T.b_first_top .nil pass0 (pa_cons (pv 1) pa_nil)) pe_int) (pe_call (ok_half_of T) (hr.mono (by first | decide | omega)) rfl T.m_half_of T.F_half_of.kp T.b_half_of .nil pass0 (pa_cons (pv 0) (pa_cons (pv 1) pa_nil)))) (pe_glob rfl T.m_MOST_CELLS T.r_MOST_CELLS) (nomark _)))))), ?_⟩
  have bd := hkd.bd
  by_cases c : (1 ≤ t ∧ t ≤ 10) ∧ (0 ≤ p ∧ p ≤ 10)
  · obtain ⟨n, rfl⟩ := nat_of (v := t) (by omega)
    obtain ⟨r, rfl⟩ := nat_of (v := p) (by omega)
    have e : areLk b n r = decide (2 ^ (n - 1) * 2 * (b * 2 ^ r + 2) ≤ 20000) := by
      unfold areLk
      rw [decide_eq_true c.1, decide_eq_true c.2, Bool.true_and, Bool.true_and, show ((n : Int) - 1).toNat = n - 1 by omega, Int.toNat_natCast]
    rw [e] at q
    have h1 := pow_le (n := n - 1) (k := 9) (by omega)
    have h2 := two_pos (n - 1)
    walk_at "go"
    refine ⟨lp, n, _, rfl, hl, by omega, by omega, ?_⟩
    walk_at "go"
    refine ⟨kp, lp, b, _, _, r, rfl, hk, hl, by omega, by omega, ?_⟩
    walk_at "go"
    exact q
  · have e : areLk b t p = false := by
      unfold areLk
      by_cases c1 : 1 ≤ t ∧ t ≤ 10
      · rw [decide_eq_false (p := 0 ≤ p ∧ p ≤ 10) (by omega), Bool.false_and, Bool.and_false]
      · rw [decide_eq_false c1, Bool.false_and]
    rw [e] at q
    by_cases c1 : 1 ≤ t <;> by_cases c2 : t ≤ 10 <;> by_cases c3 : 0 ≤ p <;> by_cases c4 : p ≤ 10
    all_goals first | (exfalso; omega) | (walk_at "go"; exact q)
/-! ### points: the program's own -/
def isPt (b m t p w d r : Int) : Bool := decide (t ≤ w) && (decide (p ≤ w) && (decide (1 ≤ d) && (decide ((Builtin.Int.intBits d : Int) = w) && decide ((b - 1) * absI r ≤ b * m * d))))
def sp_is_point (K : PySem.W.Frag) : Sp := fun vs H Q _ => ∃ (kp lp pp : Addr) (b m t p w d r : Int), vs = [.ref kp, .ref lp, .ref pp] ∧ SqT K H kp [.int b, .int m] ∧ SqT K H lp [.int t, .int p] ∧ SqT K H pp [.int w, .int d, .int r] ∧ Kd b m ∧ Q (.bl (isPt b m t p w d r)) H
theorem ok_is_point (T : Txt K mg) : FnOk P w K mg base CX0 1 T.a_is_point T.fd_is_point ["kind", "looks", "point"] (sp_is_point K) := by
  refine T.F_is_point.ok sc_is_point (fun vs H Q E h => ?_) (fun cdv A outer s H vs Q E hr h => ?_)
  · obtain ⟨kp, lp, pp, b, m, t, p, w, d, r, rfl, _⟩ := h
    rfl
  obtain ⟨kp, lp, pp, b, m, t, p, w, d, r, rfl, hk, hl, hp, hkd, q⟩ := h
  refine ⟨_, (pss_cons (ps_asg (pv 0) (pg_tup rfl (pgs_cons (pg_name (i := 3) sc_is_point.nd rfl (Or.inl rfl)) (pgs_cons (pg_name (i := 4) sc_is_point.nd rfl (Or.inl rfl)) pgs_nil))))
      (pss_cons (ps_asg (pv 1) (pg_tup rfl (pgs_cons (pg_name (i := 5) sc_is_point.nd rfl (Or.inl rfl)) (pgs_cons (pg_name (i := 6) sc_is_point.nd rfl (Or.inl rfl)) pgs_nil))))
      (pss_cons (ps_asg (pv 2) (pg_tup rfl (pgs_cons (pg_name (i := 7) sc_is_point.nd rfl (Or.inl rfl)) (pgs_cons (pg_name (i := 8) sc_is_point.nd rfl (Or.inl rfl)) (pgs_cons (pg_name (i := 9) sc_is_point.nd rfl (Or.inl rfl)) pgs_nil)))))
      (pss_cons (ps_if (PW.pt (pw_or (pt_cmpR op_lt (pv 7) (pv 5) (nomark _)) (pw_or1 (pt_cmpR op_lt (pv 7) (pv 6) (nomark _))))) (pss_one (ps_ret pe_bl)) pss_nil)
      (pss_cons (ps_if (PW.pt (pw_or (pt_cmpR op_lt (pv 8) pe_int (nomark _)) (pw_or1 (pt_cmpR op_ne (pe_bits (pv 8)) (pv 7) (nomark _))))) (pss_one (ps_ret pe_bl)) pss_nil)
      (pss_one (ps_ret (pe_cmpR op_le (pe_op op_mul (pe_op op_sub (pv 3) pe_int) (pe_callB call_abs (by rfl) T.z_abs (by decide +kernel) (pa_cons (pv 9) pa_nil))) (pe_op op_mul (pe_op op_mul (pv 3) (pv 4)) (pv 8)) (nomark _))))))))), ?_⟩
  have bd := hkd.bd
  unfold isPt at q
  by_cases c1 : t ≤ w
  · rw [decide_eq_true c1, Bool.true_and] at q
    by_cases c2 : p ≤ w
    · rw [decide_eq_true c2, Bool.true_and] at q
      by_cases c3 : 1 ≤ d
      · rw [decide_eq_true c3, Bool.true_and] at q
        by_cases c4 : (Builtin.Int.intBits d : Int) = w
        · rw [decide_eq_true c4, Bool.true_and] at q
          walk_at "go"
          exact q
        · rw [decide_eq_false c4, Bool.false_and] at q
          walk_at "go"
          exact q
      · rw [decide_eq_false c3, Bool.false_and] at q
        walk_at "go"
        exact q
    · rw [decide_eq_false c2, Bool.false_and] at q
      walk_at "go"
      exact q
  · rw [decide_eq_false c1, Bool.false_and] at q
    walk_at "go"
    exact q
def sp_serves (K : PySem.W.Frag) : Sp := fun vs H Q _ => ∃ (kp pp : Addr) (b m f w d r : Int), vs = [.ref kp, .int f, .ref pp] ∧ SqT K H kp [.int b, .int m] ∧ SqT K H pp [.int w, .int d, .int r] ∧ Kd b m ∧ -(2 ^ 63) ≤ f ∧ f ≤ 2 ^ 63 ∧ ∀ H', Same H H' → Q (.bl (svs b m f d r)) H'
theorem ok_serves (T : Txt K mg) : FnOk P w K mg base CX0 1 T.a_serves T.fd_serves ["kind", "figure", "point"] (sp_serves K) := by
  refine T.F_serves.ok sc_serves (fun vs H Q E h => ?_) (fun cdv A outer s H vs Q E hr h => ?_)
  · obtain ⟨kp, pp, b, m, f, w, d, r, rfl, _⟩ := h
    rfl
  obtain ⟨kp, pp, b, m, f, w, d, r, rfl, hk, hp, hkd, hf1, hf2, q⟩ := h
  refine ⟨_, (pss_cons (ps_asg (pv 0) (pg_tup rfl (pgs_cons (pg_name (i := 3) sc_serves.nd rfl (Or.inl rfl)) (pgs_cons (pg_name (i := 4) sc_serves.nd rfl (Or.inl rfl)) pgs_nil))))
      (pss_cons (ps_asg (pe_slice sl_tup (pv 2) (po_some pe_int) po_none) (pg_tup rfl (pgs_cons (pg_name (i := 5) sc_serves.nd rfl (Or.inl rfl)) (pgs_cons (pg_name (i := 6) sc_serves.nd rfl (Or.inl rfl)) pgs_nil))))
      (pss_one (ps_ret (pe_cmpR op_le (pe_op op_mul (pe_op op_sub (pv 3) pe_int) (pe_callB call_abs (by rfl) T.z_abs (by decide +kernel) (pa_cons (pe_op op_sub (pv 6) (pe_op op_mul (pv 1) (pv 5))) pa_nil))) (pe_op op_mul (pv 4) (pv 5)) (nomark _)))))), ?_⟩
  have bd := hkd.bd
  walk_at "go"
  refine ⟨pp, _, rfl, hp, (fun z => absurd z.1 (by show ¬ HT.sIx 3 0 (some 1) = 0; decide)), fun p2 hp2 => ?_⟩
  have s2 := same_new hp2 (.tup (cutV [V.int w, .int d, .int r] (some 1) none))
  refine ⟨p2, [.int d, .int r], rfl, SqT.of upd_same, rfl, ?_⟩
  walk_at "go"
  exact q _ s2
def cellsI (s : Nat) (top look : Int) : List (List Int) := (List.range s).map fun (i : Nat) => [top, look - (i : Int)]
def sp_cells_of (K : PySem.W.Frag) : Sp := fun vs H Q _ => ∃ (lp pp : Addr) (k : V) (d r : Int) (s t p w : Nat), vs = [k, .ref lp, .int (s : Int), .ref pp] ∧ SqT K H lp [.int (t : Int), .int (p : Int)] ∧ SqT K H pp [.int (w : Int), .int d, .int r] ∧ t ≤ w ∧ p ≤ w ∧ s ≤ 2 ∧
  ∀ H' v, Same H H' → Dt (fun p => H p = none) H' v (tupsI (cellsI s (d / 2 ^ (w - t)) (r / 2 ^ (w - p)))) → Q v H'
theorem ok_cells_of (T : Txt K mg) : FnOk P w K mg base CX0 1 T.a_cells_of T.fd_cells_of ["kind", "looks", "sight", "point"] (sp_cells_of K) := by
  refine T.F_cells_of.ok sc_cells_of (fun vs H Q E h => ?_) (fun cdv A outer s H vs Q E hr h => ?_)
  · obtain ⟨lp, pp, k, d, r, s, t, p, w, rfl, _⟩ := h
    rfl
  obtain ⟨lp, pp, k, d, r, si, t, p, w, rfl, hl, hp, htw, hpw, hs, q⟩ := h
  refine ⟨_, (pss_cons (ps_asg (pv 1) (pg_tup rfl (pgs_cons (pg_name (i := 4) sc_cells_of.nd rfl (Or.inl rfl)) (pgs_cons (pg_name (i := 5) sc_cells_of.nd rfl (Or.inl rfl)) pgs_nil))))
      (pss_cons (ps_asg (pv 3) (pg_tup rfl (pgs_cons (pg_name (i := 6) sc_cells_of.nd rfl (Or.inl rfl)) (pgs_cons (pg_name (i := 7) sc_cells_of.nd rfl (Or.inl rfl)) (pgs_cons (pg_name (i := 8) sc_cells_of.nd rfl (Or.inl rfl)) pgs_nil)))))
      (pss_cons (ps_set (i := 9) sc_cells_of.nd rfl (Or.inr rfl) (pe_op op_shrN (pv 7) (pe_op op_subN (pv 6) (pv 4))))
      (pss_cons (ps_set (i := 10) sc_cells_of.nd rfl (Or.inr rfl) (pe_op op_shrN (pv 8) (pe_op op_subN (pv 6) (pv 5))))
      (pss_one (ps_ret (pe_lc (own := [("less", 11)]) (g := (gName 11)) (tt := tYes) rfl sc_cells_of.nd (pi_range1 (by rfl) T.z_range (pa_cons (pv 2) pa_nil)) (blkOk_by (own := [("less", 11)]) (N := ["kind", "looks", "sight", "point", "tops", "parts", "wide", "divisor", "rest", "top", "look", "less"]) (sc := defScope s_cells_of) (by decide +kernel)) (fun _ _ _ _ _ => (pg_name (i := 11) sc_cells_of.nd rfl (Or.inl rfl))) (fun _ _ _ _ _ => pts_nil) (fun _ _ _ _ _ => (pe_tup (pa_cons (pv 9) (pa_cons (pe_op op_sub (pv 10) (pv 11)) pa_nil))))))))))), ?_⟩
  walk_at "go"
  intro D hD
  refine lc_range (lo := 0) (n := (si : Int).toNat) (fun i H' => Same H H' ∧ ∃ acc, H' D = some (.lst acc) ∧ DtAll (fun p => H p = none ∧ p ≠ D) H' acc ((cellsI i (d / 2 ^ (w - t)) (r / 2 ^ (w - p))).map fun ns => .tuple (ns.map PyData.int))) ⟨same_new hD _, [], upd_same, .nil⟩ ?_ ?_
  · rintro i H' hi ⟨s1, acc, h1, h2⟩
    walk_at "go"
    refine ⟨by show 2 ≤ sizeLine; decide, fun c hc => ?_⟩
    have ncD : c ≠ D := Ne.symm (ne_of_none h1 hc)
    have hcn : H c = none := by
      cases e : H c with
      | none => rfl
      | some o => rw [s1 _ _ e] at hc; cases hc
    refine ⟨acc, by rw [upd_ne (Ne.symm ncD)]; exact h1, ?_, ?_, acc ++ [.ref c], upd_same, ?_⟩
    · have := h2.len
      rw [List.length_map] at this
      unfold cellsI at this
      rw [List.length_map, List.length_range] at this
      exact small1000 (by omega)
    · exact fun b o e => by
        rw [upd_ne (ne_of_none e hD), upd_ne (ne_of_none (s1 _ _ e) hc)]
        exact s1 _ _ e
    · unfold cellsI
      rw [List.range_succ, List.map_append, List.map_append]
      refine DtAll.app (Dt.monoAll (fun p o b e => ⟨b, ?_⟩) _ _ h2) (.cons (.tup ⟨hcn, ncD⟩ (xs := [.int (d / 2 ^ (w - t)), .int (r / 2 ^ (w - p) - (i : Int))]) ?_ (.cons (.int _) (.cons (.int _) .nil))) .nil)
      · rw [upd_ne b.2, upd_ne (ne_of_none e hc)]
        exact e
      · rw [upd_ne ncD, upd_same]
        rw [Int.zero_add]
  · rintro H' ⟨s1, acc, h1, h2⟩
    rw [Int.toNat_natCast] at h2
    exact q H' _ s1 (.lst hD h1 (Dt.monoAll (fun p o b e => ⟨b.1, e⟩) _ _ h2))
def sp__law_great (K : PySem.W.Frag) : Sp := fun vs H Q _ => ∃ (a : Addr) (n f : Nat), vs = [.ref a, .int (f : Int)] ∧ Deck H a n ∧ n ≤ 900000000 ∧ f ≤ 1000 ∧ ∀ (v : Nat) H', v < 10 ^ f → Keep a H H' → Deck H' a (n + 6) → Q (.int (v : Int)) H'
theorem ten_cast (k : Nat) : (10 : Int) ^ k = ((10 ^ k : Nat) : Int) := by rw [Int.natCast_pow]; rfl
theorem ok__law_great (T : Txt K mg) : FnOk P w K mg base CX0 2 T.a__law_great T.fd__law_great ["deck", "figures"] (sp__law_great K) := by
  refine T.F__law_great.ok sc__law_great (fun vs H Q E h => ?_) (fun cdv A outer s H vs Q E hr h => ?_)
  · obtain ⟨a, n, f, rfl, _⟩ := h
    rfl
  obtain ⟨a, n, f, rfl, hd, hn, hf, q⟩ := h
  refine ⟨_, (pss_cons (ps_set (i := 2) sc__law_great.nd rfl (Or.inl rfl) pe_int)
      (pss_cons (ps_for PassesOwn.never rfl (pi_range1 (by rfl) T.z_range (pa_cons (pe_call (ok__law_pick T) (hr.mono (by first | decide | omega)) rfl T.m__law_pick T.F__law_pick.kp T.b__law_pick .nil pass0 (pa_cons (pv 0) (pa_cons (pe_op op_add (pv 1) pe_int) pa_nil))) pa_nil)) (pg_name (i := 3) sc__law_great.nd rfl (Or.inl rfl)) (pss_one (ps_set (i := 2) sc__law_great.nd rfl (Or.inl rfl) (pe_op op_mul (pv 2) pe_int))))
      (pss_cons (ps_set (i := 4) sc__law_great.nd rfl (Or.inl rfl) pe_int)
      (pss_cons (ps_for PassesOwn.never rfl (pi_range1 (by rfl) T.z_range (pa_cons pe_int pa_nil)) (pg_name (i := 3) sc__law_great.nd rfl (Or.inl rfl)) (pss_one (ps_set (i := 4) sc__law_great.nd rfl (Or.inl rfl) (pe_op op_add (pe_op op_mul (pv 4) (pe_op op_pow pe_int pe_int)) (pe_call (ok__law_pick T) (hr.mono (by first | decide | omega)) rfl T.m__law_pick T.F__law_pick.kp T.b__law_pick .nil pass0 (pa_cons (pv 0) (pa_cons (pe_op op_pow pe_int pe_int) pa_nil)))))))
      (pss_one (ps_ret (pe_op op_mod (pv 4) (pv 2)))))))), ?_⟩
  have s0 : S a n H [] := ⟨hd, trivial⟩
  walk_at "rd"
  walk_at "pick"
  intro v1 H1 v10 v11 k1 s1
  walk_at "rd"
  refine for_range0 (n := v1.toNat) (fun i σ H' => H' = H1 ∧ ∃ t, σ = [some (.ref a), some (.int (f : Int)), some (.int ((10 ^ i : Nat) : Int)), t, none]) ⟨rfl, none, rfl⟩ ?_ ?_
  · rintro i σ H2 hi ⟨rfl, t, rfl⟩
    walk_at "rd"
    refine ⟨some (.int (i : Int)), ?_⟩
    have e : ((10 ^ (i + 1) : Nat) : Int) = ((10 ^ i : Nat) : Int) * 10 := by rw [Nat.pow_succ, Int.natCast_mul]; rfl
    rw [e]; rfl
  · rintro σ H2 ⟨rfl, t, rfl⟩
    walk_at "rd"
    refine for_range0 (n := 5) (fun i σ H' => Keep a H H' ∧ Deck H' a (n + 1 + i) ∧ ∃ (y : Nat) (t : Option V), σ = [some (.ref a), some (.int (f : Int)), some (.int ((10 ^ v1.toNat : Nat) : Int)), t, some (.int (y : Int))]) ⟨k1, s1.d, 0, t, rfl⟩ ?_ ?_
    · rintro i σ H3 hi ⟨k3, d3, y, t, rfl⟩
      have s3 : S a _ H3 [] := ⟨d3, trivial⟩
      walk_at "rd"
      walk_at "pick"
      intro v4 H4 v40 v41 k4 s4
      obtain ⟨v4, rfl⟩ := nat_of v40
      walk_at "rd1"
      refine ⟨k3.trans k4, s4.d, y * 10 ^ 12 + v4, some (.int (i : Int)), ?_⟩
      have e : (y : Int) * 10 ^ (12 : Int).toNat + (v4 : Int) = ((y * 10 ^ 12 + v4 : Nat) : Int) := by
        rw [Int.natCast_add, Int.natCast_mul, Int.natCast_pow]; rfl
      rw [← e]
      rfl
    · rintro σ H3 ⟨k3, d3, y, t, rfl⟩
      have h10 : 0 < 10 ^ v1.toNat := Nat.pow_pos (by decide)
      walk_at "rd"
      show Q (.int ((y : Int) % ((10 ^ v1.toNat : Nat) : Int))) H3
      rw [← Int.natCast_emod]
      exact q _ H3 (Nat.lt_of_lt_of_le (Nat.mod_lt _ h10) (Nat.pow_le_pow_right (by decide) (by omega))) k3 d3
theorem pows_at {r : Nat} (h : r ≤ 10) : atI [V.int 1, .int 2, .int 4, .int 8, .int 16, .int 32, .int 64, .int 128, .int 256, .int 512, .int 1024] (r : Int) = some (.int (2 ^ r)) := by
  have : r = 0 ∨ r = 1 ∨ r = 2 ∨ r = 3 ∨ r = 4 ∨ r = 5 ∨ r = 6 ∨ r = 7 ∨ r = 8 ∨ r = 9 ∨ r = 10 := by omega
  rcases this with rfl | rfl | rfl | rfl | rfl | rfl | rfl | rfl | rfl | rfl | rfl <;> rfl
def sp__law_half (K : PySem.W.Frag) : Sp := fun vs H Q _ => ∃ (kp lp : Addr) (b m : Int) (t : V) (r : Nat), vs = [.ref kp, .ref lp] ∧ SqT K H kp [.int b, .int m] ∧ SqT K H lp [t, .int (r : Int)] ∧ Kd b m ∧ r ≤ 10 ∧ ∀ H', Same H H' → Q (.int (b * 2 ^ r + 2)) H'
theorem ok__law_half (T : Txt K mg) : FnOk P w K mg base CX0 1 T.a__law_half T.fd__law_half ["kind", "looks"] (sp__law_half K) := by
  refine T.F__law_half.ok sc__law_half (fun vs H Q E h => ?_) (fun cdv A outer s H vs Q E hr h => ?_)
  · obtain ⟨kp, lp, b, m, t, r, rfl, _⟩ := h
    rfl
  obtain ⟨kp, lp, b, m, t, r, rfl, hk, hl, hkd, hr2, q⟩ := h
  refine ⟨_, (pss_one (ps_ret (pe_op op_add (pe_op op_mul (pe_ix ix_tup (pv 0) pe_int (fun _ _ => rfl)) (pe_ix ix_list (pe_lst (pa_cons pe_int (pa_cons pe_int (pa_cons pe_int (pa_cons pe_int (pa_cons pe_int (pa_cons pe_int (pa_cons pe_int (pa_cons pe_int (pa_cons pe_int (pa_cons pe_int (pa_cons pe_int pa_nil)))))))))))) (pe_ix ix_tup (pv 1) pe_int (fun _ _ => rfl)) (fun _ _ => rfl))) pe_int))), ?_⟩
  have bd := hkd.bd
  walk_at "rd"
  refine ⟨by show 11 ≤ sizeLine; decide, fun l hl2 => ?_⟩
  have s1 := same_new hl2 (.lst [V.int 1, .int 2, .int 4, .int 8, .int 16, .int 32, .int 64, .int 128, .int 256, .int 512, .int 1024])
  have hl3 := sameT s1 hl
  walk_at "rd"
  refine ⟨l, _, _, _, rfl, rfl, SqL.of upd_same, pows_at hr2, ?_⟩
  walk_at "rd"
  exact q _ s1
def sp__law_numbers (K : PySem.W.Frag) : Sp := fun vs H Q _ => ∃ (a kp lp : Addr) (n : Nat) (b m : Int) (t p : Nat), vs = [.ref a, .ref kp, .ref lp] ∧ S a n H [At a kp (.tup [.int b, .int m]), At a lp (.tup [.int (t : Int), .int (p : Int)])] ∧ n ≤ 900000 ∧ Kd b m ∧ 1 ≤ t ∧ t ≤ 10 ∧ p ≤ 10 ∧
  ∀ (w d r : Int) pp H', w ≤ 1000 → H pp = none → Keep a H H' → H' pp = some (.tup [.int w, .int d, .int r]) → Q (.ref pp) H'
theorem ok__law_numbers (T : Txt K mg) : FnOk P w K mg base CX0 3 T.a__law_numbers T.fd__law_numbers ["deck", "kind", "looks"] (sp__law_numbers K) := by
  refine T.F__law_numbers.ok sc__law_numbers (fun vs H Q E h => ?_) (fun cdv A outer s H vs Q E hr h => ?_)
  · obtain ⟨a, kp, lp, n, b, m, t, p, rfl, _⟩ := h
    rfl
  obtain ⟨a, kp, lp, n, b, m, t, p, rfl, s0, hn, hkd, ht, ht2, hp, q⟩ := h
  have bd := hkd.bd
  refine ⟨_, (pss_cons (ps_set (i := 3) sc__law_numbers.nd rfl (Or.inl rfl) (pe_op op_add (pe_callB (cr_maxT2 rfl) (by rfl) T.z_max (by decide +kernel) (pa_cons (pv 2) pa_nil)) (pe_ix ix_list (pe_lst (pa_cons (pe_call (ok__law_pick T) (hr.mono (by first | decide | omega)) rfl T.m__law_pick T.F__law_pick.kp T.b__law_pick .nil pass0 (pa_cons (pv 0) (pa_cons pe_int pa_nil))) (pa_cons (pe_call (ok__law_pick T) (hr.mono (by first | decide | omega)) rfl T.m__law_pick T.F__law_pick.kp T.b__law_pick .nil pass0 (pa_cons (pv 0) (pa_cons pe_int pa_nil))) pa_nil))) (pe_call (ok__law_pick T) (hr.mono (by first | decide | omega)) rfl T.m__law_pick T.F__law_pick.kp T.b__law_pick .nil pass0 (pa_cons (pv 0) (pa_cons pe_int pa_nil))) (fun _ _ => rfl))))
      (pss_cons (ps_set (i := 4) sc__law_numbers.nd rfl (Or.inl rfl) (pe_op op_oneShl pe_int (pe_op op_sub1N (pv 3) pe_int)))
      (pss_cons (ps_set (i := 5) sc__law_numbers.nd rfl (Or.inl rfl) (pe_op op_add (pv 4) (pe_ix ix_list (pe_lst (pa_cons (pe_op op_mod (pe_call (ok__law_great T) (hr.mono (by first | decide | omega)) rfl T.m__law_great T.F__law_great.kp T.b__law_great .nil pass0 (pa_cons (pv 0) (pa_cons pe_int pa_nil))) (pv 4)) (pa_cons pe_int (pa_cons (pe_op op_sub (pv 4) pe_int) pa_nil)))) (pe_call (ok__law_pick T) (hr.mono (by first | decide | omega)) rfl T.m__law_pick T.F__law_pick.kp T.b__law_pick .nil pass0 (pa_cons (pv 0) (pa_cons pe_int pa_nil))) (fun _ _ => rfl))))
      (pss_cons (ps_set (i := 6) sc__law_numbers.nd rfl (Or.inl rfl) (pe_op op_fdiv (pe_op op_mul (pe_op op_mul (pe_ix ix_tup (pv 1) pe_int (fun _ _ => rfl)) (pe_ix ix_tup (pv 1) pe_int (fun _ _ => rfl))) (pv 5)) (pe_op op_sub (pe_ix ix_tup (pv 1) pe_int (fun _ _ => rfl)) pe_int)))
      (pss_cons (ps_set (i := 7) sc__law_numbers.nd rfl (Or.inl rfl) (pe_op op_oneShl pe_int (pe_op op_subN (pv 3) (pe_ix ix_tup (pv 2) pe_int (fun _ _ => rfl)))))
      (pss_cons (ps_set (i := 8) sc__law_numbers.nd rfl (Or.inl rfl) (pe_lst (pa_cons (pv 6) (pa_cons (pe_op op_sub (pv 6) (pe_call (ok__law_pick T) (hr.mono (by first | decide | omega)) rfl T.m__law_pick T.F__law_pick.kp T.b__law_pick .nil pass0 (pa_cons (pv 0) (pa_cons pe_int pa_nil)))) (pa_cons (pe_op op_mod (pe_call (ok__law_great T) (hr.mono (by first | decide | omega)) rfl T.m__law_great T.F__law_great.kp T.b__law_great .nil pass0 (pa_cons (pv 0) (pa_cons pe_int pa_nil))) (pe_op op_add (pv 6) pe_int)) (pa_cons (pe_call (ok__law_pick T) (hr.mono (by first | decide | omega)) rfl T.m__law_pick T.F__law_pick.kp T.b__law_pick .nil pass0 (pa_cons (pv 0) (pa_cons pe_int pa_nil))) pa_nil))))))
      (pss_cons (ps_set (i := 8) sc__law_numbers.nd rfl (Or.inl rfl) (pe_ix ix_list (pv 8) (pe_call (ok__law_pick T) (hr.mono (by first | decide | omega)) rfl T.m__law_pick T.F__law_pick.kp T.b__law_pick .nil pass0 (pa_cons (pv 0) (pa_cons pe_int pa_nil))) (fun _ _ => rfl)))
      (C8.pss_cut (ps_if (pt_cmpR op_eq (pe_call (ok__law_pick T) (hr.mono (by first | decide | omega)) rfl T.m__law_pick T.F__law_pick.kp T.b__law_pick .nil pass0 (pa_cons (pv 0) (pa_cons pe_int pa_nil))) pe_int (nomark _)) (pss_one (ps_set (i := 8) sc__law_numbers.nd rfl (Or.inl rfl) (pe_callB (call_min2 rfl) (by rfl) T.z_min (by decide +kernel) (pa_cons (pv 6) (pa_cons (pe_callB (call_max2 rfl) (by rfl) T.z_max (by decide +kernel) (pa_cons pe_int (pa_cons (pe_op op_sub (pe_op op_add (pe_op op_mulW (pe_op op_fdivW (pv 8) (pv 7)) (pv 7)) (pe_call (ok__law_pick T) (hr.mono (by first | decide | omega)) rfl T.m__law_pick T.F__law_pick.kp T.b__law_pick .nil pass0 (pa_cons (pv 0) (pa_cons pe_int pa_nil)))) pe_int) pa_nil))) pa_nil))))) pss_nil)
      (pss_cons (ps_set (i := 8) sc__law_numbers.nd rfl (Or.inl rfl) (pe_op op_mul (pv 8) (pe_ix ix_list (pe_lst (pa_cons pe_int (pa_cons (pe_un un_neg pe_int) pa_nil))) (pe_call (ok__law_pick T) (hr.mono (by first | decide | omega)) rfl T.m__law_pick T.F__law_pick.kp T.b__law_pick .nil pass0 (pa_cons (pv 0) (pa_cons pe_int pa_nil))) (fun _ _ => rfl))))
      (pss_cons (ps_set (i := 9) sc__law_numbers.nd rfl (Or.inl rfl) (pe_call (ok__law_pick T) (hr.mono (by first | decide | omega)) rfl T.m__law_pick T.F__law_pick.kp T.b__law_pick .nil pass0 (pa_cons (pv 0) (pa_cons pe_int pa_nil))))
      (pss_cons (ps_set (i := 3) sc__law_numbers.nd rfl (Or.inl rfl) (pe_ix ix_list (pe_lst (pa_cons (pv 3) (pa_cons (pv 3) (pa_cons (pe_op op_sub1N (pv 3) pe_int) (pa_cons (pe_op op_add (pv 3) pe_int) (pa_cons (pe_op op_sub (pe_callB (cr_maxT2 rfl) (by rfl) T.z_max (by decide +kernel) (pa_cons (pv 2) pa_nil)) pe_int) (pa_cons (pe_op op_sub pe_int (pv 3)) pa_nil))))))) (pe_callB (call_max2 rfl) (by rfl) T.z_max (by decide +kernel) (pa_cons pe_int (pa_cons (pe_op op_sub (pv 9) pe_int) pa_nil))) (fun _ _ => rfl)))
      (pss_cons (ps_set (i := 8) sc__law_numbers.nd rfl (Or.inl rfl) (pe_op op_add (pv 8) (pe_ix ix_list (pe_lst (pa_cons pe_int (pa_cons pe_int (pa_cons pe_int (pa_cons pe_int (pa_cons pe_int (pa_cons (pe_op op_add (pv 6) pe_int) pa_nil))))))) (pe_callB (call_max2 rfl) (by rfl) T.z_max (by decide +kernel) (pa_cons pe_int (pa_cons (pe_op op_sub (pv 9) pe_int) pa_nil))) (fun _ _ => rfl))))
      (pss_one (ps_ret (pe_tup (pa_cons (pv 3) (pa_cons (pe_ix ix_list (pe_lst (pa_cons (pv 5) (pa_cons (pe_op op_sub pe_int (pv 5)) pa_nil))) (pe_callTy call_int1 (by rfl) T.z_int (by decide +kernel) (pa_cons (pe_cmpR op_eq (pv 9) pe_int (nomark _)) pa_nil)) (fun _ _ => rfl)) (pa_cons (pv 8) pa_nil)))))))))))))))))), ?_⟩
  walk_at "rs"
  obtain ⟨mx, hmx, hm1, hm2, hm3⟩ : ∃ mx : Int, (mx = if (p : Int) > (t : Int) then (p : Int) else (t : Int)) ∧ (t : Int) ≤ mx ∧ (p : Int) ≤ mx ∧ mx ≤ 10 := ⟨_, rfl, by split <;> omega, by split <;> omega, by split <;> omega⟩
  refine ⟨lp, _, _, rfl, SqT.of (s0.at_ (.tail _ (.head _))), ?_⟩
  rw [← hmx]
  walk_at "rs"
  walk_at "pick"
  intro v1 H1 v10 v11 k1 s1
  walk_at "rs"
  walk_at "pick"
  intro v2 H2 v20 v21 k2 s2
  walk_at "rs"
  walk_at "choose"
  intro y H3 my k3 s3
  obtain ⟨k, e, hk1, hk2, hk3, hk4⟩ : ∃ k : Nat, (∃ z : Int, y = .int z ∧ mx + z = (k : Int)) ∧ 1 ≤ k ∧ t ≤ k ∧ p ≤ k ∧ k ≤ 120 := by
    simp only [List.mem_cons, List.not_mem_nil, or_false] at my
    rcases my with e | e
    · exact ⟨(mx + v1).toNat, ⟨v1, e, by omega⟩, by omega, by omega, by omega, by omega⟩
    · exact ⟨(mx + v2).toNat, ⟨v2, e, by omega⟩, by omega, by omega, by omega, by omega⟩
  obtain ⟨z, rfl, e⟩ := e
  clear my
  refine add_to e ?_
  have h1 := two_pos (k - 1)
  have h2 := pow_le (n := k - 1) (k := 120) (by omega)
  have h3 := two_pos (k - p)
  have h4 := pow_le (n := k - p) (k := 120) (by omega)
  walk_at "rs"
  refine ⟨a, _, 50, rfl, s3.d, by omega, by omega, fun g H4 hg k4 d4 => ?_⟩
  have s4 := s3.keep k4 d4
  have g1 := Int.emod_nonneg (g : Int) (b := 2 ^ (k - 1)) (by omega)
  have g2 := Int.emod_lt_of_pos (g : Int) h1
  walk_at "rs"
  walk_at "choose"
  intro y H5 my k5 s5
  obtain ⟨d, e, hd1, hd2⟩ : ∃ d : Int, (∃ z : Int, y = .int z ∧ 2 ^ (k - 1) + z = d) ∧ 0 < d ∧ d ≤ 2 * 2 ^ 120 := by
    simp only [List.mem_cons, List.not_mem_nil, or_false] at my
    rcases my with e | e | e
    · exact ⟨_, ⟨_, e, rfl⟩, by omega, by omega⟩
    · exact ⟨_, ⟨_, e, rfl⟩, by omega, by omega⟩
    · exact ⟨_, ⟨_, e, rfl⟩, by omega, by omega⟩
  obtain ⟨z2, rfl, e2⟩ := e
  clear my
  refine add_to e2 ?_
  walk_at "rs"
  have hR0 : 0 ≤ b * m * d / (b - 1) := Int.ediv_nonneg (Int.mul_nonneg (by omega) (by omega)) (by omega)
  have hR1 : b * m * d / (b - 1) ≤ 2 ^ 130 := by
    have h5 : b * m * d ≤ 240 * d := Int.mul_le_mul_of_nonneg_right (by omega) (by omega)
    have h6 := Int.ediv_le_self (b - 1) (a := b * m * d) (Int.mul_nonneg (by omega) (by omega))
    omega
  refine ⟨⟨by omega, by omega⟩, ?_⟩
  walk_at "rs"
  walk_at "pick"
  intro v6 H6 v60 v61 k6 s6
  walk_at "rs"
  refine ⟨a, _, 50, rfl, s6.d, by omega, by omega, fun g7 H7 hg7 k7 d7 => ?_⟩
  have s7 := s6.keep k7 d7
  have g71 := Int.emod_nonneg (g7 : Int) (b := b * m * d / (b - 1) + 1) (by omega)
  have g72 := Int.emod_lt_of_pos (g7 : Int) (b := b * m * d / (b - 1) + 1) (by omega)
  walk_at "rs"
  walk_at "pick"
  intro v8 H8 v80 v81 k8 s8
  walk_at "rs"
  refine ⟨by show 4 ≤ sizeLine; decide, fun l9 hl9 => ?_⟩
  have s9 := s8.new hl9 (.lst [.int (b * m * d / (b - 1)), .int (b * m * d / (b - 1) - v6), .int ((g7 : Int) % (b * m * d / (b - 1) + 1)), .int v8])
  walk_at "rs"
  walk_at "pick"
  intro v9 H9 v90 v91 k9 s9
  obtain ⟨y, hy, my⟩ := at_some (xs := [V.int (b * m * d / (b - 1)), .int (b * m * d / (b - 1) - v6), .int ((g7 : Int) % (b * m * d / (b - 1) + 1)), .int v8]) v90 (by show v9 < 4; omega)
  obtain ⟨r, rfl, hr1, hr2⟩ : ∃ r : Int, y = .int r ∧ -10 ≤ r ∧ r ≤ 2 ^ 130 + 10 := by
    simp only [List.mem_cons, List.not_mem_nil, or_false] at my
    rcases my with e | e | e | e
    · exact ⟨_, e, by omega, by omega⟩
    · exact ⟨_, e, by omega, by omega⟩
    · exact ⟨_, e, by omega, by omega⟩
    · exact ⟨_, e, by omega, by omega⟩
  refine ⟨l9, _, _, _, rfl, rfl, SqL.of (s9.at_ (.head _)), hy, ?_⟩
  have s10 := s9.drop
  have kk : Keep a H H9 := k1.trans (k2.trans (k3.trans (k4.trans (k5.trans (k6.trans (k7.trans (k8.trans ((Keep.new hl9).trans k9))))))))
  clear k1 k2 k3 k4 k5 k6 k7 k8 k9 s9 s8 s7 s6 s5 s4 s3 s2 s1 my hy hg7 d7 g71 g72 hg d4 g1 g2
  refine ⟨fun σ' H' => Keep a H H' ∧ S a (n + 40) H' [At a kp (HO.tup [V.int b, V.int m]), At a lp (HO.tup [V.int (t : Int), V.int (p : Int)])] ∧ ∃ r : Int, σ' = [some (.ref a), some (.ref kp), some (.ref lp), some (.int (k : Int)), some (.int (2 ^ (k - 1))), some (.int d), some (.int (b * m * d / (b - 1))), some (.int (2 ^ (k - p))), some (.int r), none], ?_, ?_⟩
  · walk_at "rs"
    walk_at "pick"
    intro v11 H11 v110 v111 k11 s11
    walk_at "rs"
    refine ite2 (fun c => ?_) (fun c => ?_)
    · walk_at "rs"
      refine ⟨div2 (by omega), ?_⟩
      walk_at "rs"
      have cm : CMulW (r / 2 ^ (k - p)) (2 ^ (k - p)) := by
        have e7 : (r / 2 ^ (k - p)).natAbs ≤ r.natAbs := by
          rcases Int.le_total 0 r with c0 | c0
          · have := Int.ediv_nonneg c0 (Int.le_of_lt h3)
            have := Int.ediv_le_self (2 ^ (k - p)) c0
            omega
          · have := Int.mul_ediv_self_le (x := r) (k := 2 ^ (k - p)) (by omega)
            have h8 : r ≤ r / 2 ^ (k - p) := by
              rw [Int.le_ediv_iff_mul_le h3]
              have := Int.mul_le_mul_of_nonpos_left (a := r) (b := 2 ^ (k - p)) (c := 1) c0 (by omega)
              rw [Int.mul_one] at this
              exact this
            have := Int.ediv_le_ediv h3 c0
            rw [Int.zero_ediv] at this
            omega
        refine wide_mul (a := 140) (b := 140) ?_ ?_ (by decide) (by decide) (by decide)
        · have e9 : (2 : Nat) ^ 140 = 1024 * 2 ^ 130 := by decide
          omega
        · have e9 : (2 : Nat) ^ 140 = 1024 * 2 ^ 130 := by decide
          omega
      refine ⟨cm, ?_⟩
      walk_at "rs"
      walk_at "pick"
      intro v12 H12 v120 v121 k12 s12
      walk_at "rs"
      exact ⟨kk.trans (k11.trans k12), s12.le (by omega), _, rfl⟩
    · walk_at "rs"
      exact ⟨kk.trans k11, s11.le (by omega), r, rfl⟩
  · rintro σ' H' ⟨kk, s1, r, rfl⟩
    walk_at "rs"
    walk_at "choose"
    intro y H1 my k1 s1
    obtain ⟨y, rfl, hy0, hy1⟩ : ∃ z : Int, y = .int z ∧ -1 ≤ z ∧ z ≤ 1 := by
      simp only [List.mem_cons, List.not_mem_nil, or_false] at my
      rcases my with e | e
      · exact ⟨_, e, by decide, by decide⟩
      · exact ⟨_, e, by decide, by decide⟩
    walk_at "rs"
    walk_at "pick"
    intro odd H2 od0 od1 k2 s2
    walk_at "rs"
    refine ⟨lp, _, _, rfl, SqT.of (s2.at_ (by walk_at "mem")), ?_⟩
    rw [← hmx]
    walk_at "rs"
    obtain ⟨ix, hix, hx0, hx1⟩ : ∃ ix : Int, (ix = if odd - 6 > 0 then odd - 6 else 0) ∧ 0 ≤ ix ∧ ix < 6 := ⟨_, rfl, by split <;> omega, by split <;> omega⟩
    refine ⟨by show 6 ≤ sizeLine; decide, fun l3 hl3 => ?_⟩
    have s3 := s2.new hl3 (.lst [V.int (k : Int), V.int (k : Int), V.int ((k - 1 : Nat) : Int), V.int ((k : Int) + 1), V.int (mx - 1), V.int (0 - (k : Int))])
    walk_at "rs"
    rw [← hix]
    obtain ⟨y3, hy3, my3⟩ := at_some (xs := [V.int (k : Int), V.int (k : Int), V.int ((k - 1 : Nat) : Int), V.int ((k : Int) + 1), V.int (mx - 1), V.int (0 - (k : Int))]) hx0 (by show ix < 6; omega)
    obtain ⟨w3, rfl, hw3⟩ : ∃ z : Int, y3 = .int z ∧ z ≤ 1000 := by
      simp only [List.mem_cons, List.not_mem_nil, or_false] at my3
      rcases my3 with e | e | e | e | e | e <;> exact ⟨_, e, by omega⟩
    refine ⟨l3, _, _, _, rfl, rfl, SqL.of upd_same, hy3, ?_⟩
    walk_at "rs"
    refine ⟨by show 6 ≤ sizeLine; decide, fun l4 hl4 => ?_⟩
    have s4 := s3.new hl4 (.lst [V.int 0, V.int 0, V.int 0, V.int 1, V.int 0, V.int (b * m * d / (b - 1) + 1)])
    walk_at "rs"
    rw [← hix]
    obtain ⟨y4, hy4, my4⟩ := at_some (xs := [V.int 0, V.int 0, V.int 0, V.int 1, V.int 0, V.int (b * m * d / (b - 1) + 1)]) hx0 (by show ix < 6; omega)
    obtain ⟨w4, rfl⟩ : ∃ z : Int, y4 = .int z := by
      simp only [List.mem_cons, List.not_mem_nil, or_false] at my4
      rcases my4 with e | e | e | e | e | e <;> exact ⟨_, e⟩
    refine ⟨l4, _, _, _, rfl, rfl, SqL.of upd_same, hy4, ?_⟩
    walk_at "rs"
    refine ⟨by show 2 ≤ sizeLine; decide, fun l5 hl5 => ?_⟩
    have s5 := s4.new hl5 (.lst [V.int d, V.int (0 - d)])
    walk_at "rs"
    obtain ⟨c, hc, ec⟩ : ∃ c : Int, (c = 0 ∨ c = 1) ∧ c = if decide (V.int odd = V.int 5) = true then 1 else 0 := ⟨_, by split <;> simp, rfl⟩
    refine .inr ⟨_, rfl, ?_⟩
    rw [← ec]
    obtain ⟨d5, hn5⟩ : ∃ z : Int, atI [V.int d, V.int (0 - d)] c = some (.int z) := by
      rcases hc with e | e <;> rw [e]
      · exact ⟨d, rfl⟩
      · exact ⟨0 - d, rfl⟩
    refine ⟨l5, _, _, _, rfl, rfl, SqL.of upd_same, hn5, ?_⟩
    walk_at "rs"
    refine ⟨by show 3 ≤ sizeLine; decide, fun pp hpp => ?_⟩
    have k5 := kk.trans (k1.trans (k2.trans ((Keep.new hl3).trans ((Keep.new hl4).trans (Keep.new (o := .lst [V.int d, V.int (0 - d)]) hl5)))))
    exact q w3 d5 _ pp _ hw3 (k5.none_of s5.d hpp) (k5.trans (Keep.new hpp)) upd_same
theorem bits_pow {d : Int} {k : Nat} (h1 : 1 ≤ d) : (Builtin.Int.intBits d : Int) = ((k + 1 : Nat) : Int) ↔ 2 ^ k ≤ d ∧ d < 2 ^ (k + 1) := by
  have e1 := two_cast k
  have e2 := two_cast (k + 1)
  have h0 : d.natAbs ≠ 0 := by omega
  have e3 : Builtin.Int.intBits d = d.natAbs.log2 + 1 := by
    unfold Builtin.Int.intBits
    have hd0 : d ≠ 0 := by omega
    simp [hd0]
  rw [e3]
  have a1 := @Nat.le_log2 d.natAbs k h0
  have a2 := @Nat.log2_lt d.natAbs (k + 1) h0
  constructor
  · intro h
    have := a1.mp (by omega)
    have := a2.mp (by omega)
    omega
  · intro h
    have := a1.mpr (by omega)
    have := a2.mpr (by omega)
    omega
def sp__law_is_point (K : PySem.W.Frag) : Sp := fun vs H Q _ => ∃ (kp lp pp : Addr) (b m t p w d r : Int), vs = [.ref kp, .ref lp, .ref pp] ∧ SqT K H kp [.int b, .int m] ∧ SqT K H lp [.int t, .int p] ∧ SqT K H pp [.int w, .int d, .int r] ∧ Kd b m ∧ 1 ≤ t ∧ w ≤ 1000 ∧ Q (.bl (isPt b m t p w d r)) H
theorem ok__law_is_point (T : Txt K mg) : FnOk P w K mg base CX0 1 T.a__law_is_point T.fd__law_is_point ["kind", "looks", "point"] (sp__law_is_point K) := by
  refine T.F__law_is_point.ok sc__law_is_point (fun vs H Q E h => ?_) (fun cdv A outer s H vs Q E hr h => ?_)
  · obtain ⟨kp, lp, pp, b, m, t, p, w, d, r, rfl, _⟩ := h
    rfl
  obtain ⟨kp, lp, pp, b, m, t, p, w, d, r, rfl, hk, hl, hp, hkd, ht, hw, q⟩ := h
  refine ⟨_, (pss_cons (ps_asg (pv 2) (pg_tup rfl (pgs_cons (pg_name (i := 3) sc__law_is_point.nd rfl (Or.inl rfl)) (pgs_cons (pg_name (i := 4) sc__law_is_point.nd rfl (Or.inl rfl)) (pgs_cons (pg_name (i := 5) sc__law_is_point.nd rfl (Or.inl rfl)) pgs_nil)))))
      (pss_cons (ps_if (PW.pt (pw_or (pt_cmpR op_lt (pv 3) (pe_ix ix_tup (pv 1) pe_int (fun _ _ => rfl)) (nomark _)) (pw_or (pt_cmpR op_lt (pv 3) (pe_ix ix_tup (pv 1) pe_int (fun _ _ => rfl)) (nomark _)) (pw_or1 (pt_not (pt_chain op_le op_lt (pe_op op_oneShl pe_int (pe_op op_sub1N (pv 3) pe_int)) (pv 4) (pe_op op_oneShl pe_int (pv 3)))))))) (pss_one (ps_ret pe_bl)) pss_nil)
      (pss_one (ps_ret (pe_cmpR op_le (pe_op op_mul (pe_op op_sub (pe_ix ix_tup (pv 0) pe_int (fun _ _ => rfl)) pe_int) (pe_callB (call_max2 rfl) (by rfl) T.z_max (by decide +kernel) (pa_cons (pv 5) (pa_cons (pe_op op_sub pe_int (pv 5)) pa_nil)))) (pe_op op_mul (pe_op op_mul (pe_ix ix_tup (pv 0) pe_int (fun _ _ => rfl)) (pe_ix ix_tup (pv 0) pe_int (fun _ _ => rfl))) (pv 4)) (nomark _)))))), ?_⟩
  have bd := hkd.bd
  unfold isPt at q
  by_cases c1 : t ≤ w
  · rw [decide_eq_true c1, Bool.true_and] at q
    by_cases c2 : p ≤ w
    · rw [decide_eq_true c2, Bool.true_and] at q
      obtain ⟨k, rfl⟩ : ∃ k : Nat, w = ((k + 1 : Nat) : Int) := ⟨(w - 1).toNat, by omega⟩
      have bp := @bits_pow d k
      have hk2 := two_pos k
      by_cases c3 : 1 ≤ d
      · rw [decide_eq_true c3, Bool.true_and] at q
        have bq := bp c3
        by_cases c4 : 2 ^ k ≤ d
        · by_cases c5 : d < 2 ^ (k + 1)
          · rw [decide_eq_true (bq.mpr ⟨c4, c5⟩), Bool.true_and] at q
            walk_at "go"
            refine iteY c4 ?_
            walk_at "go"
            have e : (b - 1) * (if 0 - r > r then 0 - r else r) = (b - 1) * absI r := by
              unfold absI
              congr 1
              split <;> split <;> omega
            show Q (.bl (decide ((b - 1) * (if 0 - r > r then 0 - r else r) ≤ b * m * d))) H
            rw [e]
            exact q
          · rw [decide_eq_false (fun z => c5 (bq.mp z).2), Bool.false_and] at q
            walk_at "go"
            refine iteY c4 ?_
            walk_at "go"
            exact q
        · rw [decide_eq_false (fun z => c4 (bq.mp z).1), Bool.false_and] at q
          walk_at "go"
          refine iteN c4 ?_
          walk_at "go"
          exact q
      · rw [decide_eq_false c3, Bool.false_and] at q
        have c4 : ¬ 2 ^ k ≤ d := by omega
        walk_at "go"
        refine iteN c4 ?_
        walk_at "go"
        exact q
    · rw [decide_eq_false c2, Bool.false_and] at q
      walk_at "go"
      exact q
  · rw [decide_eq_false c1, Bool.false_and] at q
    walk_at "go"
    exact q
theorem cells_due {K : PySem.W.Frag} {H : Hp} {l c1 c2 : Addr} {s : Nat} {a b : Int} (hs : s = 1 ∨ s = 2) (hl : H l = some (.lst (cutV [V.ref c1, V.ref c2] none (some (s : Int))))) (h1 : H c1 = some (.tup [.int a, .int b])) (h2 : H c2 = some (.tup [.int a, .int (b - 1)])) : Dp K H (.ref l) (tupsI (cellsI s a b)) := by
  have t1 : Dp K H (.ref c1) (.tuple [.int a, .int b]) := .tup (SqT.of h1) (.cons (.int _) (.cons (.int _) .nil))
  have t2 : Dp K H (.ref c2) (.tuple [.int a, .int (b - 1)]) := .tup (SqT.of h2) (.cons (.int _) (.cons (.int _) .nil))
  rcases hs with rfl | rfl
  · have e : tupsI (cellsI 1 a b) = .list [.tuple [.int a, .int b]] := by
      simp [tupsI, cellsI, List.range_succ]
    rw [e]
    exact .lst (xs := [V.ref c1]) (SqL.of hl) (.cons t1 .nil)
  · have e : tupsI (cellsI 2 a b) = .list [.tuple [.int a, .int b], .tuple [.int a, .int (b - 1)]] := by
      simp [tupsI, cellsI, List.range_succ]
    rw [e]
    exact .lst (xs := [V.ref c1, V.ref c2]) (SqL.of hl) (.cons t1 (.cons t2 .nil))
def sp__law_shown_right (K : PySem.W.Frag) : Sp := fun vs H Q _ => ∃ (kp lp pp : Addr) (b m d r : Int) (t p w : Nat), vs = [.ref kp, .ref lp, .ref pp] ∧ SqT K H kp [.int b, .int m] ∧ SqT K H lp [.int (t : Int), .int (p : Int)] ∧ SqT K H pp [.int (w : Int), .int d, .int r] ∧ Kd b m ∧ t ≤ w ∧ p ≤ w ∧ w ≤ 1000 ∧ 1 ≤ d ∧ (b - 1) * absI r ≤ b * m * d ∧ ∀ H', Same H H' → Q (.bl true) H'
theorem ok__law_shown_right (T : Txt K mg) : FnOk P w K mg base CX0 2 T.a__law_shown_right T.fd__law_shown_right ["kind", "looks", "point"] (sp__law_shown_right K) := by
  refine T.F__law_shown_right.ok sc__law_shown_right (fun vs H Q E h => ?_) (fun cdv A outer s H vs Q E hr h => ?_)
  · obtain ⟨kp, lp, pp, b, m, d, r, t, p, w, rfl, _⟩ := h
    rfl
  obtain ⟨kp, lp, pp, b, m, d, r, t, p, w, rfl, hk, hl, hp, hkd, htw, hpw, hw, hd, hpt, q⟩ := h
  refine ⟨_, (pss_cons (ps_asg (pv 2) (pg_tup rfl (pgs_cons (pg_name (i := 3) sc__law_shown_right.nd rfl (Or.inl rfl)) (pgs_cons (pg_name (i := 4) sc__law_shown_right.nd rfl (Or.inl rfl)) (pgs_cons (pg_name (i := 5) sc__law_shown_right.nd rfl (Or.inl rfl)) pgs_nil)))))
      (pss_cons (ps_set (i := 6) sc__law_shown_right.nd rfl (Or.inl rfl) (pe_op op_fdivW (pv 4) (pe_op op_oneShl pe_int (pe_op op_subN (pv 3) (pe_ix ix_tup (pv 1) pe_int (fun _ _ => rfl))))))
      (pss_cons (ps_set (i := 7) sc__law_shown_right.nd rfl (Or.inl rfl) (pe_op op_fdivW (pv 5) (pe_op op_oneShl pe_int (pe_op op_subN (pv 3) (pe_ix ix_tup (pv 1) pe_int (fun _ _ => rfl))))))
      (pss_cons (ps_for PassesOwn.never rfl (pi_tup (pe_tup (pa_cons pe_int (pa_cons pe_int pa_nil)))) (pg_name (i := 8) sc__law_shown_right.nd rfl (Or.inl rfl)) (pss_cons (ps_set (i := 9) sc__law_shown_right.nd rfl (Or.inl rfl) (pe_slice sl_list (pe_lst (pa_cons (pe_tup (pa_cons (pv 6) (pa_cons (pv 7) pa_nil))) (pa_cons (pe_tup (pa_cons (pv 6) (pa_cons (pe_op op_sub (pv 7) pe_int) pa_nil))) pa_nil))) po_none (po_some (pv 8))))
      (pss_cons (ps_set (i := 10) sc__law_shown_right.nd rfl (Or.inl rfl) (pe_call (ok_cells_of T) (hr.mono (by first | decide | omega)) rfl T.m_cells_of T.F_cells_of.kp T.b_cells_of .nil pass0 (pa_cons (pv 0) (pa_cons (pv 1) (pa_cons (pv 8) (pa_cons (pv 2) pa_nil))))))
      (pss_cons (ps_if (PW.pt (pw_or (pt_not (pt_val (pe_callB call_isi (by rfl) T.z_isinstance (by decide +kernel) (pa_cons (pv 10) (pa_cons (pe_bltn (v := .ty "list") (u := .type "list") (by rfl) T.z_list (by decide +kernel) rfl) pa_nil))))) (pw_or1 (pt_cmpR (op_neD hr.units) (pv 10) (pv 9) (nomark _))))) (pss_one (ps_ret pe_bl)) pss_nil)
      (pss_cons (ps_expr (pe_bm PySem.F.plainAttrs_list PySem.F.slot_list_append PySem.F.type_list_append mt_append (pv 10) (pa_cons pe_non pa_nil)))
      (pss_one (ps_if (pt_cmpR (op_neD hr.units) (pe_call (ok_cells_of T) (hr.mono (by first | decide | omega)) rfl T.m_cells_of T.F_cells_of.kp T.b_cells_of .nil pass0 (pa_cons (pv 0) (pa_cons (pv 1) (pa_cons (pv 8) (pa_cons (pv 2) pa_nil))))) (pv 9) (nomark _)) (pss_one (ps_ret pe_bl)) pss_nil)))))))
      (pss_cons (ps_set (i := 11) sc__law_shown_right.nd rfl (Or.inr rfl) (pe_lst pa_nil))
      (pss_cons (ps_for PassesOwn.never rfl (pi_range2 (by rfl) T.z_range (pa_cons (pe_op op_sub pe_int (pe_ix ix_tup (pv 0) pe_int (fun _ _ => rfl))) (pa_cons (pe_op op_add (pe_ix ix_tup (pv 0) pe_int (fun _ _ => rfl)) pe_int) pa_nil))) (pg_name (i := 12) sc__law_shown_right.nd rfl (Or.inl rfl)) (pss_cons (ps_set (i := 13) sc__law_shown_right.nd rfl (Or.inl rfl) (pe_op op_sub (pv 5) (pe_op op_mul (pv 12) (pv 4))))
      (pss_cons (ps_set (i := 10) sc__law_shown_right.nd rfl (Or.inl rfl) (pe_call (ok_serves T) (hr.mono (by first | decide | omega)) rfl T.m_serves T.F_serves.kp T.b_serves .nil pass0 (pa_cons (pv 0) (pa_cons (pv 12) (pa_cons (pv 2) pa_nil)))))
      (pss_cons (ps_set (i := 9) sc__law_shown_right.nd rfl (Or.inl rfl) (pe_cmpR op_le (pe_op op_mul (pe_op op_sub (pe_ix ix_tup (pv 0) pe_int (fun _ _ => rfl)) pe_int) (pe_callB (call_max2 rfl) (by rfl) T.z_max (by decide +kernel) (pa_cons (pv 13) (pa_cons (pe_op op_sub pe_int (pv 13)) pa_nil)))) (pe_op op_mul (pe_ix ix_tup (pv 0) pe_int (fun _ _ => rfl)) (pv 4)) (nomark _)))
      (pss_cons (ps_if (PW.pt (pw_or (pt_not (pt_val (pe_callB call_isi (by rfl) T.z_isinstance (by decide +kernel) (pa_cons (pv 10) (pa_cons (pe_bltn (v := .ty "bool") (u := .type "bool") (by rfl) T.z_bool (by decide +kernel) rfl) pa_nil))))) (pw_or1 (pt_cmpR (op_neD hr.units) (pv 10) (pv 9) (nomark _))))) (pss_one (ps_ret pe_bl)) pss_nil)
      (pss_one (ps_expr (pe_bm PySem.F.plainAttrs_list PySem.F.slot_list_append PySem.F.type_list_append mt_append (pv 11) (pa_cons (pv 9) pa_nil)))))))))
      (pss_cons (ps_setLc (i := 14) (own := [("k", 15)]) (g := (gName 15)) rfl sc__law_shown_right.nd rfl rfl (sw_true rfl rfl rfl (by decide +kernel)) (pi_range1 (by rfl) T.z_range (pa_cons (pe_callB call_len_seq (by rfl) T.z_len (by decide +kernel) (pa_cons (pv 11) pa_nil)) pa_nil)) (blkOk_by (own := [("k", 15)]) (N := ["kind", "looks", "point", "wide", "divisor", "rest", "top", "look", "sight", "due", "told", "marks", "figure", "far", "some", "k"]) (sc := defScope s__law_shown_right) (by decide +kernel)) (fun _ _ _ _ _ => (pg_name (i := 15) sc__law_shown_right.nd rfl (Or.inl rfl))) (fun _ _ _ _ _ => (pts_one (pt_val (pe_ix (show IxR _ (rIxL K) from ix_list) (pv 11) (pv 15) (fun _ _ => rfl))))) (fun _ _ _ _ _ => (pv 15)))
      (pss_one (ps_ret (pe_and (pe_cmpR (op_neD hr.units) (pv 14) (pe_lst pa_nil) (nomark _)) (pe_one (pe_cmpR (op_eqD hr.units) (pv 14) (pe_listRg rfl (by rfl) T.z_list (prg_2 (by rfl) T.z_range (pe_ix ix_list (pv 14) pe_int (fun _ _ => rfl)) (pe_op op_add (pe_ix ix_list (pv 14) (pe_un un_neg pe_int) (fun _ _ => rfl)) pe_int))) (nomark _))))))))))))), ?_⟩
  have bd := hkd.bd
  walk_at "rs"
  refine ⟨div2 (by omega), ?_⟩
  walk_at "rs"
  refine ⟨div2 (by omega), ?_⟩
  walk_at "rs"
  refine ⟨by show 2 ≤ sizeLine; decide, fun tp htp => ?_⟩
  have s0 : Same H (upd H tp (.tup [.int 1, .int 2])) := same_new htp _
  refine ⟨tp, rfl, ⟨_, SqT.of upd_same⟩, for_tup (xs := [.int 1, .int 2]) (fun i σ H' => Same H H' ∧ H' tp = some (.tup [.int 1, .int 2]) ∧ ∃ t8 t9 t10 : Option V, σ = [some (.ref kp), some (.ref lp), some (.ref pp), some (.int (w : Int)), some (.int d), some (.int r), some (.int (d / 2 ^ (w - t))), some (.int (r / 2 ^ (w - p))), t8, t9, t10, none, none, none, none, none])
    ⟨s0, upd_same, _, _, _, rfl⟩ (fun i σ H' _ e => SqT.of e.2.1) ?_ ?_⟩
  · rintro i x σ H1 hx ⟨s1, h1t, t8, t9, t10, rfl⟩
    obtain ⟨sg, rfl, hs⟩ : ∃ sg : Nat, x = .int (sg : Int) ∧ (sg = 1 ∨ sg = 2) := by
      match i, hx with
      | 0, e => exact ⟨1, (Option.some.inj e).symm, .inl rfl⟩
      | 1, e => exact ⟨2, (Option.some.inj e).symm, .inr rfl⟩
    walk_at "rs"
    refine ⟨by show 2 ≤ sizeLine; decide, fun c1 hc1 => ?_⟩
    walk_at "rs"
    refine ⟨by show 2 ≤ sizeLine; decide, fun c2 hc2 => ?_⟩
    walk_at "rs"
    refine ⟨by show 2 ≤ sizeLine; decide, fun c3 hc3 => ?_⟩
    walk_at "rs"
    refine ⟨c3, _, rfl, SqL.of upd_same, fun c4 hc4 => ?_⟩
    have n1 := same_new hc1 (.tup [V.int (d / 2 ^ (w - t)), V.int (r / 2 ^ (w - p))])
    have n2 := same_new hc2 (.tup [V.int (d / 2 ^ (w - t)), V.int (r / 2 ^ (w - p) - 1)])
    have n3 := same_new hc3 (.lst [V.ref c1, V.ref c2])
    have n4 := same_new hc4 (.lst (cutV [V.ref c1, V.ref c2] none (some (sg : Int))))
    have hd1 := n4 _ _ (n3 _ _ (n2 _ _ upd_same))
    have hd2 := n4 _ _ (n3 _ _ upd_same)
    have hd4 := new_at hc4 (.lst (cutV [V.ref c1, V.ref c2] none (some (sg : Int))))
    have nn := n1.trans (n2.trans (n3.trans n4))
    have sd := s1.trans nn
    have hdt := nn _ _ h1t
    walk_at "rs"
    refine ⟨lp, pp, _, d, r, sg, t, p, w, rfl, sameT sd hl, sameT sd hp, htw, hpw, by omega, fun H6 v s6 dv => ?_⟩
    obtain ⟨l, acc, rfl, hln, hla, hal⟩ := Dt.list_inv dv
    walk_at "go"
    refine ⟨_, _, Dt.dp _ _ dv, cells_due hs (s6 _ _ hd4) (s6 _ _ hd1) (s6 _ _ hd2), shaped_tups _, shaped_tups _, ?_⟩
    rw [eqv_tups]
    walk_at "go"
    have hlen : acc.length < sizeLine := by
      have := hal.len
      rw [List.length_map] at this
      unfold cellsI at this
      rw [List.length_map, List.length_range] at this
      exact small1000 (by omega)
    have s7 := same_mut (.lst (acc ++ [.non])) s6 hln
    refine ⟨.inl ⟨rfl, _, SqL.of hla⟩, l, _, _, rfl, rfl, hla, hlen, ?_⟩
    walk_at "rs"
    refine ⟨lp, pp, _, d, r, sg, t, p, w, rfl, sameT (sd.trans s7) hl, sameT (sd.trans s7) hp, htw, hpw, by omega, fun H8 v8 s8 dv8 => ?_⟩
    have s9 := s7.trans s8
    walk_at "rs"
    refine ⟨_, _, Dt.dp _ _ dv8, cells_due hs (s9 _ _ hd4) (s9 _ _ hd1) (s9 _ _ hd2), shaped_tups _, shaped_tups _, ?_⟩
    rw [eqv_tups]
    walk_at "go"
    exact ⟨sd.trans s9, s9 _ _ hdt, _, _, _, rfl⟩
  · rintro σ H1 ⟨s1, h1t, t8, t9, t10, rfl⟩
    refine ⟨by show 0 ≤ sizeLine; decide, fun mk hmk => ?_⟩
    have s2 := s1.trans (same_new hmk (.lst []))
    have hk2 := sameT s2 hk
    have hmkH : H mk = none := same_none s1 hmk
    walk_at "rs"
    refine for_range (lo := 0 - m) (n := (m + 1 - (0 - m)).toNat) (fun i σ H' => Same H H' ∧ H' mk = some (.lst ((List.range i).map fun (j : Nat) => V.bl (svs b m (0 - m + (j : Int)) d r))) ∧ ∃ t8 t9 t10 t12 t13 : Option V, σ = [some (.ref kp), some (.ref lp), some (.ref pp), some (.int (w : Int)), some (.int d), some (.int r), some (.int (d / 2 ^ (w - t))), some (.int (r / 2 ^ (w - p))), t8, t9, t10, some (.ref mk), t12, t13, none, none])
      ⟨s2, upd_same, _, _, _, _, _, rfl⟩ ?_ ?_
    · rintro i σ H3 hi ⟨s3, h3, t8, t9, t10, t12, t13, rfl⟩
      have hk3 := sameT s3 hk
      walk_at "rs"
      refine ⟨kp, pp, b, m, _, _, d, r, rfl, hk3, sameT s3 hp, hkd, by omega, by omega, fun H4 s4 => ?_⟩
      have hk4 := sameT s4 hk3
      walk_at "rs"
      have e : svs b m (0 - m + (i : Int)) d r = decide ((b - 1) * (if 0 - (r - (0 - m + (i : Int)) * d) > r - (0 - m + (i : Int)) * d then 0 - (r - (0 - m + (i : Int)) * d) else r - (0 - m + (i : Int)) * d) ≤ m * d) := by
        unfold svs absI
        congr 3
        split <;> split <;> omega
      refine neD_bl e ?_
      walk_at "go"
      refine ⟨.inl ⟨rfl, _, SqL.of (s4 _ _ h3)⟩, _, rfl, mk, _, _, rfl, rfl, s4 _ _ h3, ?_, same_mut _ (s3.trans s4) hmkH, ?_, _, _, _, _, _, rfl⟩
      · rw [List.length_map, List.length_range]
        exact small1000 (by omega)
      · rw [upd_same, List.range_succ, List.map_append]
        exact congrArg (fun z => some (HO.lst ((List.range i).map (fun (j : Nat) => V.bl (svs b m (0 - m + (j : Int)) d r)) ++ [V.bl z]))) e.symm
    · rintro σ H3 ⟨s3, h3, t8, t9, t10, t12, t13, rfl⟩
      obtain ⟨P, hP⟩ : ∃ P : Nat → Bool, P = fun (j : Nat) => svs b m (0 - m + (j : Int)) d r := ⟨_, rfl⟩
      obtain ⟨L, hL⟩ : ∃ L, L = (List.range (m + 1 - (0 - m)).toNat).map fun (j : Nat) => V.bl (svs b m (0 - m + (j : Int)) d r) := ⟨_, rfl⟩
      rw [← hL] at h3
      have hln : L.length = (m + 1 - (0 - m)).toNat := by rw [hL, List.length_map, List.length_range]
      have hat : ∀ j : Nat, j < L.length → atI L (j : Int) = some (.bl (P j)) := fun j hj => by
        refine atI_nat ?_
        rw [hL, List.getElem?_map, List.getElem?_range (by omega), hP]
        rfl
      walk_at "rs"
      intro D hD
      refine lc_range (lo := 0) (n := ((L.length : Nat) : Int).toNat) (fun i H' => Same H H' ∧ H' mk = some (.lst L) ∧ H' D = some (.lst (((List.range i).filter P).map fun (j : Nat) => V.int (j : Int)))) ⟨s3.trans (same_new hD _), (same_new hD _) _ _ h3, upd_same⟩ ?_ ?_
      · rintro i H4 hi ⟨s4, h4, h5⟩
        rw [Int.toNat_natCast] at hi
        have ha := hat i hi
        rw [← Int.zero_add (i : Int)] at ha
        walk_at "rs"
        refine ⟨mk, L, _, _, rfl, rfl, SqL.of h4, ha, ?_⟩
        walk_at "rs"
        refine ite2 (fun c => ?_) (fun c => ?_)
        · walk_at "rs"
          refine ⟨_, h5, ?_, same_mut _ s4 (same_none s3 hD), ?_, ?_⟩
          · rw [List.length_map]
            have := List.length_filter_le P (List.range i)
            rw [List.length_range] at this
            exact small1000 (by omega)
          · rw [upd_ne (ne_of_none h3 hD)]; exact h4
          · rw [upd_same, List.range_succ, List.filter_append, List.map_append, List.filter_cons, if_pos c, List.filter_nil, Int.zero_add]
            rfl
        · refine ⟨s4, h4, ?_⟩
          rw [h5, List.range_succ, List.filter_append, List.filter_cons, if_neg c, List.filter_nil, List.append_nil]
      · rintro H4 ⟨s4, h4, h5⟩
        rw [Int.toNat_natCast, hln] at h5
        have hsv : ∀ j : Nat, P j = true ↔ svL b m d r ≤ 0 - m + (j : Int) ∧ 0 - m + (j : Int) ≤ svU b m d r := fun j => by
          rw [hP]
          exact svs_LU bd.1 hd
        obtain ⟨l1, l2, l3⟩ := LU bd.1 (by omega) hd hpt
        obtain ⟨lo, hi, hlo, hhi, hiv⟩ : ∃ lo hi : Nat, lo < hi ∧ hi ≤ (m + 1 - (0 - m)).toNat ∧ ∀ i, i < (m + 1 - (0 - m)).toNat → (P i = true ↔ lo ≤ i ∧ i < hi) := by
          refine ⟨(svL b m d r + m).toNat, min ((m + 1 - (0 - m)).toNat) ((svU b m d r + m + 1).toNat), by omega, by omega, fun i hi => ?_⟩
          rw [hsv]
          omega
        rw [filter_iv (by omega) hhi hiv] at h5
        obtain ⟨ns, hns⟩ : ∃ ns : List Int, ns = (List.range' lo (hi - lo)).map fun (j : Nat) => (j : Int) := ⟨_, rfl⟩
        have h6 : H4 D = some (.lst (ns.map V.int)) := by rw [h5, hns, List.map_map]; rfl
        have hnl : ns.length = hi - lo := by rw [hns, List.length_map, List.length_range']
        have hne : ns ≠ [] := fun z => by rw [z] at hnl; simp at hnl; omega
        have hn0 : atI (ns.map V.int) 0 = some (.int (lo : Int)) := atI_nat (j := 0) (by
          rw [List.getElem?_map, hns, List.getElem?_map, List.getElem?_range' (by omega)]; simp)
        have hn1 : atI (ns.map V.int) (-1) = some (.int ((hi : Int) - 1)) := by
          unfold atI ixN
          rw [if_neg (by decide), List.length_map, hnl, if_pos (by omega)]
          show (ns.map V.int)[((-1 : Int) + ((hi - lo : Nat) : Int)).toNat]? = _
          rw [List.getElem?_map, hns, List.getElem?_map, List.getElem?_range' (by omega)]
          simp
          omega
        have hrg : rgV (lo : Int) ((hi : Int) - 1 + 1) = ns.map V.int := by
          unfold rgV
          rw [hns, List.range'_eq_map_range, List.map_map, List.map_map, show ((hi : Int) - 1 + 1 - (lo : Int)).toNat = hi - lo by omega]
          refine List.map_congr_left fun i _ => ?_
          simp
        walk_at "rs"
        refine ⟨by show 0 ≤ sizeLine; decide, fun z hz => ?_⟩
        have s5 := same_new hz (.lst [])
        refine neD_nil hne (dp_ints (s5 _ _ h6)) (.lst (SqL.of upd_same) .nil) ?_
        walk_at "rs"
        refine ⟨D, _, _, _, rfl, rfl, SqL.of (s5 _ _ h6), hn0, ?_⟩
        walk_at "rs"
        refine ⟨D, _, _, _, rfl, rfl, SqL.of (s5 _ _ h6), hn1, ?_⟩
        walk_at "rs"
        intro y hy
        have s6 := same_new hy (.lst (rgV (lo : Int) ((hi : Int) - 1 + 1)))
        refine eqD_same (dp_ints (s6 _ _ (s5 _ _ h6))) (dp_ints (ns := ns) (by rw [upd_same]; exact congrArg (fun z => some (HO.lst z)) hrg)) (shaped_ints _) ?_
        exact q _ (s4.trans (s5.trans s6))
def sp_law (K : PySem.W.Frag) : Sp := fun vs H Q _ => ∃ (a : Addr) (ns : List Int), vs = [.ref a] ∧ SqL K H a (ns.map V.int) ∧ ns.length ≤ 63 ∧ (∀ z ∈ ns, Builtin.Int.intBits z ≤ 1048576) ∧ ∀ H', Q (.bl true) H'
theorem ok_law (T : Txt K mg) : FnOk P w K mg base CX0 4 T.a_law T.fd_law ["script"] (sp_law K) := by
  refine T.F_law.ok sc_law (fun vs H Q E h => ?_) (fun cdv A outer s H vs Q E hr h => ?_)
  · obtain ⟨a, ns, rfl, _⟩ := h
    rfl
  obtain ⟨sa, ns, rfl, hS, h63, hbits, q⟩ := h
  refine ⟨_, (pss_cons (ps_set (i := 1) sc_law.nd rfl (Or.inl rfl) (pe_call (ok__law_deck T) (hr.mono (by first | decide | omega)) rfl T.m__law_deck T.F__law_deck.kp T.b__law_deck .nil pass0 (pa_cons (pe_ix ix_list (pe_op op_catR (pv 0) (pe_lst (pa_cons pe_int pa_nil))) pe_int (fun _ _ => rfl)) (pa_cons pe_int pa_nil))))
      (pss_cons (ps_set (i := 2) sc_law.nd rfl (Or.inl rfl) (pe_call (ok__law_kind T) (hr.mono (by first | decide | omega)) rfl T.m__law_kind T.F__law_kind.kp T.b__law_kind .nil pass0 (pa_cons (pv 1) pa_nil)))
      (pss_cons (ps_for PassesOwn.never rfl (pi_range1 (by rfl) T.z_range (pa_cons pe_int pa_nil)) (pg_name (i := 3) sc_law.nd rfl (Or.inl rfl)) (pss_cons (ps_set (i := 4) sc_law.nd rfl (Or.inl rfl) (pe_tup (pa_cons (pe_op op_sub (pe_call (ok__law_pick T) (hr.mono (by first | decide | omega)) rfl T.m__law_pick T.F__law_pick.kp T.b__law_pick .nil pass0 (pa_cons (pv 1) (pa_cons pe_int pa_nil))) pe_int) (pa_cons (pe_op op_sub (pe_call (ok__law_pick T) (hr.mono (by first | decide | omega)) rfl T.m__law_pick T.F__law_pick.kp T.b__law_pick .nil pass0 (pa_cons (pv 1) (pa_cons pe_int pa_nil))) pe_int) pa_nil))))
      (pss_cons (ps_set (i := 5) sc_law.nd rfl (Or.inl rfl) (pe_call (ok_are_looks T) (hr.mono (by first | decide | omega)) rfl T.m_are_looks T.F_are_looks.kp T.b_are_looks .nil pass0 (pa_cons (pv 2) (pa_cons (pv 4) pa_nil))))
      (pss_cons (ps_set (i := 6) sc_law.nd rfl (Or.inl rfl) (pe_and (pe_chain op_le op_le pe_int (pe_ix ix_tup (pv 4) pe_int (fun _ _ => rfl)) pe_int) (pe_one (pe_chain op_le op_le pe_int (pe_ix ix_tup (pv 4) pe_int (fun _ _ => rfl)) pe_int))))
      (C8.pss_cut (ps_if (pt_val (pv 6)) (pss_cons (ps_set (i := 7) sc_law.nd rfl (Or.inl rfl) (pe_call (ok__law_half T) (hr.mono (by first | decide | omega)) rfl T.m__law_half T.F__law_half.kp T.b__law_half .nil pass0 (pa_cons (pv 2) (pa_cons (pv 4) pa_nil))))
      (pss_cons (ps_set (i := 6) sc_law.nd rfl (Or.inl rfl) (pe_cmpR op_le (pe_op op_mul (pe_op op_mul (pe_op op_oneShl pe_int (pe_op op_sub1N (pe_ix ix_tup (pv 4) pe_int (fun _ _ => rfl)) pe_int)) pe_int) (pv 7)) pe_int (nomark _)))
      (pss_one (ps_if (pt_cmpR op_ne (pe_call (ok_half_of T) (hr.mono (by first | decide | omega)) rfl T.m_half_of T.F_half_of.kp T.b_half_of .nil pass0 (pa_cons (pv 2) (pa_cons (pv 4) pa_nil))) (pv 7) (nomark _)) (pss_one (ps_ret pe_bl)) pss_nil)))) pss_nil)
      (pss_one (ps_if (PW.pt (pw_or (pt_not (pt_val (pe_callB call_isi (by rfl) T.z_isinstance (by decide +kernel) (pa_cons (pv 5) (pa_cons (pe_bltn (v := .ty "bool") (u := .type "bool") (by rfl) T.z_bool (by decide +kernel) rfl) pa_nil))))) (pw_or1 (pt_cmpR op_ne (pv 5) (pv 6) (nomark _))))) (pss_one (ps_ret pe_bl)) pss_nil)))))))
      (pss_cons (ps_set (i := 4) sc_law.nd rfl (Or.inl rfl) (pe_tup (pa_cons (pe_op op_add pe_int (pe_call (ok__law_pick T) (hr.mono (by first | decide | omega)) rfl T.m__law_pick T.F__law_pick.kp T.b__law_pick .nil pass0 (pa_cons (pv 1) (pa_cons pe_int pa_nil)))) (pa_cons (pe_call (ok__law_pick T) (hr.mono (by first | decide | omega)) rfl T.m__law_pick T.F__law_pick.kp T.b__law_pick .nil pass0 (pa_cons (pv 1) (pa_cons pe_int pa_nil))) pa_nil))))
      (pss_cons (ps_for PassesOwn.never rfl (pi_list (pe_op op_catR (pe_slice sl_list (pv 0) (po_some pe_int) (po_some pe_int)) (pe_lst (pa_cons pe_int pa_nil)))) (pg_name (i := 8) sc_law.nd rfl (Or.inl rfl)) (pss_cons (ps_set (i := 9) sc_law.nd rfl (Or.inl rfl) (pe_call (ok__law_numbers T) (hr.mono (by first | decide | omega)) rfl T.m__law_numbers T.F__law_numbers.kp T.b__law_numbers .nil pass0 (pa_cons (pe_call (ok__law_deck T) (hr.mono (by first | decide | omega)) rfl T.m__law_deck T.F__law_deck.kp T.b__law_deck .nil pass0 (pa_cons (pv 8) (pa_cons pe_int pa_nil))) (pa_cons (pv 2) (pa_cons (pv 4) pa_nil)))))
      (pss_cons (ps_set (i := 5) sc_law.nd rfl (Or.inl rfl) (pe_call (ok_is_point T) (hr.mono (by first | decide | omega)) rfl T.m_is_point T.F_is_point.kp T.b_is_point .nil pass0 (pa_cons (pv 2) (pa_cons (pv 4) (pa_cons (pv 9) pa_nil)))))
      (pss_cons (ps_if (PW.pt (pw_or (pt_not (pt_val (pe_callB call_isi (by rfl) T.z_isinstance (by decide +kernel) (pa_cons (pv 5) (pa_cons (pe_bltn (v := .ty "bool") (u := .type "bool") (by rfl) T.z_bool (by decide +kernel) rfl) pa_nil))))) (pw_or1 (pt_cmpR op_ne (pv 5) (pe_call (ok__law_is_point T) (hr.mono (by first | decide | omega)) rfl T.m__law_is_point T.F__law_is_point.kp T.b__law_is_point .nil pass0 (pa_cons (pv 2) (pa_cons (pv 4) (pa_cons (pv 9) pa_nil)))) (nomark _))))) (pss_one (ps_ret pe_bl)) pss_nil)
      (pss_one (ps_if (PW.pt (pw_and (pt_val (pv 5)) (pw_and1 (pt_not (pt_val (pe_call (ok__law_shown_right T) (hr.mono (by first | decide | omega)) rfl T.m__law_shown_right T.F__law_shown_right.kp T.b__law_shown_right .nil pass0 (pa_cons (pv 2) (pa_cons (pv 4) (pa_cons (pv 9) pa_nil))))))))) (pss_one (ps_ret pe_bl)) pss_nil))))))
      (pss_one (ps_ret pe_bl))))))), ?_⟩
  walk_at "rd"
  refine ⟨by show 1 ≤ sizeLine; decide, fun z1 hz1 => ?_⟩
  refine ⟨sa, z1, _, _, rfl, rfl, (same_new hz1 _).seq hS, SqL.of upd_same, cat_line h63, fun z2 hz2 => ?_⟩
  obtain ⟨c0, hc0⟩ := head0 ns
  refine ⟨z2, _, 0, _, rfl, rfl, SqL.of upd_same, hc0, ?_⟩
  refine ⟨_, _, 0, rfl, by decide, by decide, fun a H1 ha1 e1 d1 => ?_⟩
  have s1 : S a 0 H1 [Scr K a sa (ns.map V.int)] := ⟨d1, scr_of ((same_new hz2 _).seq ((same_new hz1 _).seq hS)) ha1 e1, trivial⟩
  clear e1 d1 ha1 hz1 hz2 hc0
  walk_at "rs"
  refine ⟨a, 0, rfl, s1.d, by omega, fun kp b m H2 k2 d2 hk2 hb hmb hmm => ?_⟩
  have hkd : Kd b m := ⟨hb, by omega, hmm⟩
  have bd := hkd.bd
  have s2 : S a 2 H2 [At a kp (.tup [.int b, .int m]), Scr K a sa (ns.map V.int)] := (s1.keep k2 d2).add ⟨deck_tup_ne d2 hk2, hk2⟩
  clear k2 d2 hk2 s1
  walk_at "rs"
  refine for_range0 (n := 4) (fun i σ H' => S a (2 + 2 * i) H' [At a kp (.tup [.int b, .int m]), Scr K a sa (ns.map V.int)] ∧ ∃ t3 t4 t5 t6 t7 : Option V, σ = [some (.ref sa), some (.ref a), some (.ref kp), t3, t4, t5, t6, t7, none, none]) ⟨s2, _, _, _, _, _, rfl⟩ ?_ ?_
  · rintro i σ H3 hi ⟨s3, t3, t4, t5, t6, t7, rfl⟩
    walk_at "rs"
    walk_at "pick"
    intro v1 H4 v10 v11 k4 s4
    walk_at "rs"
    walk_at "pick"
    intro v2 H5 v20 v21 k5 s5
    walk_at "rs"
    refine ⟨by show 2 ≤ sizeLine; decide, fun lp hlp => ?_⟩
    have s6 := s5.new hlp (.tup [.int (v1 - 1), .int (v2 - 1)])
    walk_at "rs"
    refine ⟨kp, lp, b, m, v1 - 1, v2 - 1, rfl, SqT.of (s6.at_ (by walk_at "mem")), SqT.of (s6.at_ (by walk_at "mem")), hkd, ?_⟩
    by_cases c : (1 ≤ v1 - 1 ∧ v1 - 1 ≤ 10) ∧ (0 ≤ v2 - 1 ∧ v2 - 1 ≤ 10)
    · obtain ⟨n, hn⟩ := nat_of (v := v1 - 1) (by omega)
      obtain ⟨r, hr2⟩ := nat_of (v := v2 - 1) (by omega)
      have s7 := s6.add (f := At a lp (.tup [.int (n : Int), .int (r : Int)])) ⟨s6.ne_ (.head _), by rw [s6.at_ (.head _), hn, hr2]⟩
      have e : areLk b (v1 - 1) (v2 - 1) = decide (2 ^ (n - 1) * 2 * (b * 2 ^ r + 2) ≤ 20000) := by
        rw [hn, hr2]
        unfold areLk
        rw [decide_eq_true (by omega), decide_eq_true (by omega), Bool.true_and, Bool.true_and, show ((n : Int) - 1).toNat = n - 1 by omega, Int.toNat_natCast]
      rw [e]
      have h1 := pow_le (n := n - 1) (k := 9) (by omega)
      have h2 := two_pos (n - 1)
      walk_at "go"
      refine ⟨fun σ' H' => S a (2 + 2 * i + 1 + 1) H' [At a kp (.tup [.int b, .int m]), Scr K a sa (ns.map V.int)] ∧ ∃ t7 : Option V, σ' = [some (.ref sa), some (.ref a), some (.ref kp), some (.int (i : Int)), some (.ref lp), some (.bl (decide (2 ^ (n - 1) * 2 * (b * 2 ^ r + 2) ≤ 20000))), some (.bl (decide (2 ^ (n - 1) * 2 * (b * 2 ^ r + 2) ≤ 20000))), t7, none, none], ?_, ?_⟩
      · walk_at "go"
        refine ⟨kp, lp, b, m, _, r, rfl, SqT.of (s7.at_ (by walk_at "mem")), SqT.of (s7.at_ (by walk_at "mem")), hkd, by omega, fun H8 e8 => ?_⟩
        have s8 := s7.same e8
        walk_at "go"
        refine ⟨kp, lp, b, _, _, r, rfl, SqT.of (s8.at_ (by walk_at "mem")), SqT.of (s8.at_ (by walk_at "mem")), by omega, by omega, ?_⟩
        walk_at "rs"
        refine iteVN' rfl ?_
        walk_at "rs"
        exact ⟨s8.drop.drop, _, rfl⟩
      · rintro σ' H' ⟨s8, t7, rfl⟩
        walk_at "go"
        refine iteN' rfl ?_
        exact ⟨s8, _, _, _, _, _, rfl⟩
    · have e : areLk b (v1 - 1) (v2 - 1) = false := by
        unfold areLk
        by_cases c1 : 1 ≤ v1 - 1 ∧ v1 - 1 ≤ 10
        · rw [decide_eq_false (p := 0 ≤ v2 - 1 ∧ v2 - 1 ≤ 10) (by omega), Bool.false_and, Bool.and_false]
        · rw [decide_eq_false c1, Bool.false_and]
      rw [e]
      by_cases c1 : 1 ≤ v1 - 1 <;> by_cases c2 : v1 - 1 ≤ 10 <;> by_cases c3 : 0 ≤ v2 - 1 <;> by_cases c4 : v2 - 1 ≤ 10
      all_goals first | (exfalso; omega) | skip
      all_goals (
        walk_at "go"
        refine ⟨fun σ' H' => S a (2 + 2 * i + 1 + 1) H' [At a kp (.tup [.int b, .int m]), Scr K a sa (ns.map V.int)] ∧ ∃ z : Bool, z = false ∧ σ' = [some (.ref sa), some (.ref a), some (.ref kp), some (.int (i : Int)), some (.ref lp), some (.bl false), some (.bl z), t7, none, none], ?_, ?_⟩
        · walk_at "go"
          first | exact ⟨s6.drop, _, rfl, rfl⟩ | exact ⟨s6.drop, _, decide_eq_false (by omega), rfl⟩
        · rintro σ' H' ⟨s8, z, rfl, rfl⟩
          walk_at "go"
          exact ⟨_, _, _, _, _, rfl⟩)
  · rintro σ H3 ⟨s3, t3, t4, t5, t6, t7, rfl⟩
    walk_at "rs"
    walk_at "pick"
    intro v1 H4 v10 v11 k4 s4
    walk_at "rs"
    walk_at "pick"
    intro v2 H5 v20 v21 k5 s5
    obtain ⟨n, hn⟩ := nat_of (v := 1 + v1) (by omega)
    obtain ⟨r, rfl⟩ := nat_of (v := v2) (by omega)
    walk_at "rs"
    refine ⟨by show 2 ≤ sizeLine; decide, fun lp hlp => ?_⟩
    have s6 := s5.new hlp (.tup [.int (1 + v1), .int (r : Int)])
    have s7 := (s6.drop).add (f := At a lp (.tup [.int (n : Int), .int (r : Int)])) ⟨s6.ne_ (.head _), by rw [s6.at_ (.head _), hn]⟩
    clear s6
    walk_at "rs"
    obtain ⟨cs, hcs, hcl⟩ := cut_ints ns (some 1) (some 9)
    refine ⟨sa, _, rfl, s7.scr (by walk_at "mem"), fun p1 hp1 => ?_⟩
    rw [hcs]
    refine ⟨by show 1 ≤ sizeLine; decide, fun p2 hp2 => ?_⟩
    have q1 := same_new hp1 (.lst (cs.map V.int))
    have q2 := same_new hp2 (.lst [.int 0])
    refine ⟨p1, p2, cs.map V.int, [.int 0], rfl, rfl, SqL.of (q2 _ _ upd_same), SqL.of upd_same, cat_line (by omega), fun p3 hp3 => ?_⟩
    have q3 := same_new hp3 (.lst (cs.map V.int ++ [.int 0]))
    have qq := q1.trans (q2.trans q3)
    have hk8 := qq _ _ (s7.at_ (p := kp) (by walk_at "mem"))
    have hl8 := qq _ _ (s7.at_ (p := lp) (by walk_at "mem"))
    have h38 := new_at hp3 (.lst (cs.map V.int ++ [.int 0]))
    rw [cat0] at h38 hk8 hl8 ⊢
    refine ⟨p3, rfl, ⟨_, SqL.of h38⟩, for_list (xs := (cs ++ [0]).map V.int) (fun i σ H' => H' p3 = some (.lst ((cs ++ [0]).map V.int)) ∧ H' kp = some (.tup [.int b, .int m]) ∧ H' lp = some (.tup [.int (n : Int), .int (r : Int)]) ∧ ∃ t1 t3 t5 t6 t7 t8 t9 : Option V, σ = [some (.ref sa), t1, some (.ref kp), t3, some (.ref lp), t5, t6, t7, t8, t9])
      ⟨h38, hk8, hl8, _, _, _, _, _, _, _, rfl⟩ (fun i σ H' _ e => SqL.of e.1) ?_ ?_⟩
    · rintro i x σ H9 hx ⟨h9, hk9, hl9, t1, t3, t5, t6, t7, t8, t9, rfl⟩
      obtain ⟨cell, rfl, _⟩ := map_at hx
      walk_at "rs"
      refine ⟨cell, 40, 40, rfl, by decide, by decide, fun a2 H10 ha2 e10 d10 => ?_⟩
      have s10 : S a2 40 H10 [At a2 kp (.tup [.int b, .int m]), At a2 lp (.tup [.int (n : Int), .int (r : Int)])] := ⟨d10, ⟨ne_of_none hk9 ha2, e10 _ _ hk9⟩, ⟨ne_of_none hl9 ha2, e10 _ _ hl9⟩, trivial⟩
      walk_at "rs"
      refine ⟨a2, kp, lp, 40, b, m, n, r, rfl, s10, by omega, hkd, by omega, by omega, by omega, fun w d rr pp H11 hw hpp k11 h11 => ?_⟩
      have hk11 := k11 _ _ (ne_of_none hk9 ha2) (e10 _ _ hk9)
      have hl11 := k11 _ _ (ne_of_none hl9 ha2) (e10 _ _ hl9)
      have h311 := k11 _ _ (ne_of_none h9 ha2) (e10 _ _ h9)
      walk_at "rs"
      refine ⟨kp, lp, pp, b, m, n, r, w, d, rr, rfl, SqT.of hk11, SqT.of hl11, SqT.of h11, hkd, ?_⟩
      walk_at "go"
      refine ⟨kp, lp, pp, b, m, n, r, w, d, rr, rfl, SqT.of hk11, SqT.of hl11, SqT.of h11, hkd, by omega, hw, ?_⟩
      walk_at "go"
      refine iteN' rfl ?_
      walk_at "go"
      refine ite2 (fun c => ?_) (fun c => ?_)
      · unfold isPt at c
        simp only [Bool.and_eq_true, decide_eq_true_iff] at c
        obtain ⟨c1, c2, c3, c4, c5⟩ := c
        obtain ⟨k, rfl⟩ := nat_of (v := w) (by omega)
        walk_at "rs"
        refine ⟨kp, lp, pp, b, m, d, rr, n, r, k, rfl, SqT.of hk11, SqT.of hl11, SqT.of h11, hkd, by omega, by omega, by omega, c3, c5, fun H12 s12 => ?_⟩
        walk_at "rs"
        exact ⟨s12 _ _ h311, s12 _ _ hk11, s12 _ _ hl11, _, _, _, _, _, _, _, rfl⟩
      · walk_at "rs"
        exact ⟨_, _, _, _, _, _, _, rfl⟩
    · rintro σ H9 ⟨h9, hk9, hl9, t1, t3, t5, t6, t7, t8, t9, rfl⟩
      exact q _
end
theorem all_mk {l : PySem.W.OpenLaw} {w : World} {K : PySem.W.Frag} {h : Heap} {mg : Str → Option Value} {fa : Addr} (X : K.In h) (G : h.Ns mainGlobals mg) (hfa : mg "law" = some (.ref fa))
    {f0 : Addr} {od0 an0 : Option Addr} {sl0 : Array (Option Value)} {oc0 kV0 dc0 pm0 cd0 ct0 : Value}
    {f1 : Addr} {od1 an1 : Option Addr} {sl1 : Array (Option Value)} {oc1 kV1 dc1 pm1 cd1 ct1 : Value}
    {f2 : Addr} {od2 an2 : Option Addr} {sl2 : Array (Option Value)} {oc2 kV2 dc2 pm2 cd2 ct2 : Value}
    {f3 : Addr} {od3 an3 : Option Addr} {sl3 : Array (Option Value)} {oc3 kV3 dc3 pm3 cd3 ct3 : Value}
    {f4 : Addr} {od4 an4 : Option Addr} {sl4 : Array (Option Value)} {oc4 kV4 dc4 pm4 cd4 ct4 : Value}
    {f5 : Addr} {od5 an5 : Option Addr} {sl5 : Array (Option Value)} {oc5 kV5 dc5 pm5 cd5 ct5 : Value}
    {f6 : Addr} {od6 an6 : Option Addr} {sl6 : Array (Option Value)} {oc6 kV6 dc6 pm6 cd6 ct6 : Value}
    {f7 : Addr} {od7 an7 : Option Addr} {sl7 : Array (Option Value)} {oc7 kV7 dc7 pm7 cd7 ct7 : Value}
    {f8 : Addr} {od8 an8 : Option Addr} {sl8 : Array (Option Value)} {oc8 kV8 dc8 pm8 cd8 ct8 : Value}
    {f9 : Addr} {od9 an9 : Option Addr} {sl9 : Array (Option Value)} {oc9 kV9 dc9 pm9 cd9 ct9 : Value}
    {f10 : Addr} {od10 an10 : Option Addr} {sl10 : Array (Option Value)} {oc10 kV10 dc10 pm10 cd10 ct10 : Value}
    {f11 : Addr} {od11 an11 : Option Addr} {sl11 : Array (Option Value)} {oc11 kV11 dc11 pm11 cd11 ct11 : Value}
    {f12 : Addr} {od12 an12 : Option Addr} {sl12 : Array (Option Value)} {oc12 kV12 dc12 pm12 cd12 ct12 : Value}
    {f13 : Addr} {od13 an13 : Option Addr} {sl13 : Array (Option Value)} {oc13 kV13 dc13 pm13 cd13 ct13 : Value}
    {f14 : Addr} {od14 an14 : Option Addr} {sl14 : Array (Option Value)} {oc14 kV14 dc14 pm14 cd14 ct14 : Value}
    {gu0 : Value}
    (a0 : PySem.W.nsIn K mainGlobals "are_looks" = some (some (.ref f0))) (l0 : K.lookup f0 = some ⟨oc0, od0, .func (PySem.W.fnOf "are_looks" "are_looks" (defArgs s_are_looks) (defBody s_are_looks) (defScope s_are_looks) .none kV0 dc0 pm0 an0 cd0 ct0), sl0⟩) (c0 : PySem.W.codeIn K cd0 "are_looks" = true) (k0 : PySem.W.keepIn K (.ref f0) = true)
    (a1 : PySem.W.nsIn K mainGlobals "half_of" = some (some (.ref f1))) (l1 : K.lookup f1 = some ⟨oc1, od1, .func (PySem.W.fnOf "half_of" "half_of" (defArgs s_half_of) (defBody s_half_of) (defScope s_half_of) .none kV1 dc1 pm1 an1 cd1 ct1), sl1⟩) (c1 : PySem.W.codeIn K cd1 "half_of" = true) (k1 : PySem.W.keepIn K (.ref f1) = true)
    (a2 : PySem.W.nsIn K mainGlobals "first_top" = some (some (.ref f2))) (l2 : K.lookup f2 = some ⟨oc2, od2, .func (PySem.W.fnOf "first_top" "first_top" (defArgs s_first_top) (defBody s_first_top) (defScope s_first_top) .none kV2 dc2 pm2 an2 cd2 ct2), sl2⟩) (c2 : PySem.W.codeIn K cd2 "first_top" = true) (k2 : PySem.W.keepIn K (.ref f2) = true)
    (a3 : PySem.W.nsIn K mainGlobals "is_point" = some (some (.ref f3))) (l3 : K.lookup f3 = some ⟨oc3, od3, .func (PySem.W.fnOf "is_point" "is_point" (defArgs s_is_point) (defBody s_is_point) (defScope s_is_point) .none kV3 dc3 pm3 an3 cd3 ct3), sl3⟩) (c3 : PySem.W.codeIn K cd3 "is_point" = true) (k3 : PySem.W.keepIn K (.ref f3) = true)
    (a4 : PySem.W.nsIn K mainGlobals "cells_of" = some (some (.ref f4))) (l4 : K.lookup f4 = some ⟨oc4, od4, .func (PySem.W.fnOf "cells_of" "cells_of" (defArgs s_cells_of) (defBody s_cells_of) (defScope s_cells_of) .none kV4 dc4 pm4 an4 cd4 ct4), sl4⟩) (c4 : PySem.W.codeIn K cd4 "cells_of" = true) (k4 : PySem.W.keepIn K (.ref f4) = true)
    (a5 : PySem.W.nsIn K mainGlobals "serves" = some (some (.ref f5))) (l5 : K.lookup f5 = some ⟨oc5, od5, .func (PySem.W.fnOf "serves" "serves" (defArgs s_serves) (defBody s_serves) (defScope s_serves) .none kV5 dc5 pm5 an5 cd5 ct5), sl5⟩) (c5 : PySem.W.codeIn K cd5 "serves" = true) (k5 : PySem.W.keepIn K (.ref f5) = true)
    (a6 : PySem.W.nsIn K mainGlobals "_law_deck" = some (some (.ref f6))) (l6 : K.lookup f6 = some ⟨oc6, od6, .func (PySem.W.fnOf "_law_deck" "_law_deck" (defArgs s__law_deck) (defBody s__law_deck) (defScope s__law_deck) .none kV6 dc6 pm6 an6 cd6 ct6), sl6⟩) (c6 : PySem.W.codeIn K cd6 "_law_deck" = true) (k6 : PySem.W.keepIn K (.ref f6) = true)
    (a7 : PySem.W.nsIn K mainGlobals "_law_pick" = some (some (.ref f7))) (l7 : K.lookup f7 = some ⟨oc7, od7, .func (PySem.W.fnOf "_law_pick" "_law_pick" (defArgs s__law_pick) (defBody s__law_pick) (defScope s__law_pick) .none kV7 dc7 pm7 an7 cd7 ct7), sl7⟩) (c7 : PySem.W.codeIn K cd7 "_law_pick" = true) (k7 : PySem.W.keepIn K (.ref f7) = true)
    (a8 : PySem.W.nsIn K mainGlobals "_law_kind" = some (some (.ref f8))) (l8 : K.lookup f8 = some ⟨oc8, od8, .func (PySem.W.fnOf "_law_kind" "_law_kind" (defArgs s__law_kind) (defBody s__law_kind) (defScope s__law_kind) .none kV8 dc8 pm8 an8 cd8 ct8), sl8⟩) (c8 : PySem.W.codeIn K cd8 "_law_kind" = true) (k8 : PySem.W.keepIn K (.ref f8) = true)
    (a9 : PySem.W.nsIn K mainGlobals "_law_great" = some (some (.ref f9))) (l9 : K.lookup f9 = some ⟨oc9, od9, .func (PySem.W.fnOf "_law_great" "_law_great" (defArgs s__law_great) (defBody s__law_great) (defScope s__law_great) .none kV9 dc9 pm9 an9 cd9 ct9), sl9⟩) (c9 : PySem.W.codeIn K cd9 "_law_great" = true) (k9 : PySem.W.keepIn K (.ref f9) = true)
    (a10 : PySem.W.nsIn K mainGlobals "_law_half" = some (some (.ref f10))) (l10 : K.lookup f10 = some ⟨oc10, od10, .func (PySem.W.fnOf "_law_half" "_law_half" (defArgs s__law_half) (defBody s__law_half) (defScope s__law_half) .none kV10 dc10 pm10 an10 cd10 ct10), sl10⟩) (c10 : PySem.W.codeIn K cd10 "_law_half" = true) (k10 : PySem.W.keepIn K (.ref f10) = true)
    (a11 : PySem.W.nsIn K mainGlobals "_law_numbers" = some (some (.ref f11))) (l11 : K.lookup f11 = some ⟨oc11, od11, .func (PySem.W.fnOf "_law_numbers" "_law_numbers" (defArgs s__law_numbers) (defBody s__law_numbers) (defScope s__law_numbers) .none kV11 dc11 pm11 an11 cd11 ct11), sl11⟩) (c11 : PySem.W.codeIn K cd11 "_law_numbers" = true) (k11 : PySem.W.keepIn K (.ref f11) = true)
    (a12 : PySem.W.nsIn K mainGlobals "_law_is_point" = some (some (.ref f12))) (l12 : K.lookup f12 = some ⟨oc12, od12, .func (PySem.W.fnOf "_law_is_point" "_law_is_point" (defArgs s__law_is_point) (defBody s__law_is_point) (defScope s__law_is_point) .none kV12 dc12 pm12 an12 cd12 ct12), sl12⟩) (c12 : PySem.W.codeIn K cd12 "_law_is_point" = true) (k12 : PySem.W.keepIn K (.ref f12) = true)
    (a13 : PySem.W.nsIn K mainGlobals "_law_shown_right" = some (some (.ref f13))) (l13 : K.lookup f13 = some ⟨oc13, od13, .func (PySem.W.fnOf "_law_shown_right" "_law_shown_right" (defArgs s__law_shown_right) (defBody s__law_shown_right) (defScope s__law_shown_right) .none kV13 dc13 pm13 an13 cd13 ct13), sl13⟩) (c13 : PySem.W.codeIn K cd13 "_law_shown_right" = true) (k13 : PySem.W.keepIn K (.ref f13) = true)
    (a14 : PySem.W.nsIn K mainGlobals "law" = some (some (.ref f14))) (l14 : K.lookup f14 = some ⟨oc14, od14, .func (PySem.W.fnOf "law" "law" (defArgs s_law) (defBody s_law) (defScope s_law) .none kV14 dc14 pm14 an14 cd14 ct14), sl14⟩) (c14 : PySem.W.codeIn K cd14 "law" = true) (k14 : PySem.W.keepIn K (.ref f14) = true)
    (z0 : PySem.W.nsIn K mainGlobals "abs" = some none)
    (z1 : PySem.W.nsIn K mainGlobals "range" = some none)
    (z2 : PySem.W.nsIn K mainGlobals "max" = some none)
    (z3 : PySem.W.nsIn K mainGlobals "min" = some none)
    (z4 : PySem.W.nsIn K mainGlobals "int" = some none)
    (z5 : PySem.W.nsIn K mainGlobals "isinstance" = some none)
    (z6 : PySem.W.nsIn K mainGlobals "list" = some none)
    (z7 : PySem.W.nsIn K mainGlobals "bool" = some none)
    (z8 : PySem.W.nsIn K mainGlobals "len" = some none)
    (g0a : PySem.W.nsIn K mainGlobals "MOST_CELLS" = some (some gu0)) (g0r : RelV (.int 20000) gu0) :
    ∃ fd : FuncData, (∀ (s : Shared) (v : Value), BindsTo s fd ⟨[v], []⟩ [("script", v)]) ∧ ∀ base : Heap, K.In base → base.Ns mainGlobals mg → FnOk l.prog w K mg base CX0 4 fa fd ["script"] (sp_law K) := by
  have e := hfa.symm.trans (PySem.W.mg_of X G a14)
  cases e
  have F0 := fun_mk (st := s_are_looks) l0 c0 k0
  have b0 := F0.binds (ps := ["kind", "looks"]) fun _ _ _ _ _ _ us hl => match us, hl with | [_, _], _ => rfl
  have F1 := fun_mk (st := s_half_of) l1 c1 k1
  have b1 := F1.binds (ps := ["kind", "looks"]) fun _ _ _ _ _ _ us hl => match us, hl with | [_, _], _ => rfl
  have F2 := fun_mk (st := s_first_top) l2 c2 k2
  have b2 := F2.binds (ps := ["looks"]) fun _ _ _ _ _ _ us hl => match us, hl with | [_], _ => rfl
  have F3 := fun_mk (st := s_is_point) l3 c3 k3
  have b3 := F3.binds (ps := ["kind", "looks", "point"]) fun _ _ _ _ _ _ us hl => match us, hl with | [_, _, _], _ => rfl
  have F4 := fun_mk (st := s_cells_of) l4 c4 k4
  have b4 := F4.binds (ps := ["kind", "looks", "sight", "point"]) fun _ _ _ _ _ _ us hl => match us, hl with | [_, _, _, _], _ => rfl
  have F5 := fun_mk (st := s_serves) l5 c5 k5
  have b5 := F5.binds (ps := ["kind", "figure", "point"]) fun _ _ _ _ _ _ us hl => match us, hl with | [_, _, _], _ => rfl
  have F6 := fun_mk (st := s__law_deck) l6 c6 k6
  have b6 := F6.binds (ps := ["cell", "turn"]) fun _ _ _ _ _ _ us hl => match us, hl with | [_, _], _ => rfl
  have F7 := fun_mk (st := s__law_pick) l7 c7 k7
  have b7 := F7.binds (ps := ["deck", "many"]) fun _ _ _ _ _ _ us hl => match us, hl with | [_, _], _ => rfl
  have F8 := fun_mk (st := s__law_kind) l8 c8 k8
  have b8 := F8.binds (ps := ["deck"]) fun _ _ _ _ _ _ us hl => match us, hl with | [_], _ => rfl
  have F9 := fun_mk (st := s__law_great) l9 c9 k9
  have b9 := F9.binds (ps := ["deck", "figures"]) fun _ _ _ _ _ _ us hl => match us, hl with | [_, _], _ => rfl
  have F10 := fun_mk (st := s__law_half) l10 c10 k10
  have b10 := F10.binds (ps := ["kind", "looks"]) fun _ _ _ _ _ _ us hl => match us, hl with | [_, _], _ => rfl
  have F11 := fun_mk (st := s__law_numbers) l11 c11 k11
  have b11 := F11.binds (ps := ["deck", "kind", "looks"]) fun _ _ _ _ _ _ us hl => match us, hl with | [_, _, _], _ => rfl
  have F12 := fun_mk (st := s__law_is_point) l12 c12 k12
  have b12 := F12.binds (ps := ["kind", "looks", "point"]) fun _ _ _ _ _ _ us hl => match us, hl with | [_, _, _], _ => rfl
  have F13 := fun_mk (st := s__law_shown_right) l13 c13 k13
  have b13 := F13.binds (ps := ["kind", "looks", "point"]) fun _ _ _ _ _ _ us hl => match us, hl with | [_, _, _], _ => rfl
  have F14 := fun_mk (st := s_law) l14 c14 k14
  have b14 := F14.binds (ps := ["script"]) fun _ _ _ _ _ _ us hl => match us, hl with | [_], _ => rfl
  let T : Txt K mg := { a_are_looks := f0, fd_are_looks := _, F_are_looks := F0, m_are_looks := PySem.W.mg_of X G a0, b_are_looks := b0, a_half_of := f1, fd_half_of := _, F_half_of := F1, m_half_of := PySem.W.mg_of X G a1, b_half_of := b1, a_first_top := f2, fd_first_top := _, F_first_top := F2, m_first_top := PySem.W.mg_of X G a2, b_first_top := b2, a_is_point := f3, fd_is_point := _, F_is_point := F3, m_is_point := PySem.W.mg_of X G a3, b_is_point := b3, a_cells_of := f4, fd_cells_of := _, F_cells_of := F4, m_cells_of := PySem.W.mg_of X G a4, b_cells_of := b4, a_serves := f5, fd_serves := _, F_serves := F5, m_serves := PySem.W.mg_of X G a5, b_serves := b5, a__law_deck := f6, fd__law_deck := _, F__law_deck := F6, m__law_deck := PySem.W.mg_of X G a6, b__law_deck := b6, a__law_pick := f7, fd__law_pick := _, F__law_pick := F7, m__law_pick := PySem.W.mg_of X G a7, b__law_pick := b7, a__law_kind := f8, fd__law_kind := _, F__law_kind := F8, m__law_kind := PySem.W.mg_of X G a8, b__law_kind := b8, a__law_great := f9, fd__law_great := _, F__law_great := F9, m__law_great := PySem.W.mg_of X G a9, b__law_great := b9, a__law_half := f10, fd__law_half := _, F__law_half := F10, m__law_half := PySem.W.mg_of X G a10, b__law_half := b10, a__law_numbers := f11, fd__law_numbers := _, F__law_numbers := F11, m__law_numbers := PySem.W.mg_of X G a11, b__law_numbers := b11, a__law_is_point := f12, fd__law_is_point := _, F__law_is_point := F12, m__law_is_point := PySem.W.mg_of X G a12, b__law_is_point := b12, a__law_shown_right := f13, fd__law_shown_right := _, F__law_shown_right := F13, m__law_shown_right := PySem.W.mg_of X G a13, b__law_shown_right := b13, a_law := fa, fd_law := _, F_law := F14, m_law := PySem.W.mg_of X G a14, b_law := b14, z_abs := PySem.W.mg_none_of X G z0, z_range := PySem.W.mg_none_of X G z1, z_max := PySem.W.mg_none_of X G z2, z_min := PySem.W.mg_none_of X G z3, z_int := PySem.W.mg_none_of X G z4, z_isinstance := PySem.W.mg_none_of X G z5, z_list := PySem.W.mg_none_of X G z6, z_bool := PySem.W.mg_none_of X G z7, z_len := PySem.W.mg_none_of X G z8, u_MOST_CELLS := gu0, m_MOST_CELLS := PySem.W.mg_of X G g0a, r_MOST_CELLS := g0r }
  exact ⟨PySem.W.fnOf "law" "law" (defArgs s_law) (defBody s_law) (defScope s_law) .none kV14 dc14 pm14 an14 cd14 ct14, fun s v => .of_eq rfl, fun base _ _ => ok_law T⟩
theorem walk {l : PySem.W.OpenLaw} {q : Program} {loose : List Str} {XP : (Str → Option Value) → Heap → Prop} {YP : World → Heap → Prop} {d : DefRec} {K : Params → PySem.W.Frag} (hn : l.most = some 63) (hdf : d.params.defaults = [])
    (hY : ∀ (w : World) (h : Heap), YP w h → (K w.params).In h)
    (F : ∀ (w : World) (mg : Str → Option Value) (fa : Addr) (h : Heap), (K w.params).In h → h.Ns mainGlobals mg → mg d.name = some (.ref fa) →
      ∃ fd : FuncData, (∀ (s : Shared) (u : Value), BindsTo s fd ⟨[u], []⟩ [("script", u)]) ∧ ∀ base : Heap, (K w.params).In base → base.Ns mainGlobals mg → FnOk l.prog w (K w.params) mg base CX0 4 fa fd ["script"] (sp_law (K w.params))) :
    PySem.W.WalkO q loose XP YP l.row.toRowW d [] (fun f vs => PySem.call f vs) :=
  L2.walk_ofB (n := 63) (k := 4) (x := "script") (CX := fun _ => CX0) (sp := fun w => sp_law (K w.params)) hn (by decide) hdf ⟨rfl, by decide, by decide⟩ hY F (fun _ _ a ns hl hb _ hS => ⟨a, ns, rfl, hS, hl, hb, fun _ => rfl⟩) fun _ _ _ _ _ z => z
end My
open PySem PySem.W PyProof.Rows
set_option maxRecDepth 100000 in
set_option maxHeartbeats 0 in
theorem PySem.Challenge.cw_slackfigures_k05_points_and_cells_holds : PySem.Challenge.rw_slackfigures_k05_points_and_cells.Holds := by
  w_on; o_law; k_head; (case hw => w_witness2)
  k_fill
  refine My.walk (l := PySem.Challenge.rw_slackfigures_k05_points_and_cells) rfl rfl (fun w h Y => PySem.W.kIn_of Y) ?F
  case F =>
    intro w mg fa h KX G hmg
    refine' My.all_mk KX G hmg ?a0 ?l0 ?c0 ?k0 ?a1 ?l1 ?c1 ?k1 ?a2 ?l2 ?c2 ?k2 ?a3 ?l3 ?c3 ?k3 ?a4 ?l4 ?c4 ?k4 ?a5 ?l5 ?c5 ?k5 ?a6 ?l6 ?c6 ?k6 ?a7 ?l7 ?c7 ?k7 ?a8 ?l8 ?c8 ?k8 ?a9 ?l9 ?c9 ?k9 ?a10 ?l10 ?c10 ?k10 ?a11 ?l11 ?c11 ?k11 ?a12 ?l12 ?c12 ?k12 ?a13 ?l13 ?c13 ?k13 ?a14 ?l14 ?c14 ?k14 ?z0 ?z1 ?z2 ?z3 ?z4 ?z5 ?z6 ?z7 ?z8 ?g0a ?g0r
    (case a0 => k_is)
    (case l0 => k_is)
    (case c0 => k_is)
    (case k0 => k_is)
    (case a1 => k_is)
    (case l1 => k_is)
    (case c1 => k_is)
    (case k1 => k_is)
    (case a2 => k_is)
    (case l2 => k_is)
    (case c2 => k_is)
    (case k2 => k_is)
    (case a3 => k_is)
    (case l3 => k_is)
    (case c3 => k_is)
    (case k3 => k_is)
    (case a4 => k_is)
    (case l4 => k_is)
    (case c4 => k_is)
    (case k4 => k_is)
    (case a5 => k_is)
    (case l5 => k_is)
    (case c5 => k_is)
    (case k5 => k_is)
    (case a6 => k_is)
    (case l6 => k_is)
    (case c6 => k_is)
    (case k6 => k_is)
    (case a7 => k_is)
    (case l7 => k_is)
    (case c7 => k_is)
    (case k7 => k_is)
    (case a8 => k_is)
    (case l8 => k_is)
    (case c8 => k_is)
    (case k8 => k_is)
    (case a9 => k_is)
    (case l9 => k_is)
    (case c9 => k_is)
    (case k9 => k_is)
    (case a10 => k_is)
    (case l10 => k_is)
    (case c10 => k_is)
    (case k10 => k_is)
    (case a11 => k_is)
    (case l11 => k_is)
    (case c11 => k_is)
    (case k11 => k_is)
    (case a12 => k_is)
    (case l12 => k_is)
    (case c12 => k_is)
    (case k12 => k_is)
    (case a13 => k_is)
    (case l13 => k_is)
    (case c13 => k_is)
    (case k13 => k_is)
    (case a14 => k_is)
    (case l14 => k_is)
    (case c14 => k_is)
    (case k14 => k_is)
    (case z0 => k_is)
    (case z1 => k_is)
    (case z2 => k_is)
    (case z3 => k_is)
    (case z4 => k_is)
    (case z5 => k_is)
    (case z6 => k_is)
    (case z7 => k_is)
    (case z8 => k_is)
    (case g0a => k_is)
    (case g0r => first | exact rfl | exact ⟨_, rfl⟩ | k_is | decide)
