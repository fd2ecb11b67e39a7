import PyProof.Rows.All
import Wide.All
import OpenK.AllK
import Wide.FinOn
import HandS.ForMost
import HandS.EndBits
import HandS.Wide
import HandS.WideBits
import HandS.IsInst
import HandS.Style
import HandS.Codes
import HandS.Text
import HandS.Conv
import PySem.Challenge.RW_slackfigures_k12_whole_mirrored_and_fine
set_option Elab.async false
set_option linter.all false
set_option maxRecDepth 100000
set_option maxHeartbeats 4000000
namespace My
open PySem L2
def top (i : Nat) : Stmt := PySem.Challenge.pw_slackfigures_k12_whole_mirrored_and_fine.main.body.getD i (.Pass ⟨0, 0, 0, 0⟩)
abbrev s_met_bounds : Stmt := top 1
abbrev s_is_met : Stmt := top 2
abbrev s_least_great_enough : Stmt := top 3
abbrev s_good_bounds : Stmt := top 4
abbrev s_good_figures : Stmt := top 5
abbrev s__law_deck : Stmt := top 7
abbrev s__law_pick : Stmt := top 8
abbrev s__law_kind : Stmt := top 9
abbrev s__law_great : Stmt := top 10
abbrev s__law_half : Stmt := top 11
abbrev s__law_looks : Stmt := top 12
abbrev s__law_point : Stmt := top 13
abbrev s__law_within : Stmt := top 14
abbrev s_law : Stmt := top 15
theorem sc_met_bounds : FnScope ["kind", "looks", "sight", "top", "base", "most", "tops", "parts", "reach", "last"] ["kind", "looks", "sight", "top"] (defScope s_met_bounds) := ⟨rfl, rfl, rfl, by decide +kernel, rfl, by decide +kernel, by decide +kernel⟩
theorem sc_is_met : FnScope ["kind", "looks", "sight", "cell", "top", "look", "first", "last"] ["kind", "looks", "sight", "cell"] (defScope s_is_met) := ⟨rfl, rfl, rfl, by decide +kernel, rfl, by decide +kernel, by decide +kernel⟩
theorem sc_least_great_enough : FnScope ["kind", "looks", "top", "end", "base", "most", "tops", "parts", "divisor", "short", "figure"] ["kind", "looks", "top", "end"] (defScope s_least_great_enough) := ⟨rfl, rfl, rfl, by decide +kernel, rfl, by decide +kernel, by decide +kernel⟩
theorem sc_good_bounds : FnScope ["kind", "looks", "sight", "cell", "top", "look"] ["kind", "looks", "sight", "cell"] (defScope s_good_bounds) := ⟨rfl, rfl, rfl, by decide +kernel, rfl, by decide +kernel, by decide +kernel⟩
theorem sc_good_figures : FnScope ["kind", "looks", "sight", "cell", "least", "greatest"] ["kind", "looks", "sight", "cell"] (defScope s_good_figures) := ⟨rfl, rfl, rfl, by decide +kernel, rfl, by decide +kernel, by decide +kernel⟩
theorem sc__law_deck : FnScope ["cell", "turn"] ["cell", "turn"] (defScope s__law_deck) := ⟨rfl, rfl, rfl, by decide +kernel, rfl, by decide +kernel, by decide +kernel⟩
theorem sc__law_pick : FnScope ["deck", "many", "found", "number"] ["deck", "many"] (defScope s__law_pick) := ⟨rfl, rfl, rfl, by decide +kernel, rfl, by decide +kernel, by decide +kernel⟩
theorem sc__law_kind : FnScope ["deck", "base"] ["deck"] (defScope s__law_kind) := ⟨rfl, rfl, rfl, by decide +kernel, rfl, by decide +kernel, by decide +kernel⟩
theorem sc__law_great : FnScope ["deck", "figures", "size", "turn", "found"] ["deck", "figures"] (defScope s__law_great) := ⟨rfl, rfl, rfl, by decide +kernel, rfl, by decide +kernel, by decide +kernel⟩
theorem sc__law_half : FnScope ["kind", "looks"] ["kind", "looks"] (defScope s__law_half) := ⟨rfl, rfl, rfl, by decide +kernel, rfl, by decide +kernel, by decide +kernel⟩
theorem sc__law_looks : FnScope ["deck"] ["deck"] (defScope s__law_looks) := ⟨rfl, rfl, rfl, by decide +kernel, rfl, by decide +kernel, by decide +kernel⟩
theorem sc__law_point : FnScope ["deck", "kind", "looks", "wide", "size", "unit", "divisor", "reach", "rest"] ["deck", "kind", "looks"] (defScope s__law_point) := ⟨rfl, rfl, rfl, by decide +kernel, rfl, by decide +kernel, by decide +kernel⟩
theorem sc__law_within : FnScope ["kind", "looks", "sight", "cell", "others", "good", "met", "some", "seen", "other", "there", "figure"] ["kind", "looks", "sight", "cell", "others"] (defScope s__law_within) := ⟨rfl, rfl, rfl, by decide +kernel, rfl, by decide +kernel, by decide +kernel⟩
theorem sc_law : FnScope ["script", "deck", "kind", "looks", "tops", "parts", "sight", "cell", "wide", "divisor", "rest", "top", "look", "other", "good", "others", "k", "figure"] ["script"] (defScope s_law) := ⟨rfl, rfl, rfl, by decide +kernel, rfl, by decide +kernel, by decide +kernel⟩
/-- what the top has left -/
structure Txt (K : PySem.W.Frag) (mg : Str → Option Value) where
  a_met_bounds : Addr
  fd_met_bounds : FuncData
  F_met_bounds : Fun K "met_bounds" "met_bounds" s_met_bounds a_met_bounds fd_met_bounds
  m_met_bounds : mg "met_bounds" = some (.ref a_met_bounds)
  b_met_bounds : Binds K fd_met_bounds ["kind", "looks", "sight", "top"] []
  a_is_met : Addr
  fd_is_met : FuncData
  F_is_met : Fun K "is_met" "is_met" s_is_met a_is_met fd_is_met
  m_is_met : mg "is_met" = some (.ref a_is_met)
  b_is_met : Binds K fd_is_met ["kind", "looks", "sight", "cell"] []
  a_least_great_enough : Addr
  fd_least_great_enough : FuncData
  F_least_great_enough : Fun K "least_great_enough" "least_great_enough" s_least_great_enough a_least_great_enough fd_least_great_enough
  m_least_great_enough : mg "least_great_enough" = some (.ref a_least_great_enough)
  b_least_great_enough : Binds K fd_least_great_enough ["kind", "looks", "top", "end"] []
  a_good_bounds : Addr
  fd_good_bounds : FuncData
  F_good_bounds : Fun K "good_bounds" "good_bounds" s_good_bounds a_good_bounds fd_good_bounds
  m_good_bounds : mg "good_bounds" = some (.ref a_good_bounds)
  b_good_bounds : Binds K fd_good_bounds ["kind", "looks", "sight", "cell"] []
  a_good_figures : Addr
  fd_good_figures : FuncData
  F_good_figures : Fun K "good_figures" "good_figures" s_good_figures a_good_figures fd_good_figures
  m_good_figures : mg "good_figures" = some (.ref a_good_figures)
  b_good_figures : Binds K fd_good_figures ["kind", "looks", "sight", "cell"] []
  a__law_deck : Addr
  fd__law_deck : FuncData
  F__law_deck : Fun K "_law_deck" "_law_deck" s__law_deck a__law_deck fd__law_deck
  m__law_deck : mg "_law_deck" = some (.ref a__law_deck)
  b__law_deck : Binds K fd__law_deck ["cell", "turn"] []
  a__law_pick : Addr
  fd__law_pick : FuncData
  F__law_pick : Fun K "_law_pick" "_law_pick" s__law_pick a__law_pick fd__law_pick
  m__law_pick : mg "_law_pick" = some (.ref a__law_pick)
  b__law_pick : Binds K fd__law_pick ["deck", "many"] []
  a__law_kind : Addr
  fd__law_kind : FuncData
  F__law_kind : Fun K "_law_kind" "_law_kind" s__law_kind a__law_kind fd__law_kind
  m__law_kind : mg "_law_kind" = some (.ref a__law_kind)
  b__law_kind : Binds K fd__law_kind ["deck"] []
  a__law_great : Addr
  fd__law_great : FuncData
  F__law_great : Fun K "_law_great" "_law_great" s__law_great a__law_great fd__law_great
  m__law_great : mg "_law_great" = some (.ref a__law_great)
  b__law_great : Binds K fd__law_great ["deck", "figures"] []
  a__law_half : Addr
  fd__law_half : FuncData
  F__law_half : Fun K "_law_half" "_law_half" s__law_half a__law_half fd__law_half
  m__law_half : mg "_law_half" = some (.ref a__law_half)
  b__law_half : Binds K fd__law_half ["kind", "looks"] []
  a__law_looks : Addr
  fd__law_looks : FuncData
  F__law_looks : Fun K "_law_looks" "_law_looks" s__law_looks a__law_looks fd__law_looks
  m__law_looks : mg "_law_looks" = some (.ref a__law_looks)
  b__law_looks : Binds K fd__law_looks ["deck"] []
  a__law_point : Addr
  fd__law_point : FuncData
  F__law_point : Fun K "_law_point" "_law_point" s__law_point a__law_point fd__law_point
  m__law_point : mg "_law_point" = some (.ref a__law_point)
  b__law_point : Binds K fd__law_point ["deck", "kind", "looks"] []
  a__law_within : Addr
  fd__law_within : FuncData
  F__law_within : Fun K "_law_within" "_law_within" s__law_within a__law_within fd__law_within
  m__law_within : mg "_law_within" = some (.ref a__law_within)
  b__law_within : Binds K fd__law_within ["kind", "looks", "sight", "cell", "others"] []
  a_law : Addr
  fd_law : FuncData
  F_law : Fun K "law" "law" s_law a_law fd_law
  m_law : mg "law" = some (.ref a_law)
  b_law : Binds K fd_law ["script"] []
  z_max : mg "max" = none
  z_min : mg "min" = none
  z_list : mg "list" = none
  z_range : mg "range" = none
section
variable {P : Program} {w : World} {K : PySem.W.Frag} {mg : Str → Option Value} {base : Heap}
local macro_rules | `(tactic| walk_at "rd1") => `(tactic| first
  | refine ⟨_, rfl, ?_⟩
  | refine ⟨_, _, rfl, rfl, ?_⟩
  | refine ⟨_, _, _, _, rfl, rfl, SqL.of (by assumption), rfl, ?_⟩
  | refine ⟨_, _, _, _, rfl, rfl, SqT.of (by assumption), rfl, ?_⟩
  | refine ⟨_, _, _, _, rfl, rfl, by assumption, rfl, ?_⟩
  | refine ⟨_, _, rfl, .inl (SqL.of (by assumption)), ?_⟩
  | refine ⟨_, _, rfl, ?_⟩
  | refine ⟨_, _, rfl, .inr (SqT.of (by assumption)), ?_⟩
  | refine ⟨(show (0 : Int) < _ by first | assumption | decide | omega), ?_⟩
  | refine ⟨(rfl : scal _ _ = true), ?_⟩
  | refine ⟨⟨by decide, by decide⟩, ?_⟩
  | refine ⟨⟨by decide, by decide, by decide⟩, ?_⟩
  | refine ⟨Or.inl ⟨by decide, by decide⟩, ?_⟩
  | refine ⟨Or.inr ⟨by decide, by decide⟩, ?_⟩
  | fail "rd")
local macro_rules | `(tactic| walk_at "rd") => `(tactic| (walk_at "rd1"; repeat walk_at "rd1"))
/-! ### heaps -/
/-- what stood at another place than a stands as it was -/
def Keep (a : Addr) (H H' : Hp) : Prop := ∀ b o, b ≠ a → H b = some o → H' b = some o
theorem Keep.refl (a : Addr) (H : Hp) : Keep a H H := fun _ _ _ h => h
theorem Keep.trans {a : Addr} {H H1 H2 : Hp} (x : Keep a H H1) (y : Keep a H1 H2) : Keep a H H2 := fun b o n h => y b o n (x b o n h)
theorem Keep.upd {a : Addr} {H : Hp} {o : HO} : Keep a H (upd H a o) := fun b u n h => by
  rw [upd_ne n]
  exact h
theorem Keep.new {a p : Addr} {H : Hp} {o : HO} (h : H p = none) : Keep a H (L2.upd H p o) := fun b u _ e => by
  rw [upd_ne (ne_of_none e h)]
  exact e
theorem Keep.same {a : Addr} {H H' : Hp} (h : Same H H') : Keep a H H' := fun b o _ e => h b o e
theorem same_new {H : Hp} {p : Addr} (h : H p = none) (o : HO) : Same H (upd H p o) := fun b u q => by
  rw [upd_ne (ne_of_none q h)]
  exact q
/-! ### + of lists that are read (the script among them) -/
section
open PySem.Spec PyProof.Rows
def rCatR (K : PySem.W.Frag) : R2 := fun x y H Q => ∃ l b us zs, x = .ref l ∧ y = .ref b ∧ SqL K H l us ∧ SqL K H b zs ∧ us.length + zs.length ≤ sizeLine ∧ ∀ p, H p = none → Q (.ref p) (upd H p (.lst (us ++ zs)))
theorem op_catR {X : Cx} : OpR X (binaryOp .Add) (rCatR X.K) := by
  intro pins sh sg H x y v u Q I rx ry hyp
  obtain ⟨l, b, us, zs, rfl, rfl, hl, hb, hz, q⟩ := hyp
  cases rx
  cases ry
  obtain ⟨i1, r1, p1, _⟩ := I.list hl
  obtain ⟨i2, r2, p2, _⟩ := I.list hb
  have n1 := r1.length
  have n2 := r2.length
  obtain ⟨⟨c1, d1, t1, s1⟩, g1, e1, m1, f1⟩ := p1.isList
  obtain ⟨⟨c2, d2, t2, s2⟩, g2, e2, m2, f2⟩ := p2.isList
  simp only at e1 f1 e2 f2
  subst e1 f1 e2 f2
  refine concat_meets ⟨_, g1, rfl⟩ ⟨_, g2, rfl⟩ noFill_list_add seq_list_add PySem.F.slot_list_add PySem.F.entry_list_add (PySem.F.args_list_add_2 _ _)
    (list_addW l b i1.toArray i2.toArray m1 m2 d1 d2 s1 s2 (by simp only [List.size_toArray]; omega)) ⟨g1, g2, ?_⟩
  rw [show i1.toArray ++ i2.toArray = (i1 ++ i2).toArray by simp]
  exact ⟨.ref _, _, I.lnew (t' := sh.toks) (r1.append r2) (by rw [List.length_append]; exact hz), rfl, q _ I.fresh⟩
end
/-! ### the deck -/
def Deck (H : Hp) (a : Addr) (n : Nat) : Prop := ∃ d0 d1 d2 : Int, H a = some (.lst [.int d0, .int d1, .int d2]) ∧ 0 ≤ d0 ∧ 0 ≤ d1 ∧ d1 < 2147483648 ∧ 0 ≤ d2 ∧ d2 ≤ n
theorem Deck.le {H : Hp} {a : Addr} {n m : Nat} (h : Deck H a n) (e : n ≤ m) : Deck H a m := by
  obtain ⟨d0, d1, d2, h1, h2, h3, h4, h5, h6⟩ := h
  exact ⟨d0, d1, d2, h1, h2, h3, h4, h5, by omega⟩
theorem Deck.same {H H' : Hp} {a : Addr} {n : Nat} (h : Deck H a n) (e : Same H H') : Deck H' a n := by
  obtain ⟨d0, d1, d2, h1, r⟩ := h
  exact ⟨d0, d1, d2, e _ _ h1, r⟩
theorem Deck.some {H : Hp} {a : Addr} {n : Nat} (h : Deck H a n) : ∃ o, H a = some o := by
  obtain ⟨d0, d1, d2, h1, r⟩ := h
  exact ⟨_, h1⟩
theorem Deck.ne {H : Hp} {a p : Addr} {n : Nat} (h : Deck H a n) (e : H p = none) : p ≠ a := by
  obtain ⟨d0, d1, d2, h1, r⟩ := h
  exact fun z => by rw [z, h1] at e; cases e
def sp__law_deck (K : PySem.W.Frag) : Sp := fun vs H Q _ => ∃ (c t : Int) (n : Nat), vs = [.int c, .int t] ∧ 0 ≤ t ∧ t ≤ n ∧
  ∀ p H', H p = none → Same H H' → Deck H' p n → Q (.ref p) H'
def sp__law_pick (K : PySem.W.Frag) : Sp := fun vs H Q _ => ∃ (a : Addr) (many : Int) (n : Nat), vs = [.ref a, .int many] ∧ Deck H a n ∧ n ≤ 1000000000 ∧ 0 < many ∧ many.natAbs.log2 < 9000 ∧
  ∀ v H', 0 ≤ v → v < many → Keep a H H' → Deck H' a (n + 1) → Q (.int v) H'
theorem ok__law_deck (T : Txt K mg) : FnOk P w K mg base CX0 1 T.a__law_deck T.fd__law_deck ["cell", "turn"] (sp__law_deck K) := by
  refine T.F__law_deck.ok sc__law_deck (fun vs H Q E h => ?_) (fun cdv A outer s H vs Q E hr h => ?_)
  · obtain ⟨c, t, n, rfl, _⟩ := h
    rfl
  obtain ⟨c, t, n, rfl, ht, htn, q⟩ := h
  refine ⟨_, (pss_cons (ps_if (pt_cmpR op_ge (pv 0) (pe_op op_pow pe_int pe_int) (nomark _)) (pss_one (ps_ret (pe_lst (pa_cons (pe_op op_sub (pv 0) (pe_op op_pow pe_int pe_int)) (pa_cons (pe_op op_mod (pv 0) pe_int) (pa_cons (pv 1) pa_nil)))))) pss_nil)
      (pss_one (ps_ret (pe_lst (pa_cons pe_int (pa_cons (pe_op op_mod (pv 0) pe_int) (pa_cons (pv 1) pa_nil))))))), ?_⟩
  walk_at "rd"
  have e18 : (10 : Int) ^ (18 : Int).toNat = 1000000000000000000 := by decide +kernel
  refine ite2 (fun c' => ?_) (fun _ => ?_)
  · have c1 : (10 : Int) ^ (18 : Int).toNat ≤ c := of_decide_eq_true c'
    walk_at "rd"
    refine ⟨by show 3 ≤ sizeLine; decide, fun p hp => ?_⟩
    refine q p _ hp (same_new hp _) ⟨_, _, _, upd_same, ?_, ?_, ?_, ht, htn⟩ <;> omega
  · walk_at "rd"
    refine ⟨by show 3 ≤ sizeLine; decide, fun p hp => ?_⟩
    refine q p _ hp (same_new hp _) ⟨_, _, _, upd_same, ?_, ?_, ?_, ht, htn⟩ <;> omega
theorem ok__law_pick (T : Txt K mg) : FnOk P w K mg base CX0 1 T.a__law_pick T.fd__law_pick ["deck", "many"] (sp__law_pick K) := by
  refine T.F__law_pick.ok sc__law_pick (fun vs H Q E h => ?_) (fun cdv A outer s H vs Q E hr h => ?_)
  · obtain ⟨a, many, n, rfl, _⟩ := h
    rfl
  obtain ⟨a, many, n, rfl, ⟨d0, d1, d2, hd, h0, h1, h1', h2, h2'⟩, hn, hm, hm', q⟩ := h
  refine ⟨_, (pss_cons (ps_if (pt_cmpR op_gt (pe_ix ix_list (pv 0) pe_int (fun _ _ => rfl)) pe_int (nomark _)) (pss_cons (ps_set (i := 2) sc__law_pick.nd rfl (Or.inl rfl) (pe_op op_mod (pe_ix ix_list (pv 0) pe_int (fun _ _ => rfl)) (pv 1)))
      (pss_cons (ps_asg (pe_op op_fdivW (pe_ix ix_list (pv 0) pe_int (fun _ _ => rfl)) (pv 1)) (pg_sub (pv 0) pe_int set_list))
      (pss_one (ps_ret (pv 2))))) pss_nil)
      (pss_cons (ps_asg (pe_op op_add (pe_ix ix_list (pv 0) pe_int (fun _ _ => rfl)) pe_int) (pg_sub (pv 0) pe_int set_list))
      (pss_cons (ps_set (i := 3) sc__law_pick.nd rfl (Or.inl rfl) (pe_op op_mod (pe_op op_pow (pe_op op_add (pe_ix ix_list (pv 0) pe_int (fun _ _ => rfl)) (pe_op op_mul pe_int (pe_ix ix_list (pv 0) pe_int (fun _ _ => rfl)))) pe_int) pe_int))
      (pss_cons (ps_set (i := 2) sc__law_pick.nd rfl (Or.inl rfl) (pe_op op_fdivW (pe_op op_mod (pe_op op_pow (pe_op op_add (pv 3) (pe_op op_mul pe_int (pe_ix ix_list (pv 0) pe_int (fun _ _ => rfl)))) pe_int) pe_int) pe_int))
      (pss_cons (ps_if (pt_cmpR op_gt (pv 1) pe_int (nomark _)) (pss_one (ps_ret (pe_op op_mod (pe_op op_add (pe_op op_mul (pv 2) pe_int) (pv 3)) (pv 1)))) pss_nil)
      (pss_one (ps_ret (pe_op op_mod (pv 2) (pv 1))))))))), ?_⟩
  walk_at "rd"
  refine ite2 (fun c => ?_) (fun c => ?_)
  · walk_at "rd"
    refine ⟨⟨hm, hm'⟩, ?_⟩
    walk_at "rd"
    exact q _ _ (Int.emod_nonneg _ (by omega)) (Int.emod_lt_of_pos _ hm) Keep.upd ⟨_, _, _, upd_same, Int.ediv_nonneg h0 (by omega), h1, h1', h2, by omega⟩
  · walk_at "rd"
    have hd2 : (upd H a (.lst ([V.int d0, .int d1, .int d2].set 2 (.int (d2 + 1))))) a = some (.lst [.int d0, .int d1, .int (d2 + 1)]) := upd_same
    walk_at "rd"
    refine ⟨⟨by decide, by decide, by omega⟩, ?_⟩
    walk_at "rd"
    refine ⟨⟨by decide, by decide, by omega⟩, ?_⟩
    walk_at "rd"
    refine ite2 (fun c2 => ?_) (fun c2 => ?_)
    · walk_at "rd"
      exact q _ _ (Int.emod_nonneg _ (by omega)) (Int.emod_lt_of_pos _ hm) Keep.upd ⟨_, _, _, upd_same, h0, h1, h1', by omega, by omega⟩
    · walk_at "rd"
      exact q _ _ (Int.emod_nonneg _ (by omega)) (Int.emod_lt_of_pos _ hm) Keep.upd ⟨_, _, _, upd_same, h0, h1, h1', by omega, by omega⟩
/-! ### a written list at a drawn place -/
theorem at_some {α : Type} {xs : List α} {i : Int} (h0 : 0 ≤ i) (h1 : i < xs.length) : ∃ y, atI xs i = some y ∧ y ∈ xs := by
  obtain ⟨k, rfl⟩ := Int.eq_ofNat_of_zero_le h0
  have hk : k < xs.length := by omega
  exact ⟨xs[k], atI_nat (List.getElem?_eq_getElem hk), List.getElem_mem hk⟩
theorem lt_pow {z : Int} (h0 : 0 ≤ z) (h : z < 2 ^ 63) : z.natAbs.log2 < 9000 := by
  by_cases e : z.natAbs = 0
  · rw [e]; decide
  · have h1 : z.natAbs < 2 ^ 63 := by omega
    have h2 := (Nat.log2_lt e).mpr h1
    omega
def sp__law_kind (K : PySem.W.Frag) : Sp := fun vs H Q _ => ∃ (a : Addr) (n : Nat), vs = [.ref a] ∧ Deck H a n ∧ n ≤ 900000000 ∧
  ∀ (p : Addr) (b m : Int) (H' : Hp), Keep a H H' → Deck H' a (n + 2) → H' p = some (.tup [.int b, .int m]) → (b = 2 ∨ b = 4 ∨ b = 8 ∨ b = 16) → b / 2 ≤ m → m ≤ b - 1 → Q (.ref p) H'
theorem ok__law_kind (T : Txt K mg) : FnOk P w K mg base CX0 2 T.a__law_kind T.fd__law_kind ["deck"] (sp__law_kind K) := by
  refine T.F__law_kind.ok sc__law_kind (fun vs H Q E h => ?_) (fun cdv A outer s H vs Q E hr h => ?_)
  · obtain ⟨a, n, rfl, _⟩ := h
    rfl
  obtain ⟨a, n, rfl, hd, hn, q⟩ := h
  refine ⟨_, (pss_cons (ps_set (i := 1) sc__law_kind.nd rfl (Or.inl rfl) (pe_ix ix_list (pe_lst (pa_cons pe_int (pa_cons pe_int (pa_cons pe_int (pa_cons pe_int (pa_cons pe_int pa_nil)))))) (pe_call (ok__law_pick T) (hr.mono (by first | decide | omega)) rfl T.m__law_pick T.F__law_pick.kp T.b__law_pick .nil pass0 (pa_cons (pv 0) (pa_cons pe_int pa_nil))) (fun _ _ => rfl)))
      (pss_one (ps_ret (pe_tup (pa_cons (pv 1) (pa_cons (pe_op op_add (pe_op op_fdiv (pv 1) pe_int) (pe_call (ok__law_pick T) (hr.mono (by first | decide | omega)) rfl T.m__law_pick T.F__law_pick.kp T.b__law_pick .nil pass0 (pa_cons (pv 0) (pa_cons (pe_op op_sub (pv 1) (pe_op op_fdiv (pv 1) pe_int)) pa_nil)))) pa_nil)))))), ?_⟩
  refine ⟨by show 5 ≤ sizeLine; decide, fun l hl => ?_⟩
  walk_at "rd"
  refine ⟨a, 5, n, rfl, hd.same (same_new hl _), by omega, by decide, lt_pow (by decide) (by decide), fun v H1 v0 v1 k1 d1 => ?_⟩
  have hl1 : H1 l = some (.lst [.int 2, .int 4, .int 4, .int 8, .int 16]) := k1 _ _ (hd.ne hl) upd_same
  obtain ⟨y, hy, my⟩ := at_some (xs := [V.int 2, .int 4, .int 4, .int 8, .int 16]) v0 (by show v < 5; omega)
  refine ⟨l, _, v, y, rfl, rfl, SqL.of hl1, hy, ?_⟩
  have hb : ∃ b : Int, y = .int b ∧ (b = 2 ∨ b = 4 ∨ b = 8 ∨ b = 16) := by
    simp only [List.mem_cons, List.not_mem_nil, or_false] at my
    rcases my with e | e | e | e | e <;> exact ⟨_, e, by decide⟩
  obtain ⟨b, rfl, hb⟩ := hb
  walk_at "rd"
  refine ⟨a, b - b / 2, n + 1, rfl, d1, by omega, by omega, lt_pow (by omega) (by omega), fun v2 H2 w0 w1 k2 d2 => ?_⟩
  walk_at "rd"
  refine ⟨by show 2 ≤ sizeLine; decide, fun p hp => ?_⟩
  refine q p b (b / 2 + v2) _ ?_ (d2.same (same_new hp _)) upd_same hb (by omega) (by omega)
  exact (Keep.new (a := a) hl).trans (k1.trans (k2.trans (Keep.new hp)))
/-! ### what is known of a heap beside the deck: facts that stay -/
structure Fact (a : Addr) where
  P : Hp → Prop
  mono : ∀ {H H' : Hp}, Keep a H H' → P H → P H'
def Fs (a : Addr) (H : Hp) : List (Fact a) → Prop
  | [] => True
  | f :: L => f.P H ∧ Fs a H L
theorem Fs.keep {a : Addr} {H H' : Hp} (k : Keep a H H') : ∀ {L : List (Fact a)}, Fs a H L → Fs a H' L
  | [], _ => trivial
  | f :: _, h => ⟨f.mono k h.1, Fs.keep k h.2⟩
theorem Fs.get {a : Addr} {H : Hp} {f : Fact a} : ∀ {L : List (Fact a)}, Fs a H L → f ∈ L → f.P H
  | _ :: _, h, .head _ => h.1
  | _ :: _, h, .tail _ m => Fs.get h.2 m
/-- the object o stands at p, which is not the deck -/
def At (a p : Addr) (o : HO) : Fact a := ⟨fun H => p ≠ a ∧ H p = some o, fun k h => ⟨h.1, k _ _ h.1 h.2⟩⟩
/-- p is no deck, and something stands there -/
def Bd (a p : Addr) : Fact a := ⟨fun H => p ≠ a ∧ ∃ o, H p = some o, fun k h => ⟨h.1, h.2.choose, k _ _ h.1 h.2.choose_spec⟩⟩
structure S (a : Addr) (n : Nat) (H : Hp) (L : List (Fact a)) : Prop where
  d : Deck H a n
  f : Fs a H L
namespace S
variable {a : Addr} {n m : Nat} {H H' : Hp} {L : List (Fact a)}
theorem le (s : S a n H L) (h : n ≤ m) : S a m H L := ⟨s.d.le h, s.f⟩
theorem keep (s : S a n H L) (k : Keep a H H') (d : Deck H' a m) : S a m H' L := ⟨d, s.f.keep k⟩
theorem same (s : S a n H L) (e : Same H H') : S a n H' L := ⟨s.d.same e, s.f.keep (Keep.same e)⟩
theorem get {f : Fact a} (s : S a n H L) (h : f ∈ L) : f.P H := s.f.get h
theorem at_ {p : Addr} {o : HO} (s : S a n H L) (h : At a p o ∈ L) : H p = some o := (s.f.get h).2
theorem ne_ {p : Addr} {o : HO} (s : S a n H L) (h : At a p o ∈ L) : p ≠ a := (s.f.get h).1
theorem add {f : Fact a} (s : S a n H L) (h : f.P H) : S a n H (f :: L) := ⟨s.d, h, s.f⟩
theorem drop {f : Fact a} (s : S a n H (f :: L)) : S a n H L := ⟨s.d, s.f.2⟩
theorem only {f : Fact a} (s : S a n H (f :: L)) : S a n H [f] := ⟨s.d, s.f.1, trivial⟩
theorem new {p : Addr} (s : S a n H L) (h : H p = none) (o : HO) : S a n (upd H p o) (At a p o :: L) :=
  (s.same (same_new h o)).add ⟨s.d.ne h, upd_same⟩
theorem fresh {p : Addr} {o : HO} (s : S a n H L) (h : H p = none) (e : Same H H') (h2 : H' p = some o) : S a n H' (At a p o :: L) :=
  (s.same e).add ⟨s.d.ne h, h2⟩
/-- behind a draw -/
theorem next {many : Int} {R : Int → Hp → Prop} (s : S a n H L) (k : ∀ (v : Int) (H' : Hp), 0 ≤ v → v < many → Keep a H H' → S a (n + 1) H' L → R v H') :
    ∀ (v : Int) (H' : Hp), 0 ≤ v → v < many → Keep a H H' → Deck H' a (n + 1) → R v H' := fun v H' v0 v1 kk d => k v H' v0 v1 kk (s.keep kk d)
/-- a displayed list, read at a drawn place -/
theorem choose {K : PySem.W.Frag} {xs : List V} {many : Int} {Q : VK} {p : Addr} (s : S a n H L) (hp : H p = none) (h1 : many ≤ xs.length)
    (k : ∀ (y : V) (H' : Hp), y ∈ xs → Keep a H H' → S a (n + 1) H' L → Q y H') :
    ∀ (v : Int) (H' : Hp), 0 ≤ v → v < many → Keep a (upd H p (.lst xs)) H' → Deck H' a (n + 1) → rIxL K (.ref p) (.int v) H' Q := by
  intro v H' v0 v1 kk d
  have s2 := (s.new hp (.lst xs)).keep kk d
  obtain ⟨y, hy, my⟩ := at_some (xs := xs) v0 (by omega)
  exact ⟨p, xs, v, y, rfl, rfl, SqL.of (s2.at_ (.head _)), hy, k y H' my ((Keep.new hp).trans kk) s2.drop⟩
theorem disp {o : HO} {R : Addr → Hp → Prop} (s : S a n H L) (k : ∀ p, H p = none → S a n (upd H p o) (At a p o :: L) → R p (upd H p o)) : ∀ p, H p = none → R p (upd H p o) := fun p hp => k p hp (s.new hp o)
end S
/-- a deck made -/
theorem S.of_deck {n : Nat} {H : Hp} {R : Addr → Hp → Prop} (k : ∀ (a : Addr) (H' : Hp), H a = none → Same H H' → S a n H' [] → R a H') :
    ∀ p H', H p = none → Same H H' → Deck H' p n → R p H' := fun p H' hp e d => k p H' hp e ⟨d, trivial⟩
/-! ### loops over range(n) -/
theorem for_range0 {n : Nat} {g : TG} {tb : TS} {D : Ends} {σ : L2.St} {H : Hp} (Pv : Nat → L2.St → Hp → Prop) (h0 : Pv 0 σ H)
    (hs : ∀ (i : Nat) σ H, i < n → Pv i σ H → g (.int (i : Int)) σ H fun σ2 H2 => tb { D with nx := Pv (i + 1), ct := Pv (i + 1), bk := D.nx } σ2 H2) (hd : ∀ σ H, Pv n σ H → D.nx σ H) :
    ∃ W : Nat → Nat → L2.St → Hp → Prop, (∃ m, W 0 m σ H) ∧ ∀ i m σ H, W i m σ H →
      ((Itr 0 n).stop i H ∧ D.nx σ H) ∨ ((Itr 0 n).go i H ∧ ∃ N : L2.St → Hp → Prop, (∀ σ' H', N σ' H' → ∃ m', m' < m ∧ W (i + 1) m' σ' H') ∧ ∀ x H', (Itr 0 n).yld i H x H' → g x σ H' fun σ2 H2 => tb { D with nx := N, ct := N, bk := D.nx } σ2 H2) :=
  for_range (lo := 0) Pv h0 (fun i σ H hi p => by rw [Int.zero_add]; exact hs i σ H hi p) hd
/-! ### the value of an operation under another name -/
theorem add_to {i j k : Int} {H : Hp} {Q : VK} (e : i + j = k) (q : Q (.int k) H) : rI0 (fun i j => V.int (i + j)) (.int i) (.int j) H Q := ⟨i, j, rfl, rfl, by
  show Q (.int (i + j)) H
  rw [e]; exact q⟩
theorem sub_to {i j k : Int} {H : Hp} {Q : VK} (e : i - j = k) (q : Q (.int k) H) : rI0 (fun i j => V.int (i - j)) (.int i) (.int j) H Q := ⟨i, j, rfl, rfl, by
  show Q (.int (i - j)) H
  rw [e]; exact q⟩
theorem rI_to {C : Int → Int → Prop} {g : Int → Int → Int} {i j k : Int} {H : Hp} {Q : VK} (c : C i j) (e : g i j = k) (q : Q (.int k) H) : rI C (fun i j => V.int (g i j)) (.int i) (.int j) H Q := ⟨i, j, rfl, rfl, c, by
  show Q (.int (g i j)) H
  rw [e]; exact q⟩
/-- n - 1 of a number from 1 on -/
theorem op_sub1N {X : Cx} : OpR X (binaryOp .Sub) (fun x y H Q => ∃ n : Nat, x = .int (n : Int) ∧ y = .int 1 ∧ 1 ≤ n ∧ Q (.int ((n - 1 : Nat) : Int)) H) := by
  intro pins s σ H x y v u Q I rx ry h
  obtain ⟨n, rfl, rfl, c, q⟩ := h
  have e : ((n - 1 : Nat) : Int) = (n : Int) - 1 := by omega
  rw [e] at q
  exact op_sub pins s σ H _ _ v u Q I rx ry ⟨_, _, rfl, rfl, q⟩
/-! ### tests that are decided -/
section
variable {c A B : Prop} [Decidable c] {i j : Int}
theorem iteY (h : c) (x : A) : if decide c = true then A else B := by rw [if_pos (decide_eq_true h)]; exact x
theorem iteN (h : ¬ c) (x : B) : if decide c = true then A else B := by rw [if_neg (by rw [decide_eq_false h]; decide)]; exact x
theorem iteY' (h : ¬ c) (x : A) : if (!decide c) = true then A else B := by rw [decide_eq_false h, if_pos (by decide)]; exact x
theorem iteN' (h : c) (x : B) : if (!decide c) = true then A else B := by rw [decide_eq_true h, if_neg (by decide)]; exact x
theorem iteVY (h : i = j) (x : A) : if decide (V.int i = V.int j) = true then A else B := iteY (by rw [h]) x
theorem iteVN (h : i ≠ j) (x : B) : if decide (V.int i = V.int j) = true then A else B := iteN (fun e => h (by injection e)) x
theorem iteVY' (h : i ≠ j) (x : A) : if (!decide (V.int i = V.int j)) = true then A else B := iteY' (fun e => h (by injection e)) x
theorem iteVN' (h : i = j) (x : B) : if (!decide (V.int i = V.int j)) = true then A else B := iteN' (by rw [h]) x
end
local macro_rules | `(tactic| walk_at "mem") => `(tactic| first
  | exact .head _
  | exact .tail _ (.head _)
  | exact .tail _ (.tail _ (.head _))
  | exact .tail _ (.tail _ (.tail _ (.head _)))
  | exact .tail _ (.tail _ (.tail _ (.tail _ (.head _))))
  | exact .tail _ (.tail _ (.tail _ (.tail _ (.tail _ (.head _)))))
  | exact .tail _ (.tail _ (.tail _ (.tail _ (.tail _ (.tail _ (.head _)))))))
local macro_rules | `(tactic| walk_at "rd1") => `(tactic| first
  | refine ⟨_, rfl, ?_⟩
  | refine ⟨_, _, rfl, rfl, ?_⟩
  | refine ⟨_, _, _, _, rfl, rfl, SqL.of (by assumption), rfl, ?_⟩
  | refine ⟨_, _, _, _, rfl, rfl, SqT.of (by assumption), rfl, ?_⟩
  | refine ⟨_, _, _, _, rfl, rfl, by assumption, rfl, ?_⟩
  | refine ⟨_, _, rfl, .inl (SqL.of (by assumption)), ?_⟩
  | refine ⟨_, _, rfl, ?_⟩
  | refine ⟨_, _, rfl, .inr (SqT.of (by assumption)), ?_⟩
  | refine And.intro (by first | omega | assumption) ?_
  | refine And.intro ⟨(show -(2 ^ 62) ≤ _ by omega), (by omega), (by omega), (by omega)⟩ ?_
  | refine ⟨(rfl : scal _ _ = true), ?_⟩
  | refine ⟨⟨by decide, by decide⟩, ?_⟩
  | refine ⟨⟨by decide, by decide, by decide⟩, ?_⟩
  | refine ⟨Or.inl ⟨by decide, by decide⟩, ?_⟩
  | refine ⟨Or.inr ⟨by decide, by decide⟩, ?_⟩
  | refine ⟨_, rfl, rfl, (by omega), ?_⟩
  | refine ⟨_, _, rfl, rfl, (by omega), ?_⟩
  | refine ⟨_, _, _, _, rfl, rfl, SqL.of (S.at_ (by assumption) (by walk_at "mem")), rfl, ?_⟩
  | refine ⟨_, _, _, _, rfl, rfl, SqT.of (S.at_ (by assumption) (by walk_at "mem")), rfl, ?_⟩
  | refine ⟨_, _, _, _, true, rfl, .ty _, .base (.tup (S.at_ (by assumption) (by walk_at "mem"))), kit_ty (by decide +kernel), ?_⟩
  | refine ⟨_, _, _, _, true, rfl, .ty _, .base (.lst (S.at_ (by assumption) (by walk_at "mem"))), kit_ty (by decide +kernel), ?_⟩
  | refine ⟨_, _, _, _, true, rfl, .ty _, .base (.tup (by assumption)), kit_ty (by decide +kernel), ?_⟩
  | refine ⟨_, _, _, _, true, rfl, .ty _, .base (.lst (by assumption)), kit_ty (by decide +kernel), ?_⟩
  | refine ⟨_, _, _, _, true, rfl, .ty _, .base (.bl _), kit_ty (by decide +kernel), ?_⟩
  | refine ⟨fun _ => True, _, rfl, .int _, ?_⟩
  | refine And.intro rfl ?_
  | refine ⟨_, _, rfl, (show SqT _ _ _ _ by assumption), rfl, ?_⟩
  | refine ⟨_, _, rfl, SqT.of (by assumption), rfl, ?_⟩
  | refine ⟨_, _, rfl, SqT.of (S.at_ (by assumption) (by walk_at "mem")), rfl, ?_⟩
  | refine ⟨Or.inl ⟨by omega, by omega⟩, ?_⟩
  | refine ⟨Or.inr ⟨by omega, by omega⟩, ?_⟩
  | fail "rd")
local macro_rules | `(tactic| walk_at "if") => `(tactic| first
  | refine iteY (by omega) ?_
  | refine iteN (by omega) ?_
  | refine iteY' (by omega) ?_
  | refine iteN' (by omega) ?_
  | refine iteVY (by omega) ?_
  | refine iteVN (by omega) ?_
  | refine iteVY' (by omega) ?_
  | refine iteVN' (by omega) ?_
  | refine iteT ?_
  | refine iteF ?_)
local macro_rules | `(tactic| walk_at "rs") => `(tactic| repeat walk_at "rd1")
local macro_rules | `(tactic| walk_at "go") => `(tactic| repeat (first | walk_at "rd1" | walk_at "if"))
local macro_rules | `(tactic| walk_at "pick") => `(tactic| (
  refine ⟨_, _, _, rfl, S.d (by assumption), (by omega), (by first | omega | decide +kernel), lt_pow (by first | omega | decide +kernel) (by first | omega | decide +kernel), ?_⟩
  refine S.next (by assumption) ?_))
local macro_rules | `(tactic| walk_at "choose") => `(tactic| (
  refine ⟨(by simp only [List.length_cons, List.length_nil]; decide), fun p hp => ?_⟩
  walk_at "rd"
  refine ⟨_, _, _, rfl, S.d (S.same (by assumption) (same_new hp _)), (by omega), (by decide), lt_pow (by decide) (by decide), ?_⟩
  refine S.choose (by assumption) hp (by simp only [List.length_cons, List.length_nil]; decide) ?_))
theorem Keep.mut {a r : Addr} {H H' : Hp} {o : HO} (k : Keep a H H') (h : H r = none) : Keep a H (L2.upd H' r o) := fun b u n e => by
  rw [upd_ne (ne_of_none e h)]
  exact k b u n e
theorem Deck.mut {a r : Addr} {H : Hp} {n : Nat} {o : HO} (d : Deck H a n) (h : r ≠ a) : Deck (upd H r o) a n := by
  obtain ⟨d0, d1, d2, h1, q⟩ := d
  exact ⟨d0, d1, d2, by rw [upd_ne (Ne.symm h)]; exact h1, q⟩
theorem nat_of {v : Int} (h : 0 ≤ v) : ∃ n : Nat, v = (n : Int) := Int.eq_ofNat_of_zero_le h
theorem Keep.none_of {a p : Addr} {H H' : Hp} {n : Nat} (k : Keep a H H') (d : Deck H' a n) (h : H' p = none) : H p = none := by
  cases e : H p with
  | none => rfl
  | some o => rw [k p o (d.ne h) e] at h; cases h
/-! ### things of any kind -/
inductive Th (B : Addr → Prop) (H : Hp) : V → Prop where
  | int (i : Int) : Th B H (.int i)
  | bl (b : Bool) : Th B H (.bl b)
  | non : Th B H .non
  | str (z : Str) : Th B H (.str z)
  | lst (p : Addr) (xs : List V) (n : B p) (h : H p = some (.lst xs)) (t : ∀ x ∈ xs, Th B H x) : Th B H (.ref p)
  | tup (p : Addr) (xs : List V) (n : B p) (h : H p = some (.tup xs)) (t : ∀ x ∈ xs, Th B H x) : Th B H (.ref p)
theorem Th.keep {B B' : Addr → Prop} {H H' : Hp} {v : V} (k : ∀ p o, B p → H p = some o → H' p = some o) (e : ∀ p, B p → B' p) (h : Th B H v) : Th B' H' v := by
  induction h with
  | int i => exact .int i
  | bl b => exact .bl b
  | non => exact .non
  | str z => exact .str z
  | lst p xs n h t ih => exact .lst p xs (e p n) (k _ _ n h) ih
  | tup p xs n h t ih => exact .tup p xs (e p n) (k _ _ n h) ih
def isI : V → Bool
  | .int _ => true
  | _ => false
def sp_isI (K : PySem.W.Frag) : Sp := fun vs H Q _ => ∃ (B : Addr → Prop) (v : V), vs = [v] ∧ Th B H v ∧ Q (.bl (isI v)) H
/-! ### worths of pairs: the mathematics -/
/-- the worth by the size S -/
def pwS (S t : Int) : Int := if 2 * (t % S) < S then t % S else t % S - S
/-- the law's own -/
def lwS (S t : Int) : Int := if t % S ≥ S - S / 2 then t % S - S else t % S
theorem two_pos (k : Nat) : (0 : Int) < 2 ^ k := by
  have h := Nat.two_pow_pos k
  have e : (2 : Int) ^ k = ((2 ^ k : Nat) : Int) := by rw [Int.natCast_pow]; rfl
  rw [e]; omega
theorem two_cast (k : Nat) : (2 : Int) ^ k = ((2 ^ k : Nat) : Int) := by rw [Int.natCast_pow]; rfl
theorem div2 {i : Int} {l : Nat} (h : l < 9000) : CDivW i (2 ^ l) := ⟨two_pos l, by
  rw [two_cast, Int.natAbs_natCast, Nat.log2_two_pow]; exact h⟩
theorem two_even {w : Nat} (h : 1 ≤ w) : (2 : Int) ^ w = 2 * 2 ^ (w - 1) := by
  obtain ⟨k, rfl⟩ : ∃ k, w = k + 1 := ⟨w - 1, by omega⟩
  rw [Int.pow_succ, Nat.add_sub_cancel]; omega
theorem lw_pw {S t : Int} (h : ∃ Z, S = 2 * Z) : lwS S t = pwS S t := by
  obtain ⟨Z, rfl⟩ := h
  unfold lwS pwS
  generalize t % (2 * Z) = r
  by_cases c : 2 * r < 2 * Z
  · rw [if_pos c, if_neg (by omega)]
  · rw [if_neg c, if_pos (by omega)]
theorem lw_pw2 {w : Nat} {t : Int} (h : 1 ≤ w) : lwS (2 ^ w) t = pwS (2 ^ w) t := lw_pw ⟨_, two_even h⟩
theorem pw_range {S t : Int} (h : 0 < S) : -S ≤ 2 * pwS S t ∧ 2 * pwS S t < S := by
  have h1 := Int.emod_nonneg t (b := S) (by omega)
  have h2 := Int.emod_lt_of_pos t h
  unfold pwS
  split <;> omega
theorem pw_cong (S t : Int) : ∃ k, pwS S t = t + k * S := by
  have h := Int.emod_add_mul_ediv t S
  unfold pwS
  split
  · exact ⟨-(t / S), by rw [Int.neg_mul, Int.mul_comm (t / S)]; omega⟩
  · refine ⟨-(t / S) - 1, ?_⟩
    rw [Int.sub_mul, Int.neg_mul, Int.mul_comm (t / S)]; omega
theorem pw_mod {S t t' : Int} (h : t % S = t' % S) : pwS S t = pwS S t' := by
  unfold pwS; rw [h]
theorem pw_addmod {S a b : Int} : pwS S (a + b % S) = pwS S (a + b) := pw_mod (by rw [Int.add_emod, Int.emod_emod, ← Int.add_emod])
theorem mulk {k S x : Int} (h : 0 < S) (h1 : -(2 * S) < x) (h2 : x < S) (e : x = k * S) : k = 0 ∨ k = -1 := by
  rcases Int.lt_trichotomy k 0 with c | c | c
  · by_cases c2 : k = -1
    · exact .inr c2
    · have := Int.mul_le_mul_of_nonneg_right (show k ≤ -2 by omega) (Int.le_of_lt h)
      omega
  · exact .inl c
  · have := Int.mul_le_mul_of_nonneg_right (show 1 ≤ k by omega) (Int.le_of_lt h)
    omega
/-- the look and the worth -/
theorem look_right {V u a b : Int} (hV : 0 < V) (hu : 0 < u) (hZ : ∃ Z, V = 2 * Z) (h : pwS (V * u) (a + b) ≥ u - V * u / 2) :
    pwS V (a / u + b / u) * u ≤ pwS (V * u) (a + b) ∧ pwS (V * u) (a + b) ≤ pwS V (a / u + b / u) * u + 2 * u - 2 := by
  obtain ⟨Z, rfl⟩ := hZ
  have hS : 0 < 2 * Z * u := Int.mul_pos hV hu
  have r1 := pw_range (t := a + b) hS
  have r2 := pw_range (t := a / u + b / u) hV
  obtain ⟨k1, e1⟩ := pw_cong (2 * Z * u) (a + b)
  obtain ⟨k2, e2⟩ := pw_cong (2 * Z) (a / u + b / u)
  have ea := Int.emod_add_mul_ediv a u
  have eb := Int.emod_add_mul_ediv b u
  have a1 := Int.emod_nonneg a (b := u) (by omega)
  have a2 := Int.emod_lt_of_pos a hu
  have b1 := Int.emod_nonneg b (b := u) (by omega)
  have b2 := Int.emod_lt_of_pos b hu
  generalize pwS (2 * Z * u) (a + b) = F at *
  generalize pwS (2 * Z) (a / u + b / u) = L at *
  generalize a / u = A at *
  generalize b / u = B at *
  generalize a % u = x at *
  generalize b % u = y at *
  have e3 : L * u = u * A + u * B + k2 * (2 * Z * u) := by
    rw [e2, Int.add_mul, Int.add_mul, Int.mul_comm A, Int.mul_comm B, Int.mul_assoc k2]
  have e4 : F - L * u - (x + y) = (k1 - k2) * (2 * Z * u) := by
    rw [Int.sub_mul]; omega
  have hL1 : -(Z * u) ≤ L * u := by
    have := Int.mul_le_mul_of_nonneg_right (show -Z ≤ L by omega) (Int.le_of_lt hu)
    rw [Int.neg_mul] at this; exact this
  have hL2 : L * u ≤ Z * u - u := by
    have := Int.mul_le_mul_of_nonneg_right (show L ≤ Z - 1 by omega) (Int.le_of_lt hu)
    rw [Int.sub_mul, Int.one_mul] at this; exact this
  have eZ : 2 * Z * u = 2 * (Z * u) := by rw [Int.mul_assoc]
  have hu' : u ≤ Z * u := by
    have := Int.mul_le_mul_of_nonneg_right (show 1 ≤ Z by omega) (Int.le_of_lt hu)
    rw [Int.one_mul] at this; exact this
  rw [eZ] at e4 r1 h hS
  generalize L * u = Lu at *
  generalize Z * u = M at *
  rcases mulk hS (by omega) (by omega) e4 with c | c <;> rw [c] at e4 <;> omega
/-- two looks at the same -/
theorem look_near {V u a b t : Int} (hV : 0 < V) (hu : 0 < u) (h : t % (V * u) = (a + b) % (V * u)) :
    ((t % (V * u)) / u - pwS V (a / u + b / u)) % V = 0 ∨ ((t % (V * u)) / u - pwS V (a / u + b / u)) % V = 1 % V := by
  obtain ⟨k2, e2⟩ := pw_cong V (a / u + b / u)
  have ea := Int.emod_add_mul_ediv a u
  have eb := Int.emod_add_mul_ediv b u
  have a1 := Int.emod_nonneg a (b := u) (by omega)
  have a2 := Int.emod_lt_of_pos a hu
  have b1 := Int.emod_nonneg b (b := u) (by omega)
  have b2 := Int.emod_lt_of_pos b hu
  have e0 := Int.emod_add_mul_ediv (a + b) (V * u)
  rw [h]
  have e1 : (a + b) % (V * u) = (a % u + b % u) + u * (a / u + b / u - V * ((a + b) / (V * u))) := by
    rw [Int.mul_sub, Int.mul_add, ← Int.mul_assoc u V, Int.mul_comm u V]; omega
  have e5 : (a + b) % (V * u) / u = (a % u + b % u) / u + (a / u + b / u - V * ((a + b) / (V * u))) := by
    rw [e1, Int.add_mul_ediv_left _ _ (by omega)]
  rw [e5, e2]
  have e6 : (a % u + b % u) / u + (a / u + b / u - V * ((a + b) / (V * u))) - (a / u + b / u + k2 * V) = (a % u + b % u) / u + V * (-((a + b) / (V * u)) - k2) := by
    rw [Int.mul_sub, Int.mul_neg, Int.mul_comm V k2]; omega
  rw [e6, Int.add_mul_emod_self_left]
  by_cases c : a % u + b % u < u
  · left
    rw [Int.ediv_eq_zero_of_lt (by omega) c]
    exact Int.zero_emod _
  · right
    have e7 : (a % u + b % u) / u = 1 := by
      clear ea eb e0 e1 e5 e6 e2
      generalize a % u = a at *
      generalize b % u = b at *
      have := Int.add_mul_ediv_left (a + b - u) (b := u) 1 (by omega)
      rw [Int.mul_one, Int.sub_add_cancel, Int.ediv_eq_zero_of_lt (a := a + b - u) (by omega) (by omega)] at this
      omega
    rw [e7]
/-! three in two -/
def maj (a b c : Nat) : Nat := a &&& b ||| a &&& c ||| b &&& c
theorem csa (a : Nat) : ∀ b c : Nat, (a ^^^ b ^^^ c) + 2 * maj a b c = a + b + c := by
  induction a using Nat.strongRecOn with
  | _ a ih =>
    intro b c
    by_cases h0 : a = 0
    · subst h0
      induction b using Nat.strongRecOn generalizing c with
      | _ b ihb =>
        by_cases hb : b = 0
        · subst hb
          simp [maj]
        · have h := ihb (b / 2) (by omega) (c / 2)
          unfold maj at h ⊢
          rw [Nat.zero_xor, Nat.zero_and, Nat.zero_and, Nat.zero_or, Nat.zero_or] at h ⊢
          rw [← Nat.xor_div_two, ← Nat.and_div_two] at h
          have o1 := @Nat.xor_mod_two_eq_one b c
          have a1 := @Nat.and_mod_two_eq_one b c
          omega
    · have h := ih (a / 2) (by omega) (b / 2) (c / 2)
      unfold maj at h ⊢
      rw [← Nat.xor_div_two, ← Nat.xor_div_two, ← Nat.and_div_two, ← Nat.and_div_two, ← Nat.and_div_two, ← Nat.or_div_two, ← Nat.or_div_two] at h
      have o1 := @Nat.xor_mod_two_eq_one a b
      have o2 := @Nat.xor_mod_two_eq_one (a ^^^ b) c
      have a1 := @Nat.and_mod_two_eq_one a b
      have a2 := @Nat.and_mod_two_eq_one a c
      have a3 := @Nat.and_mod_two_eq_one b c
      have r1 := @Nat.or_mod_two_eq_one (a &&& b) (a &&& c)
      have r2 := @Nat.or_mod_two_eq_one (a &&& b ||| a &&& c) (b &&& c)
      omega
theorem xor_bit (a b c k : Nat) : (a ^^^ b ^^^ c) / 2 ^ k % 2 = (a / 2 ^ k % 2 + b / 2 ^ k % 2 + c / 2 ^ k % 2) % 2 := by
  rw [← Nat.shiftRight_eq_div_pow, ← Nat.shiftRight_eq_div_pow, ← Nat.shiftRight_eq_div_pow, ← Nat.shiftRight_eq_div_pow, Nat.shiftRight_xor_distrib, Nat.shiftRight_xor_distrib]
  have o1 := @Nat.xor_mod_two_eq_one (a >>> k) (b >>> k)
  have o2 := @Nat.xor_mod_two_eq_one (a >>> k ^^^ b >>> k) (c >>> k)
  omega
theorem maj_bit (a b c k : Nat) : maj a b c / 2 ^ k % 2 = (a / 2 ^ k % 2 + b / 2 ^ k % 2 + c / 2 ^ k % 2) / 2 := by
  unfold maj
  rw [← Nat.shiftRight_eq_div_pow, ← Nat.shiftRight_eq_div_pow, ← Nat.shiftRight_eq_div_pow, ← Nat.shiftRight_eq_div_pow, Nat.shiftRight_or_distrib, Nat.shiftRight_or_distrib, Nat.shiftRight_and_distrib, Nat.shiftRight_and_distrib, Nat.shiftRight_and_distrib]
  generalize a >>> k = a
  generalize b >>> k = b
  generalize c >>> k = c
  have a1 := @Nat.and_mod_two_eq_one a b
  have a2 := @Nat.and_mod_two_eq_one a c
  have a3 := @Nat.and_mod_two_eq_one b c
  have r1 := @Nat.or_mod_two_eq_one (a &&& b) (a &&& c)
  have r2 := @Nat.or_mod_two_eq_one (a &&& b ||| a &&& c) (b &&& c)
  omega
theorem xor3_lt {a b c w : Nat} (ha : a < 2 ^ w) (hb : b < 2 ^ w) (hc : c < 2 ^ w) : a ^^^ b ^^^ c < 2 ^ w := Nat.xor_lt_two_pow (Nat.xor_lt_two_pow ha hb) hc
theorem carry_bit {m w k : Nat} (h : k + 1 < w) : (2 * m % 2 ^ w) / 2 ^ (k + 1) % 2 = m / 2 ^ k % 2 := by
  have e : (2 * m % 2 ^ w).testBit (k + 1) = (2 * m).testBit (k + 1) := by
    rw [Nat.testBit_mod_two_pow]; simp [h]
  rw [Nat.testBit_eq_decide_div_mod_eq, Nat.testBit_eq_decide_div_mod_eq] at e
  have e2 : 2 * m / 2 ^ (k + 1) = m / 2 ^ k := by
    rw [Nat.pow_succ, Nat.mul_comm (2 ^ k), ← Nat.div_div_eq_div_mul]
    congr 1; omega
  rw [e2] at e
  have e3 := decide_eq_decide.mp e
  omega
theorem carry_even {m w : Nat} (h : 1 ≤ w) : (2 * m % 2 ^ w) % 2 = 0 := by
  obtain ⟨k, rfl⟩ : ∃ k, w = k + 1 := ⟨w - 1, by omega⟩
  rw [Nat.pow_succ, Nat.mul_comm (2 ^ k), Nat.mul_mod_mul_left]
  omega
/-! ### max of a tuple of two ints -/
section
open PySem.Spec PyProof.Rows
theorem cr_maxT2 {X : Cx} (hc : X.calm = true) : CallR X (.builtin "max") (fun vs H Q => ∃ (a : Addr) (i j : Int), vs = [.ref a] ∧ SqT X.K H a [.int i, .int j] ∧ Q (.int (if j > i then j else i)) H) := by
  intro pins sh sg H xs us Q I r hyp
  obtain ⟨l, i, j, rfl, hl, q⟩ := hyp
  rw [Vals.ref1 r]
  obtain ⟨its, rv, hT, _⟩ := I.tuple hl
  obtain ⟨u, w', rfl, ⟨t, rfl⟩, ⟨t', rfl⟩⟩ := vals2 rv
  have hT2 : sh.heap.IsTuple l (intItems #[(i, t), (j, t')]) := by
    obtain ⟨o, h1, h2, n, h3⟩ := hT
    exact ⟨o, h1, h2, n, by simpa [intItems] using h3⟩
  have hlt : l < sh.heap.objs.size := by obtain ⟨_, e, _⟩ := hT; exact Heap.lt_size e
  refine call_max_walk (wpAny_pyIter_tuple hT2 ?_)
  refine ⟨_, [_, l], [_], _, _, _, _, rfl, Walks.tuple (A := X.A.in1) (I.ok.hd hc) _ l (Nat.ne_of_lt hlt) (intItems #[(i, t), (j, t')]),
    ⟨⟨_, Heap.get?_push_size _ rfl, rfl, rfl⟩, hT2.push _⟩, fun z hz => ?_, by simp [intItems], CmpOf.ints_gt (numAt #[(i, t), (j, t')]) (fun _ _ => intItems_at), fun v h' tk hP hk => ?_⟩
  · show z < (sh.heap.push _).objs.size
    rw [Heap.size_push]
    rcases List.mem_cons.mp hz with rfl | hz
    · exact Nat.lt_succ_self _
    · rcases List.mem_cons.mp hz with rfl | hz
      · exact Nat.lt_succ_of_lt hlt
      · cases hz
  · have hold : ∀ z o, sh.heap.get? z = some o → h'.get? z = some o := fun z o e => by
      refine hk z o (fun hm => ?_) (Heap.get?_push_of_some _ e)
      rcases List.mem_cons.mp hm with e1 | hm
      · have := Heap.lt_size e; rw [e1] at this; exact Nat.lt_irrefl _ this
      · cases hm
    refine ⟨.int (if j > i then j else i), H, I.kept hold, ?_, q⟩
    have hP' : (intItems #[(i, t), (j, t')])[argBest (fun a b => decide (numAt #[(i, t), (j, t')] a > numAt #[(i, t), (j, t')] b)) 1]? = some v := by
      have hsz2 : (intItems #[(i, t), (j, t')]).size - 1 = 1 := by simp [intItems]
      rw [← hsz2]; exact hP
    by_cases hba : j > i
    · have e : argBest (fun a b => decide (numAt #[(i, t), (j, t')] a > numAt #[(i, t), (j, t')] b)) 1 = 1 := by simp [argBest, numAt, hba]
      rw [e] at hP'
      rw [if_pos hba]
      have : v = .int j t' := by simpa [intItems] using hP'.symm
      exact ⟨t', this⟩
    · have e : argBest (fun a b => decide (numAt #[(i, t), (j, t')] a > numAt #[(i, t), (j, t')] b)) 1 = 0 := by simp [argBest, numAt, hba]
      rw [e] at hP'
      rw [if_neg hba]
      have : v = .int i t := by simpa [intItems] using hP'.symm
      exact ⟨t, this⟩
end
/-! ### data that stands at places of which B is true -/
mutual
inductive Dt (B : Addr → Prop) (H : Hp) : V → PyData → Prop
  | non : Dt B H .non .none
  | bl (z : Bool) : Dt B H (.bl z) (.bool z)
  | int (i : Int) : Dt B H (.int i) (.int i)
  | str (x : Str) : Dt B H (.str x) (.str x)
  | lst {p : Addr} {xs : List V} {ds : List PyData} : B p → H p = some (.lst xs) → DtAll B H xs ds → Dt B H (.ref p) (.list ds)
  | tup {p : Addr} {xs : List V} {ds : List PyData} : B p → H p = some (.tup xs) → DtAll B H xs ds → Dt B H (.ref p) (.tuple ds)
inductive DtAll (B : Addr → Prop) (H : Hp) : List V → List PyData → Prop
  | nil : DtAll B H [] []
  | cons {v : V} {vs : List V} {d : PyData} {ds : List PyData} : Dt B H v d → DtAll B H vs ds → DtAll B H (v :: vs) (d :: ds)
end
section
variable {B B' : Addr → Prop} {H H' : Hp}
mutual
theorem Dt.mono (k : ∀ p o, B p → H p = some o → B' p ∧ H' p = some o) : ∀ (d : PyData) (v : V), Dt B H v d → Dt B' H' v d
  | .none, _, h => by cases h; exact .non
  | .bool _, _, h => by cases h; exact .bl _
  | .int _, _, h => by cases h; exact .int _
  | .str _, _, h => by cases h; exact .str _
  | .list ds, _, h => by
    cases h with
    | lst b e a => exact .lst (k _ _ b e).1 (k _ _ b e).2 (Dt.monoAll k ds _ a)
  | .tuple ds, _, h => by
    cases h with
    | tup b e a => exact .tup (k _ _ b e).1 (k _ _ b e).2 (Dt.monoAll k ds _ a)
  | .dict _, _, h => by cases h
theorem Dt.monoAll (k : ∀ p o, B p → H p = some o → B' p ∧ H' p = some o) : ∀ (ds : List PyData) (vs : List V), DtAll B H vs ds → DtAll B' H' vs ds
  | [], _, h => by cases h; exact .nil
  | d :: ds, _, h => by
    cases h with
    | cons x y => exact .cons (Dt.mono k d _ x) (Dt.monoAll k ds _ y)
end
mutual
theorem Dt.dp : ∀ (d : PyData) (v : V), Dt B H v d → Dp K H v d
  | .none, _, h => by cases h; exact .non
  | .bool _, _, h => by cases h; exact .bl _
  | .int _, _, h => by cases h; exact .int _
  | .str _, _, h => by cases h; exact .str _
  | .list ds, _, h => by
    cases h with
    | lst b e a => exact .lst (SqL.of e) (Dt.dpAll ds _ a)
  | .tuple ds, _, h => by
    cases h with
    | tup b e a => exact .tup (SqT.of e) (Dt.dpAll ds _ a)
  | .dict _, _, h => by cases h
theorem Dt.dpAll : ∀ (ds : List PyData) (vs : List V), DtAll B H vs ds → DpAll K H vs ds
  | [], _, h => by cases h; exact .nil
  | d :: ds, _, h => by
    cases h with
    | cons x y => exact .cons (Dt.dp d _ x) (Dt.dpAll ds _ y)
end
theorem DtAll.app : ∀ {vs : List V} {ds : List PyData} {us : List V} {es : List PyData}, DtAll B H vs ds → DtAll B H us es → DtAll B H (vs ++ us) (ds ++ es)
  | [], _, _, _, h, g => by cases h; exact g
  | v :: vs, _, _, _, h, g => by
    cases h with
    | cons x y => exact .cons x (DtAll.app y g)
theorem DtAll.ints : ∀ (ns : List Int), DtAll B H (ns.map V.int) (ns.map PyData.int)
  | [] => .nil
  | n :: r => .cons (.int n) (DtAll.ints r)
theorem DtAll.len : ∀ {vs : List V} {ds : List PyData}, DtAll B H vs ds → vs.length = ds.length
  | [], _, h => by cases h; rfl
  | v :: vs, _, h => by
    cases h with
    | cons x y => rw [List.length_cons, List.length_cons, DtAll.len y]
end
theorem Dt.list_inv {B : Addr → Prop} {H : Hp} {v : V} {ds : List PyData} (h : Dt B H v (.list ds)) : ∃ l acc, v = .ref l ∧ B l ∧ H l = some (.lst acc) ∧ DtAll B H acc ds := by
  cases h with
  | lst x y z => exact ⟨_, _, rfl, x, y, z⟩
/-- data, as a fact beside the deck -/
def Da (a : Addr) (v : V) (d : PyData) : Fact a := ⟨fun H => Dt (fun p => p ≠ a) H v d, fun k h => Dt.mono (fun p o b e => ⟨b, k p o b e⟩) _ _ h⟩
/-- new data is no deck -/
theorem Dt.new {a : Addr} {H0 H : Hp} {v : V} {d : PyData} {u : HO} (h : Dt (fun p => H0 p = none) H v d) (ha : H0 a = some u) : Dt (fun p => p ≠ a) H v d :=
  Dt.mono (fun p o b e => And.intro (ne_of_none ha b).symm e) _ _ h
/-! ints, and tuples of ints, in lists -/
def flat : PyData → Bool
  | .int _ => true
  | .bool _ => true
  | .none => true
  | _ => false
theorem flat_ok {d : PyData} (h : flat d = true) : d.canLay0 = true ∧ d.depth = 0 := by
  cases d with
  | int i => exact ⟨by simp only [PyData.canLay0], by simp only [PyData.depth]⟩
  | bool i => exact ⟨by simp only [PyData.canLay0], by simp only [PyData.depth]⟩
  | none => exact ⟨by simp only [PyData.canLay0], by simp only [PyData.depth]⟩
  | str x => cases h
  | list x => cases h
  | tuple x => cases h
  | dict x => cases h
theorem flats_ok : ∀ {ds : List PyData}, (∀ d ∈ ds, flat d = true) → PyData.canLayAll0 ds = true ∧ PyData.depthAll ds = 0
  | [], _ => ⟨by simp only [PyData.canLayAll0], by simp only [PyData.depthAll]⟩
  | d :: ds, h => by
    obtain ⟨h1, h2⟩ := flat_ok (h d (.head _))
    obtain ⟨h3, h4⟩ := flats_ok (ds := ds) fun x m => h x (.tail _ m)
    exact ⟨by simp only [PyData.canLayAll0]; rw [h1, h3]; rfl, by simp only [PyData.depthAll]; rw [h2, h4]; rfl⟩
theorem flats_ints {ns : List Int} : ∀ d ∈ ns.map PyData.int, flat d = true := fun d m => by
  obtain ⟨n, _, rfl⟩ := List.mem_map.mp m
  rfl
theorem shaped_of {d : PyData} (h1 : d.canLay0 = true) (h2 : d.depth ≤ 64) : SeqAt.shaped d = true := by
  unfold SeqAt.shaped
  rw [h1, decide_eq_true h2]; rfl
theorem shaped_flats {ds : List PyData} (h : ∀ d ∈ ds, flat d = true) : SeqAt.shaped (.list ds) = true := by
  obtain ⟨h1, h2⟩ := flats_ok h
  refine shaped_of ?_ ?_
  · simp only [PyData.canLay0]; exact h1
  · simp only [PyData.depth]; omega
theorem shaped_flatsT {ds : List PyData} (h : ∀ d ∈ ds, flat d = true) : SeqAt.shaped (.tuple ds) = true := by
  obtain ⟨h1, h2⟩ := flats_ok h
  refine shaped_of ?_ ?_
  · simp only [PyData.canLay0]; exact h1
  · simp only [PyData.depth]; omega
theorem shaped_ints (ns : List Int) : SeqAt.shaped (.list (ns.map PyData.int)) = true := shaped_flats flats_ints
theorem shaped_intsT (ns : List Int) : SeqAt.shaped (.tuple (ns.map PyData.int)) = true := shaped_flatsT flats_ints
theorem eqv_ints : ∀ (ns ms : List Int), PyData.eqvAll (ns.map PyData.int) (ms.map PyData.int) = decide (ns = ms)
  | [], [] => by simp [PyData.eqvAll]
  | [], _ :: _ => by simp [PyData.eqvAll]
  | _ :: _, [] => by simp [PyData.eqvAll]
  | n :: ns, m :: ms => by
    simp only [List.map_cons, PyData.eqvAll, PyData.eqv]
    rw [eqv_ints ns ms]
    by_cases h : n = m
    · subst h; simp
    · simp [h]
/-- a list of tuples of ints -/
def tupsI (xs : List (List Int)) : PyData := .list (xs.map fun ns => .tuple (ns.map PyData.int))
theorem tups_ok : ∀ (xs : List (List Int)), PyData.canLayAll0 (xs.map fun ns => .tuple (ns.map PyData.int)) = true ∧ PyData.depthAll (xs.map fun ns => .tuple (ns.map PyData.int)) ≤ 1
  | [] => ⟨by simp only [List.map_nil, PyData.canLayAll0], by simp only [List.map_nil, PyData.depthAll]; omega⟩
  | ns :: xs => by
    obtain ⟨h1, h2⟩ := tups_ok xs
    obtain ⟨h3, h4⟩ := flats_ok (flats_ints (ns := ns))
    refine ⟨?_, ?_⟩
    · simp only [List.map_cons, PyData.canLayAll0, PyData.canLay0]
      rw [h1, h3]; rfl
    · simp only [List.map_cons, PyData.depthAll, PyData.depth]
      omega
theorem shaped_tups (xs : List (List Int)) : SeqAt.shaped (tupsI xs) = true := by
  obtain ⟨h1, h2⟩ := tups_ok xs
  unfold tupsI
  refine shaped_of ?_ ?_
  · simp only [PyData.canLay0]; exact h1
  · simp only [PyData.depth]; omega
theorem eqv_tups (xs : List (List Int)) : PyData.eqv (tupsI xs) (tupsI xs) = true := SeqAt.eqv_refl _ (by
  unfold tupsI
  simp only [PyData.canLay0]
  exact (tups_ok xs).1)
theorem neD_same {K : PySem.W.Frag} {H : Hp} {x y : V} {d : PyData} {Q : VK} (h1 : Dp K H x d) (h2 : Dp K H y d) (hs : SeqAt.shaped d = true) (q : Q (.bl false) H) : rNeD K x y H Q :=
  ⟨d, d, h1, h2, hs, hs, by rw [SeqAt.eqv_refl d (SeqAt.canLay_of_shaped hs)]; exact q⟩
theorem eqD_same {K : PySem.W.Frag} {H : Hp} {x y : V} {d : PyData} {Q : VK} (h1 : Dp K H x d) (h2 : Dp K H y d) (hs : SeqAt.shaped d = true) (q : Q (.bl true) H) : rEqD K x y H Q :=
  ⟨d, d, h1, h2, hs, hs, by rw [SeqAt.eqv_refl d (SeqAt.canLay_of_shaped hs)]; exact q⟩
theorem shaped_bool (z : Bool) : SeqAt.shaped (.bool z) = true := shaped_of (by simp only [PyData.canLay0]) (by simp only [PyData.depth]; omega)
theorem neD_bl {K : PySem.W.Frag} {H : Hp} {x y : Bool} {Q : VK} (e : x = y) (q : Q (.bl false) H) : rNeD K (.bl x) (.bl y) H Q := by
  subst e
  exact neD_same (.bl _) (.bl _) (shaped_bool _) q
theorem neD_nil {K : PySem.W.Frag} {H : Hp} {x y : V} {ns : List Int} {Q : VK} (hne : ns ≠ []) (h1 : Dp K H x (.list (ns.map PyData.int))) (h2 : Dp K H y (.list [])) (q : Q (.bl true) H) : rNeD K x y H Q := by
  cases ns with
  | nil => exact absurd rfl hne
  | cons n r => exact ⟨_, _, h1, h2, shaped_ints _, shaped_ints [], by simp only [List.map_cons, PyData.eqv, PyData.eqvAll]; exact q⟩
theorem dp_ints {K : PySem.W.Frag} {H : Hp} {l : Addr} {ns : List Int} (h : H l = some (.lst (ns.map V.int))) : Dp K H (.ref l) (.list (ns.map PyData.int)) := Dt.dp (B := fun _ => True) _ _ (.lst trivial h (DtAll.ints ns))
theorem inV_mem {x : Int} {xs : List Int} (h : x ∈ xs) : inV (.int x) (xs.map V.int) = true := by
  unfold inV
  rw [List.any_map, List.any_eq_true]
  exact ⟨x, h, by simp [eqV]⟩
theorem flat_all (xs : List Int) : (xs.map V.int).all flatV = true := by
  rw [List.all_map, List.all_eq_true]
  intro x _
  rfl
/-! ### which figures serve: the mathematics -/
def absI (r : Int) : Int := if r < 0 then -r else r
def svs (b m f d r : Int) : Bool := decide ((b - 1) * absI (r - f * d) ≤ m * d)
theorem abs_mul {c x : Int} (h : 0 ≤ c) : c * absI x = absI (c * x) := by
  unfold absI
  by_cases h1 : x < 0
  · rw [if_pos h1]
    by_cases h2 : c * x < 0
    · rw [if_pos h2, Int.mul_neg]
    · have := Int.mul_nonpos_of_nonneg_of_nonpos h (show x ≤ 0 by omega)
      rw [if_neg h2, Int.mul_neg]; omega
  · rw [if_neg h1, if_neg]
    have := Int.mul_nonneg h (show 0 ≤ x by omega)
    omega
theorem abs_le {x y : Int} : absI x ≤ y ↔ -y ≤ x ∧ x ≤ y := by
  unfold absI
  split <;> omega
theorem svs_iff {b m f d r : Int} (hb : 2 ≤ b) : svs b m f d r = true ↔ (b - 1) * r - m * d ≤ f * ((b - 1) * d) ∧ f * ((b - 1) * d) ≤ (b - 1) * r + m * d := by
  unfold svs
  rw [decide_eq_true_iff, abs_mul (by omega), abs_le, Int.mul_sub, show (b - 1) * (f * d) = f * ((b - 1) * d) by rw [← Int.mul_assoc, Int.mul_comm (b - 1) f, Int.mul_assoc]]
  omega
/-- the least and the greatest figure that serves -/
def svL (b m d r : Int) : Int := -((m * d - (b - 1) * r) / ((b - 1) * d))
def svU (b m d r : Int) : Int := ((b - 1) * r + m * d) / ((b - 1) * d)
theorem svs_LU {b m f d r : Int} (hb : 2 ≤ b) (hd : 1 ≤ d) : svs b m f d r = true ↔ svL b m d r ≤ f ∧ f ≤ svU b m d r := by
  have hN : 0 < (b - 1) * d := Int.mul_pos (by omega) (by omega)
  rw [svs_iff hb]
  unfold svL svU
  rw [Int.le_ediv_iff_mul_le hN]
  have e : -((m * d - (b - 1) * r) / ((b - 1) * d)) ≤ f ↔ -f ≤ (m * d - (b - 1) * r) / ((b - 1) * d) := by omega
  rw [e, Int.le_ediv_iff_mul_le hN, Int.neg_mul]
  omega
theorem LU {b m d r : Int} (hb : 2 ≤ b) (hm : b ≤ 2 * m) (hd : 1 ≤ d) (h : (b - 1) * absI r ≤ b * m * d) : svL b m d r ≤ svU b m d r ∧ svL b m d r ≤ m ∧ -m ≤ svU b m d r := by
  have hN : 0 < (b - 1) * d := Int.mul_pos (by omega) (by omega)
  rw [abs_mul (by omega), abs_le] at h
  have e1 : b * m * d = m * ((b - 1) * d) + m * d := by
    rw [← Int.mul_assoc, ← Int.add_mul]
    congr 1
    rw [Int.mul_sub, Int.mul_one, Int.mul_comm m b]; omega
  have e2 : (b - 1) * d = b * d - d := by rw [Int.sub_mul, Int.one_mul]
  have e3 : b * d ≤ 2 * (m * d) := by
    have := Int.mul_le_mul_of_nonneg_right hm (show 0 ≤ d by omega)
    rw [Int.mul_assoc] at this; exact this
  rw [e1] at h
  unfold svL svU
  generalize (b - 1) * r = A at *
  generalize hX : m * d = X at *
  generalize hNe : (b - 1) * d = N at *
  have a1 := Int.emod_nonneg (A + X) (b := N) (by omega)
  have a2 := Int.emod_lt_of_pos (A + X) hN
  have a3 := Int.emod_add_mul_ediv (A + X) N
  have b1 := Int.emod_nonneg (X - A) (b := N) (by omega)
  have b2 := Int.emod_lt_of_pos (X - A) hN
  have b3 := Int.emod_add_mul_ediv (X - A) N
  refine ⟨?_, ?_, ?_⟩
  · have c1 : N * ((A + X) / N + (X - A) / N) > -N - 1 + 1 := by
      rw [Int.mul_add]; omega
    have c2 : N * (-1) < N * ((A + X) / N + (X - A) / N) := by rw [Int.mul_neg, Int.mul_one]; omega
    have := Int.lt_of_mul_lt_mul_left c2 (by omega)
    omega
  · have : -m ≤ (X - A) / N := by
      rw [Int.le_ediv_iff_mul_le hN, Int.neg_mul]; omega
    omega
  · rw [Int.le_ediv_iff_mul_le hN, Int.neg_mul]; omega
/-- what is within an interval, of all numbers below n -/
theorem filter_iv {n lo hi : Nat} {p : Nat → Bool} (h1 : lo ≤ hi) (h2 : hi ≤ n) (h : ∀ i, i < n → (p i = true ↔ lo ≤ i ∧ i < hi)) : (List.range n).filter p = List.range' lo (hi - lo) := by
  have e : List.range n = List.range' 0 lo ++ List.range' lo (hi - lo) ++ List.range' hi (n - hi) := by
    have e1 := List.range'_append_1 (s := 0) (m := lo) (n := hi - lo)
    have e2 := List.range'_append_1 (s := 0) (m := hi) (n := n - hi)
    rw [Nat.zero_add] at e1 e2
    rw [e1, show lo + (hi - lo) = hi by omega, e2, List.range_eq_range', show hi + (n - hi) = n by omega]
  rw [e, List.filter_append, List.filter_append]
  have f1 : (List.range' 0 lo).filter p = [] := by
    rw [List.filter_eq_nil_iff]
    intro i hi' hp
    rw [List.mem_range'_1] at hi'
    have := (h i (by omega)).mp hp
    omega
  have f2 : (List.range' hi (n - hi)).filter p = [] := by
    rw [List.filter_eq_nil_iff]
    intro i hi' hp
    rw [List.mem_range'_1] at hi'
    have := (h i (by omega)).mp hp
    omega
  have f3 : (List.range' lo (hi - lo)).filter p = List.range' lo (hi - lo) := by
    rw [List.filter_eq_self]
    intro i hi'
    rw [List.mem_range'_1] at hi'
    exact (h i (by omega)).mpr (by omega)
  rw [f1, f2, f3, List.nil_append, List.append_nil]
/-! ### met cells and good figures: the mathematics -/
def figs (m : Int) : List Int := (List.range (2 * m + 1).toNat).map fun (i : Nat) => -m + (i : Int)
def metB (b m : Int) (t p : Nat) (s T l : Int) : Bool := decide (l * (b - 1) * 2 ^ t < b * m * (T + 1) * 2 ^ p) && decide (-(l + s) * (b - 1) * 2 ^ t < b * m * (T + 1) * 2 ^ p)
/-- E ≤ U times the side of a divisor that is the worse one -/
def sideOk (E U A C : Int) : Prop := E ≤ U * (if 0 ≤ U then A else C)
instance (E U A C : Int) : Decidable (sideOk E U A C) := inferInstanceAs (Decidable (_ ≤ _))
def upB (b m : Int) (t p : Nat) (T e f : Int) : Bool := decide (f = m) || decide (sideOk (e * (b - 1) * 2 ^ t) (f * (b - 1) + m) (T * 2 ^ p) ((T + 1) * 2 ^ p))
def goodB (b m : Int) (t p : Nat) (s T l f : Int) : Bool := upB b m t p T (l + s) f && upB b m t p T (-l) (-f)
def goodL (b m : Int) (t p : Nat) (s T l : Int) : List Int := if metB b m t p s T l then (figs m).filter (goodB b m t p s T l) else figs m
def clampI (m x : Int) : Int := if (if x < m then x else m) > -m then (if x < m then x else m) else -m
def lgeF (b m : Int) (t p : Nat) (T e : Int) : Int := -(-(e * (b - 1) * 2 ^ t - m * (if e > 0 then T else T + 1) * 2 ^ p) / ((if e > 0 then T else T + 1) * (b - 1) * 2 ^ p))
def lge (b m : Int) (t p : Nat) (T e : Int) : Int := clampI m (lgeF b m t p T e)
theorem tw_pos (k : Nat) : (0 : Int) < 2 ^ k := by
  have h := Nat.two_pow_pos k
  have e : (2 : Int) ^ k = ((2 ^ k : Nat) : Int) := by rw [Int.natCast_pow]; rfl
  rw [e]; omega
theorem clamp_le {m x f : Int} (h1 : -m ≤ f) (h2 : f ≤ m) (hm : 0 < m) : clampI m x ≤ f ↔ f = m ∨ x ≤ f := by
  unfold clampI
  constructor
  · intro h
    split at h <;> split at h <;> omega
  · intro h
    split <;> split <;> omega
theorem ceil_le {X N f : Int} (hN : 0 < N) : -(-X / N) ≤ f ↔ X ≤ f * N := by
  have e : -(-X / N) ≤ f ↔ -f ≤ -X / N := by omega
  rw [e, Int.le_ediv_iff_mul_le hN, Int.neg_mul]
  omega
theorem side_pos {E U A C : Int} (hE : 0 < E) (hA : 0 < A) (hC : 0 < C) : sideOk E U A C ↔ E ≤ U * A := by
  unfold sideOk
  by_cases h : 0 ≤ U
  · rw [if_pos h]
  · rw [if_neg h]
    have h1 := Int.mul_neg_of_neg_of_pos (show U < 0 by omega) hA
    have h2 := Int.mul_neg_of_neg_of_pos (show U < 0 by omega) hC
    omega
theorem side_npos {E U A C : Int} (hE : E ≤ 0) (hA : 0 < A) (hC : 0 < C) : sideOk E U A C ↔ E ≤ U * C := by
  unfold sideOk
  by_cases h : 0 ≤ U
  · rw [if_pos h]
    have h1 := Int.mul_nonneg h (Int.le_of_lt hA)
    have h2 := Int.mul_nonneg h (Int.le_of_lt hC)
    omega
  · rw [if_neg h]
theorem lge_iff {b m : Int} {t p : Nat} {T e f : Int} (hb : 2 ≤ b) (hm : 0 < m) (hT : 1 ≤ T) (h1 : -m ≤ f) (h2 : f ≤ m) : lge b m t p T e ≤ f ↔ upB b m t p T e f = true := by
  unfold lge upB lgeF
  rw [clamp_le h1 h2 hm, Bool.or_eq_true, decide_eq_true_iff, decide_eq_true_iff]
  have ht := tw_pos t
  have hp := tw_pos p
  have hA : 0 < T * 2 ^ p := Int.mul_pos (by omega) hp
  have hC : 0 < (T + 1) * 2 ^ p := Int.mul_pos (by omega) hp
  have hk : ∀ D : Int, 1 ≤ D → (-(-(e * (b - 1) * 2 ^ t - m * D * 2 ^ p) / (D * (b - 1) * 2 ^ p)) ≤ f ↔ e * (b - 1) * 2 ^ t ≤ (f * (b - 1) + m) * (D * 2 ^ p)) := fun D hD => by
    rw [ceil_le (Int.mul_pos (Int.mul_pos (by omega) (by omega)) hp)]
    have e1 : f * (D * (b - 1) * 2 ^ p) = f * (b - 1) * (D * 2 ^ p) := by
      rw [Int.mul_comm D (b - 1), Int.mul_assoc, Int.mul_assoc]
    rw [e1, Int.add_mul, ← Int.mul_assoc m]
    omega
  by_cases he : e > 0
  · rw [if_pos he, hk T hT, side_pos (Int.mul_pos (Int.mul_pos he (by omega)) ht) hA hC]
  · rw [if_neg he, hk (T + 1) (by omega), side_npos (Int.mul_nonpos_of_nonpos_of_nonneg (Int.mul_nonpos_of_nonpos_of_nonneg (by omega) (by omega)) (Int.le_of_lt ht)) hA hC]
theorem good_iff {b m : Int} {t p : Nat} {s T l f : Int} (hb : 2 ≤ b) (hm : 0 < m) (hT : 1 ≤ T) (h1 : -m ≤ f) (h2 : f ≤ m) : goodB b m t p s T l f = true ↔ lge b m t p T (l + s) ≤ f ∧ f ≤ -lge b m t p T (-l) := by
  unfold goodB
  rw [Bool.and_eq_true, ← lge_iff hb hm hT h1 h2, ← lge_iff hb hm hT (by omega) (by omega)]
  omega
theorem clamp_bd {m x : Int} (hm : 0 < m) : -m ≤ clampI m x ∧ clampI m x ≤ m := by
  unfold clampI
  split <;> split <;> omega
/-- the law's own look at whether a cell is met -/
def lawMet (b m : Int) (t p : Nat) (s T l : Int) : Bool := if l * 2 ^ t > 0 then decide (l * 2 ^ t * (b - 1) < (T + 1) * 2 ^ p * b * m) else decide ((l + s) * 2 ^ t ≥ 0) || decide (0 - (l + s) * 2 ^ t * (b - 1) < (T + 1) * 2 ^ p * b * m)
theorem met_law {b m : Int} {t p : Nat} {s T l : Int} (hb : 2 ≤ b) (hm : 0 < m) (hT : 1 ≤ T) (hs : 0 ≤ s) : lawMet b m t p s T l = metB b m t p s T l := by
  have ht := tw_pos t
  have hp := tw_pos p
  have hR : 0 < b * m * (T + 1) * 2 ^ p := Int.mul_pos (Int.mul_pos (Int.mul_pos (by omega) hm) (by omega)) hp
  have e1 : (T + 1) * 2 ^ p * b * m = b * m * (T + 1) * 2 ^ p := by
    rw [Int.mul_assoc, Int.mul_comm _ (b * m), Int.mul_assoc (b * m)]
  have e2 : l * 2 ^ t * (b - 1) = l * (b - 1) * 2 ^ t := by rw [Int.mul_assoc, Int.mul_comm (2 ^ t), ← Int.mul_assoc]
  have e3 : 0 - (l + s) * 2 ^ t * (b - 1) = -(l + s) * (b - 1) * 2 ^ t := by
    rw [Int.mul_assoc, Int.mul_comm (2 ^ t), ← Int.mul_assoc, Int.neg_mul, Int.neg_mul]; omega
  unfold lawMet metB
  rw [e1, e2, e3]
  generalize b * m * (T + 1) * 2 ^ p = R at *
  have sg : ∀ x : Int, (0 < x → 0 < x * (b - 1) * 2 ^ t) ∧ (x ≤ 0 → x * (b - 1) * 2 ^ t ≤ 0) := fun x =>
    ⟨fun h => Int.mul_pos (Int.mul_pos h (by omega)) ht, fun h => Int.mul_nonpos_of_nonpos_of_nonneg (Int.mul_nonpos_of_nonpos_of_nonneg h (by omega)) (Int.le_of_lt ht)⟩
  have g1 := sg l
  have g2 := sg (-(l + s))
  have f1 : l * 2 ^ t > 0 ↔ 0 < l := ⟨fun h => Int.pos_of_mul_pos_left h ht, fun h => Int.mul_pos h ht⟩
  have f2 : (l + s) * 2 ^ t ≥ 0 ↔ 0 ≤ l + s := ⟨fun h => by
    by_cases c : 0 ≤ l + s
    · exact c
    · have := Int.mul_neg_of_neg_of_pos (show l + s < 0 by omega) ht
      omega, fun h => Int.mul_nonneg h (Int.le_of_lt ht)⟩
  generalize l * (b - 1) * 2 ^ t = X at *
  generalize -(l + s) * (b - 1) * 2 ^ t = Y at *
  by_cases h : 0 < l
  · rw [if_pos (f1.mpr h), decide_eq_true (p := Y < R) (by have := g2.2 (by omega); omega), Bool.and_true]
  · rw [if_neg (fun z => h (f1.mp z)), decide_eq_true (p := X < R) (by have := g1.2 (by omega); omega), Bool.true_and]
    by_cases h3 : 0 ≤ l + s
    · rw [decide_eq_true (f2.mpr h3), decide_eq_true (p := Y < R) (by have := g2.2 (by omega); omega), Bool.true_or]
    · rw [decide_eq_false (fun z => h3 (f2.mp z)), Bool.false_or]
/-- the program's own -/
theorem met_prog {b m : Int} {t p : Nat} {s T l : Int} (hb : 2 ≤ b) : (decide (-((b * m * (T + 1) * 2 ^ p - 1) / ((b - 1) * 2 ^ t)) - s ≤ l) && decide (l ≤ (b * m * (T + 1) * 2 ^ p - 1) / ((b - 1) * 2 ^ t))) = metB b m t p s T l := by
  have hN : 0 < (b - 1) * 2 ^ t := Int.mul_pos (by omega) (tw_pos t)
  unfold metB
  rw [Int.mul_assoc l, Int.mul_assoc (-(l + s)), Bool.and_comm]
  have c1 : l ≤ (b * m * (T + 1) * 2 ^ p - 1) / ((b - 1) * 2 ^ t) ↔ l * ((b - 1) * 2 ^ t) < b * m * (T + 1) * 2 ^ p := by
    rw [Int.le_ediv_iff_mul_le hN]; omega
  have c2 : -((b * m * (T + 1) * 2 ^ p - 1) / ((b - 1) * 2 ^ t)) - s ≤ l ↔ -(l + s) * ((b - 1) * 2 ^ t) < b * m * (T + 1) * 2 ^ p := by
    have e : -((b * m * (T + 1) * 2 ^ p - 1) / ((b - 1) * 2 ^ t)) - s ≤ l ↔ -(l + s) ≤ (b * m * (T + 1) * 2 ^ p - 1) / ((b - 1) * 2 ^ t) := by omega
    rw [e, Int.le_ediv_iff_mul_le hN]; omega
  rw [decide_eq_decide.mpr c1, decide_eq_decide.mpr c2]
def intsR (a b : Int) : List Int := (List.range (b - a).toNat).map fun (i : Nat) => a + (i : Int)
theorem good_list {b m : Int} {t p : Nat} {s T l : Int} (hb : 2 ≤ b) (hm : 0 < m) (hT : 1 ≤ T) : (figs m).filter (goodB b m t p s T l) = intsR (lge b m t p T (l + s)) (-lge b m t p T (-l) + 1) := by
  have b1 := clamp_bd (x := lgeF b m t p T (l + s)) hm
  have b2 := clamp_bd (x := lgeF b m t p T (-l)) hm
  have hg := fun f h1 h2 => @good_iff b m t p s T l f hb hm hT h1 h2
  unfold lge at *
  generalize clampI m (lgeF b m t p T (l + s)) = L at *
  generalize clampI m (lgeF b m t p T (-l)) = G at *
  unfold figs intsR
  rw [List.filter_map, filter_iv (lo := (L + m).toNat) (hi := max (L + m).toNat (-G + m + 1).toNat) (by omega) (by omega) (fun i hi => ?_)]
  · rw [List.range'_eq_map_range, List.map_map, show max (L + m).toNat (-G + m + 1).toNat - (L + m).toNat = (-G + 1 - L).toNat by omega]
    refine List.map_congr_left fun i _ => ?_
    show -m + (((L + m).toNat + i : Nat) : Int) = L + (i : Int)
    omega
  · show goodB b m t p s T l (-m + (i : Int)) = true ↔ _
    rw [hg _ (by omega) (by omega)]
    omega
theorem figs_rng (m : Int) : figs m = intsR (-m) (m + 1) := by
  unfold figs intsR
  rw [show (m + 1 - -m).toNat = (2 * m + 1).toNat by omega]
/-! ### cells mirrored, and cells within cells -/
theorem met_mirror (b m : Int) (t p : Nat) (s u l : Int) : metB b m t p s u (0 - s - l) = metB b m t p s u l := by
  unfold metB
  rw [show -(0 - s - l + s) = l by omega, show 0 - s - l = -(l + s) by omega, Bool.and_comm]
theorem good_mirror (b m : Int) (t p : Nat) (s u l f : Int) : goodB b m t p s u (0 - s - l) f = goodB b m t p s u l (-f) := by
  unfold goodB
  rw [show 0 - s - l + s = -l by omega, show -(0 - s - l) = l + s by omega, Int.neg_neg, Bool.and_comm]
theorem figs_rev {m : Int} (hm : 0 ≤ m) : (figs m).reverse.map (fun f => 0 - f) = figs m := by
  refine List.ext_getElem? fun i => ?_
  have hl : (figs m).length = (2 * m + 1).toNat := by unfold figs; rw [List.length_map, List.length_range]
  have ha : ∀ j, j < (2 * m + 1).toNat → (figs m)[j]? = some (-m + (j : Int)) := fun j h => by
    unfold figs
    rw [List.getElem?_map, List.getElem?_range h]
    rfl
  by_cases h : i < (2 * m + 1).toNat
  · rw [List.getElem?_map, List.getElem?_reverse (by omega), hl, ha _ h, ha _ (by omega)]
    show some (0 - (-m + (((2 * m + 1).toNat - 1 - i : Nat) : Int))) = _
    congr 1
    omega
  · rw [List.getElem?_eq_none (by rw [List.length_map, List.length_reverse]; omega), List.getElem?_eq_none (by omega)]
theorem goodL_mirror {b m : Int} (t p : Nat) (s u l : Int) (hm : 0 ≤ m) : goodL b m t p s u (0 - s - l) = (goodL b m t p s u l).reverse.map (fun f => 0 - f) := by
  unfold goodL
  rw [met_mirror]
  split
  · rw [← List.filter_reverse]
    have e : (figs m).filter (goodB b m t p s u (0 - s - l)) = ((figs m).reverse.map (fun f => 0 - f)).filter (goodB b m t p s u (0 - s - l)) := by rw [figs_rev hm]
    rw [e, List.filter_map]
    congr 1
    refine List.filter_congr fun f _ => ?_
    show goodB b m t p s u (0 - s - l) (0 - f) = _
    rw [good_mirror, show -(0 - f) = f by omega]
  · rw [figs_rev hm]
theorem side_mono {E U A C E' A' C' c : Int} (hc : 0 ≤ c) (hE : E' ≤ c * E) (hA : c * A ≤ A') (hC : C' ≤ c * C) (h : sideOk E U A C) : sideOk E' U A' C' := by
  unfold sideOk at *
  by_cases hU : 0 ≤ U
  · rw [if_pos hU] at *
    have h1 := Int.mul_le_mul_of_nonneg_left h hc
    have h2 := Int.mul_le_mul_of_nonneg_left hA hU
    have e : c * (U * A) = U * (c * A) := by rw [← Int.mul_assoc, Int.mul_comm c U, Int.mul_assoc]
    omega
  · rw [if_neg hU] at *
    have h1 := Int.mul_le_mul_of_nonneg_left h hc
    have h2 := Int.mul_le_mul_of_nonpos_left (a := U) (by omega) hC
    have e : c * (U * C) = U * (c * C) := by rw [← Int.mul_assoc, Int.mul_comm c U, Int.mul_assoc]
    omega
/-- a cell within another: the measures of the inner one are c times as fine -/
structure Within (t p : Nat) (s u l : Int) (t' p' : Nat) (s' u' l' c : Int) : Prop where
  c0 : 0 < c
  hi : (l' + s') * 2 ^ t' ≤ c * ((l + s) * 2 ^ t)
  lo : c * (l * 2 ^ t) ≤ l' * 2 ^ t'
  a : c * (u * 2 ^ p) ≤ u' * 2 ^ p'
  b : (u' + 1) * 2 ^ p' ≤ c * ((u + 1) * 2 ^ p)
section
variable {b m : Int} {t p t' p' : Nat} {s u l s' u' l' c : Int}
theorem Within.good (w : Within t p s u l t' p' s' u' l' c) (hb : 1 ≤ b) {f : Int} (h : goodB b m t p s u l f = true) : goodB b m t' p' s' u' l' f = true := by
  unfold goodB upB at *
  rw [Bool.and_eq_true, Bool.or_eq_true, Bool.or_eq_true, decide_eq_true_iff, decide_eq_true_iff, decide_eq_true_iff, decide_eq_true_iff] at *
  refine ⟨h.1.imp_right (side_mono (Int.le_of_lt w.c0) ?_ w.a w.b), h.2.imp_right (side_mono (Int.le_of_lt w.c0) ?_ w.a w.b)⟩
  · have h1 := Int.mul_le_mul_of_nonneg_right w.hi (show 0 ≤ b - 1 by omega)
    rw [Int.mul_assoc, Int.mul_assoc, Int.mul_assoc] at h1
    rw [Int.mul_assoc, Int.mul_assoc, Int.mul_comm (b - 1), Int.mul_comm (b - 1)]
    exact h1
  · have h1 := Int.mul_le_mul_of_nonneg_right w.lo (show 0 ≤ b - 1 by omega)
    rw [Int.mul_assoc, Int.mul_assoc, Int.mul_assoc] at h1
    rw [Int.mul_assoc, Int.mul_assoc, Int.mul_comm (b - 1), Int.mul_comm (b - 1), Int.neg_mul, Int.neg_mul, Int.mul_neg]
    omega
theorem Within.met (w : Within t p s u l t' p' s' u' l' c) (hb : 1 ≤ b) (hm : 0 ≤ m) (h : metB b m t' p' s' u' l' = true) : metB b m t p s u l = true := by
  unfold metB at *
  rw [Bool.and_eq_true, decide_eq_true_iff, decide_eq_true_iff] at *
  have hbm : 0 ≤ b * m := Int.mul_nonneg (by omega) hm
  have h1 := Int.mul_le_mul_of_nonneg_right w.hi (show 0 ≤ b - 1 by omega)
  have h2 := Int.mul_le_mul_of_nonneg_right w.lo (show 0 ≤ b - 1 by omega)
  have h3 := Int.mul_le_mul_of_nonneg_left w.b hbm
  have e1 : b * m * (c * ((u + 1) * 2 ^ p)) = c * (b * m * (u + 1) * 2 ^ p) := by
    rw [← Int.mul_assoc, Int.mul_comm (b * m) c, Int.mul_assoc, Int.mul_assoc (b * m)]
  have e2 : b * m * ((u' + 1) * 2 ^ p') = b * m * (u' + 1) * 2 ^ p' := by rw [Int.mul_assoc (b * m)]
  have e3 : l' * 2 ^ t' * (b - 1) = l' * (b - 1) * 2 ^ t' := by rw [Int.mul_assoc, Int.mul_comm (2 ^ t'), ← Int.mul_assoc]
  have e4 : c * (l * 2 ^ t) * (b - 1) = c * (l * (b - 1) * 2 ^ t) := by rw [Int.mul_assoc, Int.mul_assoc l, Int.mul_comm (2 ^ t), ← Int.mul_assoc l]
  have e5 : (l' + s') * 2 ^ t' * (b - 1) = -(-(l' + s') * (b - 1) * 2 ^ t') := by rw [Int.neg_mul, Int.neg_mul, Int.neg_neg, Int.mul_assoc, Int.mul_comm (2 ^ t'), ← Int.mul_assoc]
  have e6 : c * ((l + s) * 2 ^ t) * (b - 1) = -(c * (-(l + s) * (b - 1) * 2 ^ t)) := by rw [Int.neg_mul, Int.neg_mul, Int.mul_neg, Int.neg_neg, Int.mul_assoc, Int.mul_assoc (l + s), Int.mul_comm (2 ^ t), ← Int.mul_assoc (l + s)]
  rw [e1, e2] at h3
  rw [e3, e4] at h2
  rw [e5, e6] at h1
  refine ⟨Int.lt_of_mul_lt_mul_left (a := c) ?_ (Int.le_of_lt w.c0), Int.lt_of_mul_lt_mul_left (a := c) ?_ (Int.le_of_lt w.c0)⟩
  · omega
  · omega
end
theorem within_tops {t p : Nat} {s u l k : Int} (h0 : 0 ≤ k) (h1 : k ≤ 1) : Within t p s u l (t + 1) p s (2 * u + k) l 2 := by
  have h2 := tw_pos p
  have e : ∀ x : Int, x * 2 ^ (t + 1) = 2 * (x * 2 ^ t) := fun x => by rw [Int.pow_succ, ← Int.mul_assoc, Int.mul_comm]
  refine ⟨by decide, by rw [e]; exact Int.le_refl _, by rw [e]; exact Int.le_refl _, ?_, ?_⟩
  · rw [← Int.mul_assoc]
    exact Int.mul_le_mul_of_nonneg_right (by omega) (Int.le_of_lt h2)
  · rw [← Int.mul_assoc]
    exact Int.mul_le_mul_of_nonneg_right (by omega) (Int.le_of_lt h2)
theorem within_parts {t p : Nat} {s u l k : Int} (h0 : 0 ≤ k) (h1 : k ≤ s) : Within t p s u l t (p + 1) s u (2 * l + k) 2 := by
  have h2 := tw_pos t
  have e : ∀ x : Int, x * 2 ^ (p + 1) = 2 * (x * 2 ^ p) := fun x => by rw [Int.pow_succ, ← Int.mul_assoc, Int.mul_comm]
  refine ⟨by decide, ?_, ?_, by rw [e]; exact Int.le_refl _, by rw [e]; exact Int.le_refl _⟩
  · rw [← Int.mul_assoc]
    exact Int.mul_le_mul_of_nonneg_right (by omega) (Int.le_of_lt h2)
  · rw [← Int.mul_assoc]
    exact Int.mul_le_mul_of_nonneg_right (by omega) (Int.le_of_lt h2)
theorem within_one {t p : Nat} {s u l k : Int} (h0 : 0 ≤ k) (h1 : k < s) : Within t p s u l t p 1 u (l + k) 1 := by
  have h2 := tw_pos t
  refine ⟨by decide, ?_, ?_, by rw [Int.one_mul]; exact Int.le_refl _, by rw [Int.one_mul]; exact Int.le_refl _⟩
  · rw [Int.one_mul]
    exact Int.mul_le_mul_of_nonneg_right (by omega) (Int.le_of_lt h2)
  · rw [Int.one_mul]
    exact Int.mul_le_mul_of_nonneg_right (by omega) (Int.le_of_lt h2)
theorem Within.sub {b m : Int} {t p t' p' : Nat} {s u l s' u' l' c : Int} (w : Within t p s u l t' p' s' u' l' c) (hb : 1 ≤ b) (h : metB b m t p s u l = true) : ∀ f ∈ goodL b m t p s u l, f ∈ goodL b m t' p' s' u' l' := by
  intro f hf
  unfold goodL at *
  rw [if_pos h, List.mem_filter] at hf
  split
  · rw [List.mem_filter]
    exact ⟨hf.1, w.good hb hf.2⟩
  · exact hf.1
/-! ### the script's cells -/
theorem map_at {ns : List Int} {i : Nat} {x : V} (h : (ns.map V.int)[i]? = some x) : ∃ y, x = .int y ∧ ns[i]? = some y := by
  rw [List.getElem?_map] at h
  cases e : ns[i]? with
  | none => rw [e] at h; cases h
  | some y => rw [e] at h; exact ⟨y, by cases h; rfl, rfl⟩
theorem cut_ints (ns : List Int) (lo hi : Option Int) : ∃ cs : List Int, cutV (ns.map V.int) lo hi = cs.map V.int ∧ cs.length ≤ ns.length := by
  refine ⟨(ns.drop (HT.sIx (ns.map V.int).length 0 lo)).take (HT.sIx (ns.map V.int).length (ns.map V.int).length hi - HT.sIx (ns.map V.int).length 0 lo), ?_, ?_⟩
  · unfold cutV
    rw [List.map_take, List.map_drop]
  · rw [List.length_take, List.length_drop]; omega
theorem cat0 (ns : List Int) : ns.map V.int ++ [V.int 0] = (ns ++ [0]).map V.int := by rw [List.map_append]; rfl
theorem head0 (ns : List Int) : ∃ c0 : Int, atI (ns.map V.int ++ [V.int 0]) 0 = some (.int c0) := by
  cases ns with
  | nil => exact ⟨0, rfl⟩
  | cons x r => exact ⟨x, atI_nat (j := 0) rfl⟩
theorem cat_line {ns : List Int} (h : ns.length ≤ 63) : (ns.map V.int).length + [V.int 0].length ≤ sizeLine := by
  rw [List.length_map]
  exact small1000 (by show ns.length + 1 ≤ 1000; omega) |> Nat.le_of_lt
/-- the script, as a fact beside the deck -/
def Scr (K : PySem.W.Frag) (a sa : Addr) (xs : List V) : Fact a := ⟨fun H => ∀ H', Keep a H H' → SqL K H' sa xs, fun k h H'' k' => h H'' (k.trans k')⟩
theorem scr_of {K : PySem.W.Frag} {H0 H1 : Hp} {a sa : Addr} {xs : List V} (h : SqL K H0 sa xs) (ha : H0 a = none) (e : Same H0 H1) : (Scr K a sa xs).P H1 := fun H' k => by
  rcases h with (z | ⟨u, z⟩) | z
  · exact .inl (.inl (k _ _ (ne_of_none z ha) (e _ _ z)))
  · exact .inl (.inr ⟨u, k _ _ (ne_of_none z ha) (e _ _ z)⟩)
  · exact .inr z
theorem S.scr {K : PySem.W.Frag} {a sa : Addr} {n : Nat} {H : Hp} {L : List (Fact a)} {xs : List V} (s : S a n H L) (h : Scr K a sa xs ∈ L) : SqL K H sa xs := s.get h H (Keep.refl a H)
theorem deck_tup_ne {H : Hp} {a p : Addr} {n : Nat} {xs : List V} (d : Deck H a n) (h : H p = some (.tup xs)) : p ≠ a := fun z => by
  obtain ⟨d0, d1, d2, h1, _⟩ := d
  rw [z, h1] at h
  cases h
/-! ### kinds and cells: the program's own -/
def Kd (b m : Int) : Prop := (b = 2 ∨ b = 4 ∨ b = 8 ∨ b = 16) ∧ b / 2 ≤ m ∧ m ≤ b - 1
theorem Kd.bd {b m : Int} (h : Kd b m) : 2 ≤ b ∧ b ≤ 16 ∧ 1 ≤ m ∧ m ≤ 15 ∧ m < b ∧ b ≤ 2 * m ∧ 2 ≤ b * m ∧ b * m ≤ 240 := by
  obtain ⟨h1, h2, h3⟩ := h
  rcases h1 with e | e | e | e <;> subst e <;> refine ⟨?_, ?_, ?_, ?_, ?_, ?_, ?_, ?_⟩ <;> omega
theorem pow_le {n k : Nat} (h : n ≤ k) : (2 : Int) ^ n ≤ 2 ^ k := by
  rw [two_cast, two_cast]
  exact Int.ofNat_le.mpr (Nat.pow_le_pow_right (by decide) h)
theorem new_at {H : Hp} {p : Addr} (h : H p = none) (o : HO) : upd H p o p = some o := upd_same
theorem same_mut {H0 H1 : Hp} {l : Addr} (o : HO) (e : Same H0 H1) (h : H0 l = none) : Same H0 (upd H1 l o) := fun b u z => by
  rw [upd_ne (ne_of_none z h)]
  exact e b u z
theorem same_none {H0 H1 : Hp} {p : Addr} (e : Same H0 H1) (h : H1 p = none) : H0 p = none := by
  cases z : H0 p with
  | none => rfl
  | some o => rw [e p o z] at h; cases h
theorem sameT {K : PySem.W.Frag} {H H' : Hp} {a : Addr} {xs : List V} (e : Same H H') (z : SqT K H a xs) : SqT K H' a xs := by
  rcases z with (z | ⟨u, z⟩) | z
  · exact .inl (.inl (e _ _ z))
  · exact .inl (.inr ⟨u, e _ _ z⟩)
  · exact .inr z
/-! ### met cells and good figures: the program's own -/
theorem div_shl {i c : Int} {k : Nat} (h0 : 0 < c) (h1 : c < 2 ^ 64) (hk : k ≤ 1000) : CDivW i (c * 2 ^ k) := by
  have h2 := two_pos k
  refine wide_div (b := 64 + (k + 1)) (Int.mul_pos h0 h2) (wide_lt (by omega) ?_) (by omega) (by omega)
  rw [two_cast, Int.natAbs_natCast]
  exact Nat.pow_lt_pow_right (by decide) (by omega)
def lastF (b m : Int) (t p : Nat) (u : Int) : Int := (b * m * (u + 1) * 2 ^ p - 1) / ((b - 1) * 2 ^ t)
def sp_met_bounds (K : PySem.W.Frag) : Sp := fun vs H Q _ => ∃ (kp lp : Addr) (b m s u : Int) (t p : Nat), vs = [.ref kp, .ref lp, .int s, .int u] ∧ SqT K H kp [.int b, .int m] ∧ SqT K H lp [.int (t : Int), .int (p : Int)] ∧ Kd b m ∧ t ≤ 100 ∧ p ≤ 100 ∧ 0 ≤ u ∧ u < 2 ^ 40 ∧
  ∀ q, H q = none → Q (.ref q) (upd H q (.tup [.int (-lastF b m t p u - s), .int (lastF b m t p u)]))
theorem ok_met_bounds (T : Txt K mg) : FnOk P w K mg base CX0 1 T.a_met_bounds T.fd_met_bounds ["kind", "looks", "sight", "top"] (sp_met_bounds K) := by
  refine T.F_met_bounds.ok sc_met_bounds (fun vs H Q E h => ?_) (fun cdv A outer s H vs Q E hr h => ?_)
  · obtain ⟨kp, lp, b, m, s, u, t, p, rfl, _⟩ := h
    rfl
  obtain ⟨kp, lp, b, m, s, u, t, p, rfl, hk, hl, hkd, ht, hp, hu0, hu, q⟩ := h
  refine ⟨_, (pss_cons (ps_asg (pv 0) (pg_tup rfl (pgs_cons (pg_name (i := 4) sc_met_bounds.nd rfl (Or.inl rfl)) (pgs_cons (pg_name (i := 5) sc_met_bounds.nd rfl (Or.inl rfl)) pgs_nil))))
      (pss_cons (ps_asg (pv 1) (pg_tup rfl (pgs_cons (pg_name (i := 6) sc_met_bounds.nd rfl (Or.inl rfl)) (pgs_cons (pg_name (i := 7) sc_met_bounds.nd rfl (Or.inl rfl)) pgs_nil))))
      (pss_cons (ps_set (i := 8) sc_met_bounds.nd rfl (Or.inl rfl) (pe_op op_shlN (pe_op op_mul (pe_op op_mul (pv 4) (pv 5)) (pe_op op_add (pv 3) pe_int)) (pv 7)))
      (pss_cons (ps_set (i := 9) sc_met_bounds.nd rfl (Or.inl rfl) (pe_op op_fdivW (pe_op op_sub (pv 8) pe_int) (pe_op op_shlN (pe_op op_sub (pv 4) pe_int) (pv 6))))
      (pss_one (ps_ret (pe_tup (pa_cons (pe_op op_sub (pe_un un_neg (pv 9)) (pv 2)) (pa_cons (pv 9) pa_nil))))))))), ?_⟩
  have bd := hkd.bd
  have hbmT : 0 ≤ b * m * (u + 1) ∧ b * m * (u + 1) ≤ 240 * (u + 1) := ⟨Int.mul_nonneg (by omega) (by omega), Int.mul_le_mul_of_nonneg_right (by omega) (by omega)⟩
  walk_at "rs"
  refine ⟨shl_ok (n := 64) (by omega) (by omega), ?_⟩
  walk_at "rs"
  refine ⟨shl_ok (n := 64) (by omega) (by omega), ?_⟩
  walk_at "rs"
  refine ⟨div_shl (by omega) (by omega) (by omega), ?_⟩
  walk_at "rs"
  exact ⟨by show 2 ≤ sizeLine; decide, q⟩
def sp_is_met (K : PySem.W.Frag) : Sp := fun vs H Q _ => ∃ (kp lp cp : Addr) (b m s u l : Int) (t p : Nat), vs = [.ref kp, .ref lp, .int s, .ref cp] ∧ SqT K H kp [.int b, .int m] ∧ SqT K H lp [.int (t : Int), .int (p : Int)] ∧ SqT K H cp [.int u, .int l] ∧ Kd b m ∧ t ≤ 100 ∧ p ≤ 100 ∧ 0 ≤ u ∧ u < 2 ^ 40 ∧
  ∀ H', Same H H' → Q (.bl (metB b m t p s u l)) H'
theorem ok_is_met (T : Txt K mg) : FnOk P w K mg base CX0 2 T.a_is_met T.fd_is_met ["kind", "looks", "sight", "cell"] (sp_is_met K) := by
  refine T.F_is_met.ok sc_is_met (fun vs H Q E h => ?_) (fun cdv A outer s H vs Q E hr h => ?_)
  · obtain ⟨kp, lp, cp, b, m, s, u, l, t, p, rfl, _⟩ := h
    rfl
  obtain ⟨kp, lp, cp, b, m, s, u, l, t, p, rfl, hk, hl, hc, hkd, ht, hp, hu0, hu, q⟩ := h
  refine ⟨_, (pss_cons (ps_asg (pv 3) (pg_tup rfl (pgs_cons (pg_name (i := 4) sc_is_met.nd rfl (Or.inl rfl)) (pgs_cons (pg_name (i := 5) sc_is_met.nd rfl (Or.inl rfl)) pgs_nil))))
      (pss_cons (ps_asg (pe_call (ok_met_bounds T) (hr.mono (by first | decide | omega)) rfl T.m_met_bounds T.F_met_bounds.kp T.b_met_bounds .nil pass0 (pa_cons (pv 0) (pa_cons (pv 1) (pa_cons (pv 2) (pa_cons (pv 4) pa_nil))))) (pg_tup rfl (pgs_cons (pg_name (i := 6) sc_is_met.nd rfl (Or.inl rfl)) (pgs_cons (pg_name (i := 7) sc_is_met.nd rfl (Or.inl rfl)) pgs_nil))))
      (pss_one (ps_ret (pe_chain op_le op_le (pv 6) (pv 5) (pv 7)))))), ?_⟩
  have bd := hkd.bd
  have e := @met_prog b m t p s u l bd.1
  rw [← e] at q
  walk_at "rs"
  refine ⟨kp, lp, b, m, s, u, t, p, rfl, hk, hl, hkd, ht, hp, hu0, hu, fun r hr0 => ?_⟩
  have s1 := same_new hr0 (.tup [.int (-lastF b m t p u - s), .int (lastF b m t p u)])
  have h2 := new_at hr0 (.tup [.int (-lastF b m t p u - s), .int (lastF b m t p u)])
  walk_at "rs"
  refine ite2 (fun c => ?_) (fun c => ?_)
  · have c1 : -((b * m * (u + 1) * 2 ^ p - 1) / ((b - 1) * 2 ^ t)) - s ≤ l := of_decide_eq_true c
    rw [decide_eq_true c1, Bool.true_and] at q
    walk_at "rs"
    exact q _ s1
  · have c1 : ¬ -((b * m * (u + 1) * 2 ^ p - 1) / ((b - 1) * 2 ^ t)) - s ≤ l := of_decide_eq_false (Bool.eq_false_iff.mpr c)
    rw [decide_eq_false c1, Bool.false_and] at q
    exact q _ s1
def sp_least_great_enough (K : PySem.W.Frag) : Sp := fun vs H Q _ => ∃ (kp lp : Addr) (b m u e : Int) (t p : Nat), vs = [.ref kp, .ref lp, .int u, .int e] ∧ SqT K H kp [.int b, .int m] ∧ SqT K H lp [.int (t : Int), .int (p : Int)] ∧ Kd b m ∧ t ≤ 100 ∧ p ≤ 100 ∧ 1 ≤ u ∧ u < 2 ^ 40 ∧ -(2 ^ 50) < e ∧ e < 2 ^ 50 ∧ Q (.int (lge b m t p u e)) H
theorem ok_least_great_enough (T : Txt K mg) : FnOk P w K mg base CX0 1 T.a_least_great_enough T.fd_least_great_enough ["kind", "looks", "top", "end"] (sp_least_great_enough K) := by
  refine T.F_least_great_enough.ok sc_least_great_enough (fun vs H Q E h => ?_) (fun cdv A outer s H vs Q E hr h => ?_)
  · obtain ⟨kp, lp, b, m, u, e, t, p, rfl, _⟩ := h
    rfl
  obtain ⟨kp, lp, b, m, u, e, t, p, rfl, hk, hl, hkd, ht, hp, hu0, hu, he0, he1, q⟩ := h
  refine ⟨_, (pss_cons (ps_asg (pv 0) (pg_tup rfl (pgs_cons (pg_name (i := 4) sc_least_great_enough.nd rfl (Or.inl rfl)) (pgs_cons (pg_name (i := 5) sc_least_great_enough.nd rfl (Or.inl rfl)) pgs_nil))))
      (pss_cons (ps_asg (pv 1) (pg_tup rfl (pgs_cons (pg_name (i := 6) sc_least_great_enough.nd rfl (Or.inl rfl)) (pgs_cons (pg_name (i := 7) sc_least_great_enough.nd rfl (Or.inl rfl)) pgs_nil))))
      (pss_cons (ps_set (i := 8) sc_least_great_enough.nd rfl (Or.inl rfl) (pe_ifExp (pt_cmpR op_gt (pv 3) pe_int (nomark _)) (pv 2) (pe_op op_add (pv 2) pe_int)))
      (pss_cons (ps_set (i := 9) sc_least_great_enough.nd rfl (Or.inl rfl) (pe_op op_sub (pe_op op_shlN (pe_op op_mul (pv 3) (pe_op op_sub (pv 4) pe_int)) (pv 6)) (pe_op op_shlN (pe_op op_mul (pv 5) (pv 8)) (pv 7))))
      (pss_cons (ps_set (i := 10) sc_least_great_enough.nd rfl (Or.inl rfl) (pe_un un_neg (pe_op op_fdivW (pe_un un_neg (pv 9)) (pe_op op_shlN (pe_op op_mul (pv 8) (pe_op op_sub (pv 4) pe_int)) (pv 7)))))
      (pss_one (ps_ret (pe_callB (call_max2 rfl) (by rfl) T.z_max (by decide +kernel) (pa_cons (pe_un un_neg (pv 5)) (pa_cons (pe_callB (call_min2 rfl) (by rfl) T.z_min (by decide +kernel) (pa_cons (pv 5) (pa_cons (pv 10) pa_nil))) pa_nil)))))))))), ?_⟩
  have bd := hkd.bd
  have hgen : ∀ D : Int, D = (if e > 0 then u else u + 1) → Q (.int (clampI m (-(-(e * (b - 1) * 2 ^ t - m * D * 2 ^ p) / (D * (b - 1) * 2 ^ p))))) H := fun D hD => by rw [hD]; exact q
  have heb : -(2 ^ 60) ≤ e * (b - 1) ∧ e * (b - 1) ≤ 2 ^ 60 := by
    have h1 : e * (b - 1) ≤ 2 ^ 50 * (b - 1) := Int.mul_le_mul_of_nonneg_right (by omega) (by omega)
    have h2 : -(2 ^ 50) * (b - 1) ≤ e * (b - 1) := Int.mul_le_mul_of_nonneg_right (by omega) (by omega)
    omega
  by_cases c : e > 0
  · have h := hgen u (by rw [if_pos c])
    have hD : 0 ≤ m * u ∧ m * u ≤ 15 * u ∧ 0 < u * (b - 1) ∧ u * (b - 1) ≤ u * 15 := ⟨Int.mul_nonneg (by omega) (by omega), Int.mul_le_mul_of_nonneg_right (by omega) (by omega), Int.mul_pos (by omega) (by omega), Int.mul_le_mul_of_nonneg_left (by omega) (by omega)⟩
    walk_at "go"
    refine ⟨shl_ok (n := 64) (by omega) (by omega), ?_⟩
    walk_at "rs"
    refine ⟨shl_ok (n := 64) (by omega) (by omega), ?_⟩
    walk_at "rs"
    refine ⟨shl_ok (n := 64) (by omega) (by omega), ?_⟩
    walk_at "rs"
    refine ⟨div_shl (by omega) (by omega) (by omega), ?_⟩
    walk_at "rs"
    exact h
  · have h := hgen (u + 1) (by rw [if_neg c])
    have hD : 0 ≤ m * (u + 1) ∧ m * (u + 1) ≤ 15 * (u + 1) ∧ 0 < (u + 1) * (b - 1) ∧ (u + 1) * (b - 1) ≤ (u + 1) * 15 := ⟨Int.mul_nonneg (by omega) (by omega), Int.mul_le_mul_of_nonneg_right (by omega) (by omega), Int.mul_pos (by omega) (by omega), Int.mul_le_mul_of_nonneg_left (by omega) (by omega)⟩
    walk_at "go"
    refine ⟨shl_ok (n := 64) (by omega) (by omega), ?_⟩
    walk_at "rs"
    refine ⟨shl_ok (n := 64) (by omega) (by omega), ?_⟩
    walk_at "rs"
    refine ⟨shl_ok (n := 64) (by omega) (by omega), ?_⟩
    walk_at "rs"
    refine ⟨div_shl (by omega) (by omega) (by omega), ?_⟩
    walk_at "rs"
    exact h
def sp_good_bounds (K : PySem.W.Frag) : Sp := fun vs H Q _ => ∃ (kp lp cp : Addr) (b m s u l : Int) (t p : Nat), vs = [.ref kp, .ref lp, .int s, .ref cp] ∧ SqT K H kp [.int b, .int m] ∧ SqT K H lp [.int (t : Int), .int (p : Int)] ∧ SqT K H cp [.int u, .int l] ∧ Kd b m ∧ t ≤ 100 ∧ p ≤ 100 ∧ 1 ≤ u ∧ u < 2 ^ 40 ∧ -(2 ^ 45) < l ∧ l < 2 ^ 45 ∧ 0 ≤ s ∧ s ≤ 2 ∧
  ∀ q, H q = none → Q (.ref q) (upd H q (.tup [.int (lge b m t p u (l + s)), .int (-lge b m t p u (-l))]))
theorem ok_good_bounds (T : Txt K mg) : FnOk P w K mg base CX0 2 T.a_good_bounds T.fd_good_bounds ["kind", "looks", "sight", "cell"] (sp_good_bounds K) := by
  refine T.F_good_bounds.ok sc_good_bounds (fun vs H Q E h => ?_) (fun cdv A outer s H vs Q E hr h => ?_)
  · obtain ⟨kp, lp, cp, b, m, s, u, l, t, p, rfl, _⟩ := h
    rfl
  obtain ⟨kp, lp, cp, b, m, s, u, l, t, p, rfl, hk, hl, hc, hkd, ht, hp, hu0, hu, hl0, hl1, hs0, hs1, q⟩ := h
  refine ⟨_, (pss_cons (ps_asg (pv 3) (pg_tup rfl (pgs_cons (pg_name (i := 4) sc_good_bounds.nd rfl (Or.inl rfl)) (pgs_cons (pg_name (i := 5) sc_good_bounds.nd rfl (Or.inl rfl)) pgs_nil))))
      (pss_one (ps_ret (pe_tup (pa_cons (pe_call (ok_least_great_enough T) (hr.mono (by first | decide | omega)) rfl T.m_least_great_enough T.F_least_great_enough.kp T.b_least_great_enough .nil pass0 (pa_cons (pv 0) (pa_cons (pv 1) (pa_cons (pv 4) (pa_cons (pe_op op_add (pv 5) (pv 2)) pa_nil))))) (pa_cons (pe_un un_neg (pe_call (ok_least_great_enough T) (hr.mono (by first | decide | omega)) rfl T.m_least_great_enough T.F_least_great_enough.kp T.b_least_great_enough .nil pass0 (pa_cons (pv 0) (pa_cons (pv 1) (pa_cons (pv 4) (pa_cons (pe_un un_neg (pv 5)) pa_nil)))))) pa_nil)))))), ?_⟩
  walk_at "rs"
  refine ⟨kp, lp, b, m, u, _, t, p, rfl, hk, hl, hkd, ht, hp, hu0, hu, by omega, by omega, ?_⟩
  walk_at "rs"
  refine ⟨kp, lp, b, m, u, _, t, p, rfl, hk, hl, hkd, ht, hp, hu0, hu, by omega, by omega, ?_⟩
  walk_at "rs"
  exact ⟨by show 2 ≤ sizeLine; decide, q⟩
theorem rgV_ints (a b : Int) : rgV a b = (intsR a b).map V.int := by
  unfold rgV intsR
  rw [List.map_map]
  rfl
def sp_good_figures (K : PySem.W.Frag) : Sp := fun vs H Q _ => ∃ (kp lp cp : Addr) (b m s u l : Int) (t p : Nat), vs = [.ref kp, .ref lp, .int s, .ref cp] ∧ SqT K H kp [.int b, .int m] ∧ SqT K H lp [.int (t : Int), .int (p : Int)] ∧ SqT K H cp [.int u, .int l] ∧ Kd b m ∧ t ≤ 100 ∧ p ≤ 100 ∧ 1 ≤ u ∧ u < 2 ^ 40 ∧ -(2 ^ 45) < l ∧ l < 2 ^ 45 ∧ 0 ≤ s ∧ s ≤ 2 ∧
  ∀ q H', Same H H' → H q = none → H' q = some (.lst ((goodL b m t p s u l).map V.int)) → Q (.ref q) H'
theorem ok_good_figures (T : Txt K mg) : FnOk P w K mg base CX0 3 T.a_good_figures T.fd_good_figures ["kind", "looks", "sight", "cell"] (sp_good_figures K) := by
  refine T.F_good_figures.ok sc_good_figures (fun vs H Q E h => ?_) (fun cdv A outer s H vs Q E hr h => ?_)
  · obtain ⟨kp, lp, cp, b, m, s, u, l, t, p, rfl, _⟩ := h
    rfl
  obtain ⟨kp, lp, cp, b, m, s, u, l, t, p, rfl, hk, hl, hc, hkd, ht, hp, hu0, hu, hl0, hl1, hs0, hs1, q⟩ := h
  refine ⟨_, (pss_cons (ps_if (pt_not (pt_val (pe_call (ok_is_met T) (hr.mono (by first | decide | omega)) rfl T.m_is_met T.F_is_met.kp T.b_is_met .nil pass0 (pa_cons (pv 0) (pa_cons (pv 1) (pa_cons (pv 2) (pa_cons (pv 3) pa_nil))))))) (pss_one (ps_ret (pe_listRg rfl (by rfl) T.z_list (prg_2 (by rfl) T.z_range (pe_un un_neg (pe_ix ix_tup (pv 0) pe_int (fun _ _ => rfl))) (pe_op op_add (pe_ix ix_tup (pv 0) pe_int (fun _ _ => rfl)) pe_int))))) pss_nil)
      (pss_cons (ps_asg (pe_call (ok_good_bounds T) (hr.mono (by first | decide | omega)) rfl T.m_good_bounds T.F_good_bounds.kp T.b_good_bounds .nil pass0 (pa_cons (pv 0) (pa_cons (pv 1) (pa_cons (pv 2) (pa_cons (pv 3) pa_nil))))) (pg_tup rfl (pgs_cons (pg_name (i := 4) sc_good_figures.nd rfl (Or.inl rfl)) (pgs_cons (pg_name (i := 5) sc_good_figures.nd rfl (Or.inl rfl)) pgs_nil))))
      (pss_one (ps_ret (pe_listRg rfl (by rfl) T.z_list (prg_2 (by rfl) T.z_range (pv 4) (pe_op op_add (pv 5) pe_int))))))), ?_⟩
  have bd := hkd.bd
  have b1 : -m ≤ lge b m t p u (l + s) ∧ lge b m t p u (l + s) ≤ m := clamp_bd (by omega)
  have b2 : -m ≤ lge b m t p u (-l) ∧ lge b m t p u (-l) ≤ m := clamp_bd (by omega)
  walk_at "rs"
  refine ⟨kp, lp, cp, b, m, s, u, l, t, p, rfl, hk, hl, hc, hkd, ht, hp, by omega, hu, fun H1 s1 => ?_⟩
  have hk1 := sameT s1 hk
  have hl1' := sameT s1 hl
  have hc1 := sameT s1 hc
  walk_at "rs"
  unfold goodL at q
  refine ite2 (fun c => ?_) (fun c => ?_)
  · have c1 : metB b m t p s u l = false := by simpa using c
    rw [c1, if_neg (by decide), figs_rng, ← rgV_ints] at q
    walk_at "rs"
    exact fun r hr0 => q r _ (s1.trans (same_new hr0 _)) (same_none s1 hr0) upd_same
  · have c1 : metB b m t p s u l = true := by simpa using c
    rw [if_pos c1, good_list bd.1 (by omega) hu0, ← rgV_ints] at q
    walk_at "rs"
    refine ⟨kp, lp, cp, b, m, s, u, l, t, p, rfl, hk1, hl1', hc1, hkd, ht, hp, hu0, hu, hl0, hl1, hs0, hs1, fun r hr0 => ?_⟩
    have h2 := new_at hr0 (.tup [.int (lge b m t p u (l + s)), .int (-lge b m t p u (-l))])
    have s2 := same_new hr0 (.tup [.int (lge b m t p u (l + s)), .int (-lge b m t p u (-l))])
    walk_at "rs"
    exact fun y hy => q y _ (s1.trans (s2.trans (same_new hy _))) (same_none (s1.trans s2) hy) upd_same
def sp__law_great (K : PySem.W.Frag) : Sp := fun vs H Q _ => ∃ (a : Addr) (n f : Nat), vs = [.ref a, .int (f : Int)] ∧ Deck H a n ∧ n ≤ 900000000 ∧ f ≤ 1000 ∧ ∀ (v : Nat) H', v < 10 ^ f → Keep a H H' → Deck H' a (n + 6) → Q (.int (v : Int)) H'
theorem ten_cast (k : Nat) : (10 : Int) ^ k = ((10 ^ k : Nat) : Int) := by rw [Int.natCast_pow]; rfl
theorem ok__law_great (T : Txt K mg) : FnOk P w K mg base CX0 2 T.a__law_great T.fd__law_great ["deck", "figures"] (sp__law_great K) := by
  refine T.F__law_great.ok sc__law_great (fun vs H Q E h => ?_) (fun cdv A outer s H vs Q E hr h => ?_)
  · obtain ⟨a, n, f, rfl, _⟩ := h
    rfl
  obtain ⟨a, n, f, rfl, hd, hn, hf, q⟩ := h
  refine ⟨_, (pss_cons (ps_set (i := 2) sc__law_great.nd rfl (Or.inl rfl) pe_int)
      (pss_cons (ps_for PassesOwn.never rfl (pi_range1 (by rfl) T.z_range (pa_cons (pe_call (ok__law_pick T) (hr.mono (by first | decide | omega)) rfl T.m__law_pick T.F__law_pick.kp T.b__law_pick .nil pass0 (pa_cons (pv 0) (pa_cons (pe_op op_add (pv 1) pe_int) pa_nil))) pa_nil)) (pg_name (i := 3) sc__law_great.nd rfl (Or.inl rfl)) (pss_one (ps_set (i := 2) sc__law_great.nd rfl (Or.inl rfl) (pe_op op_mul (pv 2) pe_int))))
      (pss_cons (ps_set (i := 4) sc__law_great.nd rfl (Or.inl rfl) pe_int)
      (pss_cons (ps_for PassesOwn.never rfl (pi_range1 (by rfl) T.z_range (pa_cons pe_int pa_nil)) (pg_name (i := 3) sc__law_great.nd rfl (Or.inl rfl)) (pss_one (ps_set (i := 4) sc__law_great.nd rfl (Or.inl rfl) (pe_op op_add (pe_op op_mul (pv 4) (pe_op op_pow pe_int pe_int)) (pe_call (ok__law_pick T) (hr.mono (by first | decide | omega)) rfl T.m__law_pick T.F__law_pick.kp T.b__law_pick .nil pass0 (pa_cons (pv 0) (pa_cons (pe_op op_pow pe_int pe_int) pa_nil)))))))
      (pss_one (ps_ret (pe_op op_mod (pv 4) (pv 2)))))))), ?_⟩
  have s0 : S a n H [] := ⟨hd, trivial⟩
  walk_at "rd"
  walk_at "pick"
  intro v1 H1 v10 v11 k1 s1
  walk_at "rd"
  refine for_range0 (n := v1.toNat) (fun i σ H' => H' = H1 ∧ ∃ t, σ = [some (.ref a), some (.int (f : Int)), some (.int ((10 ^ i : Nat) : Int)), t, none]) ⟨rfl, none, rfl⟩ ?_ ?_
  · rintro i σ H2 hi ⟨rfl, t, rfl⟩
    walk_at "rd"
    refine ⟨some (.int (i : Int)), ?_⟩
    have e : ((10 ^ (i + 1) : Nat) : Int) = ((10 ^ i : Nat) : Int) * 10 := by rw [Nat.pow_succ, Int.natCast_mul]; rfl
    rw [e]; rfl
  · rintro σ H2 ⟨rfl, t, rfl⟩
    walk_at "rd"
    refine for_range0 (n := 5) (fun i σ H' => Keep a H H' ∧ Deck H' a (n + 1 + i) ∧ ∃ (y : Nat) (t : Option V), σ = [some (.ref a), some (.int (f : Int)), some (.int ((10 ^ v1.toNat : Nat) : Int)), t, some (.int (y : Int))]) ⟨k1, s1.d, 0, t, rfl⟩ ?_ ?_
    · rintro i σ H3 hi ⟨k3, d3, y, t, rfl⟩
      have s3 : S a _ H3 [] := ⟨d3, trivial⟩
      walk_at "rd"
      walk_at "pick"
      intro v4 H4 v40 v41 k4 s4
      obtain ⟨v4, rfl⟩ := nat_of v40
      walk_at "rd1"
      refine ⟨k3.trans k4, s4.d, y * 10 ^ 12 + v4, some (.int (i : Int)), ?_⟩
      have e : (y : Int) * 10 ^ (12 : Int).toNat + (v4 : Int) = ((y * 10 ^ 12 + v4 : Nat) : Int) := by
        rw [Int.natCast_add, Int.natCast_mul, Int.natCast_pow]; rfl
      rw [← e]
      rfl
    · rintro σ H3 ⟨k3, d3, y, t, rfl⟩
      have h10 : 0 < 10 ^ v1.toNat := Nat.pow_pos (by decide)
      walk_at "rd"
      show Q (.int ((y : Int) % ((10 ^ v1.toNat : Nat) : Int))) H3
      rw [← Int.natCast_emod]
      exact q _ H3 (Nat.lt_of_lt_of_le (Nat.mod_lt _ h10) (Nat.pow_le_pow_right (by decide) (by omega))) k3 d3
theorem pows_at {r : Nat} (h : r ≤ 10) : atI [V.int 1, .int 2, .int 4, .int 8, .int 16, .int 32, .int 64, .int 128, .int 256, .int 512, .int 1024] (r : Int) = some (.int (2 ^ r)) := by
  have : r = 0 ∨ r = 1 ∨ r = 2 ∨ r = 3 ∨ r = 4 ∨ r = 5 ∨ r = 6 ∨ r = 7 ∨ r = 8 ∨ r = 9 ∨ r = 10 := by omega
  rcases this with rfl | rfl | rfl | rfl | rfl | rfl | rfl | rfl | rfl | rfl | rfl <;> rfl
def sp__law_half (K : PySem.W.Frag) : Sp := fun vs H Q _ => ∃ (kp lp : Addr) (b m : Int) (t : V) (r : Nat), vs = [.ref kp, .ref lp] ∧ SqT K H kp [.int b, .int m] ∧ SqT K H lp [t, .int (r : Int)] ∧ Kd b m ∧ r ≤ 10 ∧ ∀ H', Same H H' → Q (.int (b * 2 ^ r + 2)) H'
theorem ok__law_half (T : Txt K mg) : FnOk P w K mg base CX0 1 T.a__law_half T.fd__law_half ["kind", "looks"] (sp__law_half K) := by
  refine T.F__law_half.ok sc__law_half (fun vs H Q E h => ?_) (fun cdv A outer s H vs Q E hr h => ?_)
  · obtain ⟨kp, lp, b, m, t, r, rfl, _⟩ := h
    rfl
  obtain ⟨kp, lp, b, m, t, r, rfl, hk, hl, hkd, hr2, q⟩ := h
  refine ⟨_, (pss_one (ps_ret (pe_op op_add (pe_op op_mul (pe_ix ix_tup (pv 0) pe_int (fun _ _ => rfl)) (pe_ix ix_list (pe_lst (pa_cons pe_int (pa_cons pe_int (pa_cons pe_int (pa_cons pe_int (pa_cons pe_int (pa_cons pe_int (pa_cons pe_int (pa_cons pe_int (pa_cons pe_int (pa_cons pe_int (pa_cons pe_int pa_nil)))))))))))) (pe_ix ix_tup (pv 1) pe_int (fun _ _ => rfl)) (fun _ _ => rfl))) pe_int))), ?_⟩
  have bd := hkd.bd
  walk_at "rd"
  refine ⟨by show 11 ≤ sizeLine; decide, fun l hl2 => ?_⟩
  have s1 := same_new hl2 (.lst [V.int 1, .int 2, .int 4, .int 8, .int 16, .int 32, .int 64, .int 128, .int 256, .int 512, .int 1024])
  have hl3 := sameT s1 hl
  walk_at "rd"
  refine ⟨l, _, _, _, rfl, rfl, SqL.of upd_same, pows_at hr2, ?_⟩
  walk_at "rd"
  exact q _ s1
/-! ### looks and points, as drawn -/
def sp__law_looks (K : PySem.W.Frag) : Sp := fun vs H Q _ => ∃ (a : Addr) (n : Nat), vs = [.ref a] ∧ Deck H a n ∧ n ≤ 900000000 ∧
  ∀ (p : Addr) (t r : Nat) (H' : Hp), Keep a H H' → Deck H' a (n + 3) → H' p = some (.tup [.int (t : Int), .int (r : Int)]) → 1 ≤ t → t ≤ 8 → r ≤ 8 → Q (.ref p) H'
theorem ok__law_looks (T : Txt K mg) : FnOk P w K mg base CX0 2 T.a__law_looks T.fd__law_looks ["deck"] (sp__law_looks K) := by
  refine T.F__law_looks.ok sc__law_looks (fun vs H Q E h => ?_) (fun cdv A outer s H vs Q E hr h => ?_)
  · obtain ⟨a, n, rfl, _⟩ := h
    rfl
  obtain ⟨a, n, rfl, hd, hn, q⟩ := h
  refine ⟨_, (pss_cons (ps_if (pt_cmpR op_eq (pe_call (ok__law_pick T) (hr.mono (by first | decide | omega)) rfl T.m__law_pick T.F__law_pick.kp T.b__law_pick .nil pass0 (pa_cons (pv 0) (pa_cons pe_int pa_nil))) pe_int (nomark _)) (pss_one (ps_ret (pe_tup (pa_cons (pe_op op_add pe_int (pe_call (ok__law_pick T) (hr.mono (by first | decide | omega)) rfl T.m__law_pick T.F__law_pick.kp T.b__law_pick .nil pass0 (pa_cons (pv 0) (pa_cons pe_int pa_nil)))) (pa_cons (pe_call (ok__law_pick T) (hr.mono (by first | decide | omega)) rfl T.m__law_pick T.F__law_pick.kp T.b__law_pick .nil pass0 (pa_cons (pv 0) (pa_cons pe_int pa_nil))) pa_nil))))) pss_nil)
      (pss_one (ps_ret (pe_tup (pa_cons (pe_op op_add pe_int (pe_call (ok__law_pick T) (hr.mono (by first | decide | omega)) rfl T.m__law_pick T.F__law_pick.kp T.b__law_pick .nil pass0 (pa_cons (pv 0) (pa_cons pe_int pa_nil)))) (pa_cons (pe_call (ok__law_pick T) (hr.mono (by first | decide | omega)) rfl T.m__law_pick T.F__law_pick.kp T.b__law_pick .nil pass0 (pa_cons (pv 0) (pa_cons pe_int pa_nil))) pa_nil)))))), ?_⟩
  have s0 : S a n H [] := ⟨hd, trivial⟩
  walk_at "rs"
  walk_at "pick"
  intro v1 H1 v10 v11 k1 s1
  walk_at "rs"
  refine ite2 (fun c => ?_) (fun c => ?_)
  · walk_at "rs"
    walk_at "pick"
    intro v2 H2 v20 v21 k2 s2
    walk_at "rs"
    walk_at "pick"
    intro v3 H3 v30 v31 k3 s3
    obtain ⟨t, ht⟩ := nat_of (v := 1 + v2) (by omega)
    obtain ⟨r, rfl⟩ := nat_of (v := v3) (by omega)
    walk_at "rs"
    refine ⟨by show 2 ≤ sizeLine; decide, fun p hp => ?_⟩
    exact q p t r _ (k1.trans (k2.trans (k3.trans (Keep.new hp)))) (s3.d.same (same_new hp _)) (by rw [upd_same, ← ht]) (by omega) (by omega) (by omega)
  · walk_at "rs"
    walk_at "pick"
    intro v2 H2 v20 v21 k2 s2
    walk_at "rs"
    walk_at "pick"
    intro v3 H3 v30 v31 k3 s3
    obtain ⟨t, ht⟩ := nat_of (v := 1 + v2) (by omega)
    obtain ⟨r, rfl⟩ := nat_of (v := v3) (by omega)
    walk_at "rs"
    refine ⟨by show 2 ≤ sizeLine; decide, fun p hp => ?_⟩
    exact q p t r _ (k1.trans (k2.trans (k3.trans (Keep.new hp)))) (s3.d.same (same_new hp _)) (by rw [upd_same, ← ht]) (by omega) (by omega) (by omega)
theorem fdiv_abs {r : Int} {k : Nat} : (r / 2 ^ k).natAbs ≤ r.natAbs := by
  have h3 := two_pos k
  rcases Int.le_total 0 r with c0 | c0
  · have := Int.ediv_nonneg c0 (Int.le_of_lt h3)
    have := Int.ediv_le_self (2 ^ k) c0
    omega
  · have h8 : r ≤ r / 2 ^ k := by
      rw [Int.le_ediv_iff_mul_le h3]
      have := Int.mul_le_mul_of_nonpos_left (a := r) (b := 2 ^ k) (c := 1) c0 (by omega)
      rw [Int.mul_one] at this
      exact this
    have := Int.ediv_le_ediv h3 c0
    rw [Int.zero_ediv] at this
    omega
theorem unit_mul {r : Int} {k : Nat} (h1 : -(2 ^ 140) < r) (h2 : r < 2 ^ 140) (hk : k ≤ 140) : CMulW (r / 2 ^ k) (2 ^ k) := by
  have e := fdiv_abs (r := r) (k := k)
  refine wide_mul (a := 140) (b := 141) (by omega) ?_ (by decide) (by decide) (by decide)
  rw [two_cast, Int.natAbs_natCast]
  exact Nat.pow_lt_pow_right (by decide) (by omega)
/-- a point -/
structure Pnt (b m : Int) (t p k : Nat) (d r : Int) : Prop where
  tk : t ≤ k
  pk : p ≤ k
  kb : k ≤ 80
  k1 : 1 ≤ k
  lo : 2 ^ (k - 1) ≤ d
  hi : d < 2 ^ k
  rr : (b - 1) * absI r ≤ b * m * d
def sp__law_point (K : PySem.W.Frag) : Sp := fun vs H Q _ => ∃ (a kp lp : Addr) (n : Nat) (b m : Int) (t p : Nat), vs = [.ref a, .ref kp, .ref lp] ∧ S a n H [At a kp (.tup [.int b, .int m]), At a lp (.tup [.int (t : Int), .int (p : Int)])] ∧ n ≤ 900000 ∧ Kd b m ∧ 1 ≤ t ∧ t ≤ 10 ∧ p ≤ 10 ∧
  ∀ (k : Nat) (d r : Int) pp H', Pnt b m t p k d r → H pp = none → Keep a H H' → Deck H' a (n + 40) → H' pp = some (.tup [.int (k : Int), .int d, .int r]) → Q (.ref pp) H'
theorem ok__law_point (T : Txt K mg) : FnOk P w K mg base CX0 3 T.a__law_point T.fd__law_point ["deck", "kind", "looks"] (sp__law_point K) := by
  refine T.F__law_point.ok sc__law_point (fun vs H Q E h => ?_) (fun cdv A outer s H vs Q E hr h => ?_)
  · obtain ⟨a, kp, lp, n, b, m, t, p, rfl, _⟩ := h
    rfl
  obtain ⟨a, kp, lp, n, b, m, t, p, rfl, s0, hn, hkd, ht, ht2, hp, q⟩ := h
  have bd := hkd.bd
  refine ⟨_, (pss_cons (ps_set (i := 3) sc__law_point.nd rfl (Or.inl rfl) (pe_op op_add (pe_callB (cr_maxT2 rfl) (by rfl) T.z_max (by decide +kernel) (pa_cons (pv 2) pa_nil)) (pe_ix ix_list (pe_lst (pa_cons (pe_call (ok__law_pick T) (hr.mono (by first | decide | omega)) rfl T.m__law_pick T.F__law_pick.kp T.b__law_pick .nil pass0 (pa_cons (pv 0) (pa_cons pe_int pa_nil))) (pa_cons (pe_call (ok__law_pick T) (hr.mono (by first | decide | omega)) rfl T.m__law_pick T.F__law_pick.kp T.b__law_pick .nil pass0 (pa_cons (pv 0) (pa_cons pe_int pa_nil))) pa_nil))) (pe_call (ok__law_pick T) (hr.mono (by first | decide | omega)) rfl T.m__law_pick T.F__law_pick.kp T.b__law_pick .nil pass0 (pa_cons (pv 0) (pa_cons pe_int pa_nil))) (fun _ _ => rfl))))
      (pss_cons (ps_set (i := 4) sc__law_point.nd rfl (Or.inl rfl) (pe_op op_oneShl pe_int (pe_op op_sub1N (pv 3) pe_int)))
      (pss_cons (ps_set (i := 5) sc__law_point.nd rfl (Or.inl rfl) (pe_op op_oneShl pe_int (pe_op op_subN (pv 3) (pe_ix ix_tup (pv 2) pe_int (fun _ _ => rfl)))))
      (pss_cons (ps_set (i := 6) sc__law_point.nd rfl (Or.inl rfl) (pe_op op_add (pv 4) (pe_ix ix_list (pe_lst (pa_cons (pe_op op_mod (pe_call (ok__law_great T) (hr.mono (by first | decide | omega)) rfl T.m__law_great T.F__law_great.kp T.b__law_great .nil pass0 (pa_cons (pv 0) (pa_cons pe_int pa_nil))) (pv 4)) (pa_cons pe_int (pa_cons (pe_op op_sub (pv 4) pe_int) pa_nil)))) (pe_call (ok__law_pick T) (hr.mono (by first | decide | omega)) rfl T.m__law_pick T.F__law_pick.kp T.b__law_pick .nil pass0 (pa_cons (pv 0) (pa_cons pe_int pa_nil))) (fun _ _ => rfl))))
      (C8.pss_cut (ps_if (pt_cmpR op_eq (pe_call (ok__law_pick T) (hr.mono (by first | decide | omega)) rfl T.m__law_pick T.F__law_pick.kp T.b__law_pick .nil pass0 (pa_cons (pv 0) (pa_cons pe_int pa_nil))) pe_int (nomark _)) (pss_one (ps_set (i := 6) sc__law_point.nd rfl (Or.inl rfl) (pe_callB (call_max2 rfl) (by rfl) T.z_max (by decide +kernel) (pa_cons (pv 4) (pa_cons (pe_callB (call_min2 rfl) (by rfl) T.z_min (by decide +kernel) (pa_cons (pe_op op_sub (pe_op op_mul pe_int (pv 4)) pe_int) (pa_cons (pe_op op_sub (pe_op op_add (pe_op op_mulW (pe_op op_fdivW (pv 6) (pv 5)) (pv 5)) (pe_call (ok__law_pick T) (hr.mono (by first | decide | omega)) rfl T.m__law_pick T.F__law_pick.kp T.b__law_pick .nil pass0 (pa_cons (pv 0) (pa_cons pe_int pa_nil)))) pe_int) pa_nil))) pa_nil))))) pss_nil)
      (pss_cons (ps_set (i := 7) sc__law_point.nd rfl (Or.inl rfl) (pe_op op_fdiv (pe_op op_mul (pe_op op_mul (pe_ix ix_tup (pv 1) pe_int (fun _ _ => rfl)) (pe_ix ix_tup (pv 1) pe_int (fun _ _ => rfl))) (pv 6)) (pe_op op_sub (pe_ix ix_tup (pv 1) pe_int (fun _ _ => rfl)) pe_int)))
      (pss_cons (ps_set (i := 5) sc__law_point.nd rfl (Or.inl rfl) (pe_op op_oneShl pe_int (pe_op op_subN (pv 3) (pe_ix ix_tup (pv 2) pe_int (fun _ _ => rfl)))))
      (pss_cons (ps_set (i := 8) sc__law_point.nd rfl (Or.inl rfl) (pe_ix ix_list (pe_lst (pa_cons (pe_op op_mod (pe_call (ok__law_great T) (hr.mono (by first | decide | omega)) rfl T.m__law_great T.F__law_great.kp T.b__law_great .nil pass0 (pa_cons (pv 0) (pa_cons pe_int pa_nil))) (pe_op op_add (pv 7) pe_int)) (pa_cons (pe_op op_sub (pv 7) (pe_call (ok__law_pick T) (hr.mono (by first | decide | omega)) rfl T.m__law_pick T.F__law_pick.kp T.b__law_pick .nil pass0 (pa_cons (pv 0) (pa_cons pe_int pa_nil)))) (pa_cons (pe_call (ok__law_pick T) (hr.mono (by first | decide | omega)) rfl T.m__law_pick T.F__law_pick.kp T.b__law_pick .nil pass0 (pa_cons (pv 0) (pa_cons pe_int pa_nil))) pa_nil)))) (pe_call (ok__law_pick T) (hr.mono (by first | decide | omega)) rfl T.m__law_pick T.F__law_pick.kp T.b__law_pick .nil pass0 (pa_cons (pv 0) (pa_cons pe_int pa_nil))) (fun _ _ => rfl)))
      (C8.pss_cut (ps_if (pt_cmpR op_eq (pe_call (ok__law_pick T) (hr.mono (by first | decide | omega)) rfl T.m__law_pick T.F__law_pick.kp T.b__law_pick .nil pass0 (pa_cons (pv 0) (pa_cons pe_int pa_nil))) pe_int (nomark _)) (pss_one (ps_set (i := 8) sc__law_point.nd rfl (Or.inl rfl) (pe_op op_sub (pe_op op_add (pe_op op_mulW (pe_op op_fdivW (pv 8) (pv 5)) (pv 5)) (pe_call (ok__law_pick T) (hr.mono (by first | decide | omega)) rfl T.m__law_pick T.F__law_pick.kp T.b__law_pick .nil pass0 (pa_cons (pv 0) (pa_cons pe_int pa_nil)))) pe_int))) pss_nil)
      (pss_one (ps_ret (pe_tup (pa_cons (pv 3) (pa_cons (pv 6) (pa_cons (pe_op op_mul (pe_callB (call_max2 rfl) (by rfl) T.z_max (by decide +kernel) (pa_cons pe_int (pa_cons (pe_callB (call_min2 rfl) (by rfl) T.z_min (by decide +kernel) (pa_cons (pv 7) (pa_cons (pv 8) pa_nil))) pa_nil))) (pe_ix ix_list (pe_lst (pa_cons pe_int (pa_cons (pe_un un_neg pe_int) pa_nil))) (pe_call (ok__law_pick T) (hr.mono (by first | decide | omega)) rfl T.m__law_pick T.F__law_pick.kp T.b__law_pick .nil pass0 (pa_cons (pv 0) (pa_cons pe_int pa_nil))) (fun _ _ => rfl))) pa_nil))))))))))))))), ?_⟩
  walk_at "rs"
  obtain ⟨mx, hmx, hm1, hm2, hm3⟩ : ∃ mx : Int, (mx = if (p : Int) > (t : Int) then (p : Int) else (t : Int)) ∧ (t : Int) ≤ mx ∧ (p : Int) ≤ mx ∧ mx ≤ 10 := ⟨_, rfl, by split <;> omega, by split <;> omega, by split <;> omega⟩
  refine ⟨lp, _, _, rfl, SqT.of (s0.at_ (.tail _ (.head _))), ?_⟩
  rw [← hmx]
  walk_at "rs"
  walk_at "pick"
  intro v1 H1 v10 v11 k1 s1
  walk_at "rs"
  walk_at "pick"
  intro v2 H2 v20 v21 k2 s2
  walk_at "rs"
  walk_at "choose"
  intro y H3 my k3 s3
  obtain ⟨k, e, hk1, hk2, hk3, hk4⟩ : ∃ k : Nat, (∃ z : Int, y = .int z ∧ mx + z = (k : Int)) ∧ 1 ≤ k ∧ t ≤ k ∧ p ≤ k ∧ k ≤ 80 := by
    simp only [List.mem_cons, List.not_mem_nil, or_false] at my
    rcases my with e | e
    · exact ⟨(mx + v1).toNat, ⟨v1, e, by omega⟩, by omega, by omega, by omega, by omega⟩
    · exact ⟨(mx + v2).toNat, ⟨v2, e, by omega⟩, by omega, by omega, by omega, by omega⟩
  obtain ⟨z, rfl, e⟩ := e
  clear my
  refine add_to e ?_
  have h1 := two_pos (k - 1)
  have h2 := pow_le (n := k - 1) (k := 80) (by omega)
  have h3 := two_pos (k - p)
  have h4 := pow_le (n := k - p) (k := 80) (by omega)
  have h5 := two_even (w := k) hk1
  walk_at "rs"
  refine ⟨a, _, 30, rfl, s3.d, by omega, by omega, fun g H4 hg k4 d4 => ?_⟩
  have s4 := s3.keep k4 d4
  have g1 := Int.emod_nonneg (g : Int) (b := 2 ^ (k - 1)) (by omega)
  have g2 := Int.emod_lt_of_pos (g : Int) h1
  walk_at "rs"
  walk_at "choose"
  intro y H5 my k5 s5
  obtain ⟨d, e, hd1, hd2⟩ : ∃ d : Int, (∃ z : Int, y = .int z ∧ 2 ^ (k - 1) + z = d) ∧ 2 ^ (k - 1) ≤ d ∧ d < 2 ^ k := by
    simp only [List.mem_cons, List.not_mem_nil, or_false] at my
    rcases my with e | e | e
    · exact ⟨_, ⟨_, e, rfl⟩, by omega, by omega⟩
    · exact ⟨_, ⟨_, e, rfl⟩, by omega, by omega⟩
    · exact ⟨_, ⟨_, e, rfl⟩, by omega, by omega⟩
  obtain ⟨z2, rfl, e2⟩ := e
  clear my
  refine add_to e2 ?_
  have kk : Keep a H H5 := k1.trans (k2.trans (k3.trans (k4.trans k5)))
  clear k1 k2 k3 k4 k5 s1 s2 s3 s4 d4 hg g1 g2
  walk_at "rs"
  refine ⟨fun σ' H' => Keep a H H' ∧ S a (n + 20) H' [At a kp (HO.tup [V.int b, V.int m]), At a lp (HO.tup [V.int (t : Int), V.int (p : Int)])] ∧ ∃ d : Int, 2 ^ (k - 1) ≤ d ∧ d < 2 ^ k ∧ σ' = [some (.ref a), some (.ref kp), some (.ref lp), some (.int (k : Int)), some (.int (2 ^ (k - 1))), some (.int (2 ^ (k - t))), some (.int d), none, none], ?_, ?_⟩
  · walk_at "rs"
    walk_at "pick"
    intro v11 H11 v110 v111 k11 s11
    walk_at "rs"
    refine ite2 (fun c => ?_) (fun c => ?_)
    · walk_at "rs"
      refine ⟨div2 (by omega), ?_⟩
      walk_at "rs"
      refine ⟨unit_mul (by omega) (by omega) (by omega), ?_⟩
      walk_at "rs"
      walk_at "pick"
      intro v12 H12 v120 v121 k12 s12
      walk_at "rs"
      refine ⟨kk.trans (k11.trans k12), s12.le (by omega), _, ?_, ?_, rfl⟩
      · split <;> omega
      · generalize d / 2 ^ (k - t) * 2 ^ (k - t) = z
        split
        · split <;> omega
        · omega
    · walk_at "rs"
      exact ⟨kk.trans k11, s11.le (by omega), d, hd1, hd2, rfl⟩
  · rintro σ' H' ⟨kk, s1, d, hd1, hd2, rfl⟩
    walk_at "rs"
    have hR0 : 0 ≤ (b * m * d / (b - 1)) := Int.ediv_nonneg (Int.mul_nonneg (by omega) (by omega)) (by omega)
    have hR1 : (b * m * d / (b - 1)) ≤ 2 ^ 130 := by
      have h5 : b * m * d ≤ 240 * d := Int.mul_le_mul_of_nonneg_right (by omega) (by omega)
      have h6 := Int.ediv_le_self (b - 1) (a := b * m * d) (Int.mul_nonneg (by omega) (by omega))
      have h7 := pow_le (n := k) (k := 80) (by omega)
      omega
    have hR2 : (b - 1) * (b * m * d / (b - 1)) ≤ b * m * d := Int.mul_ediv_self_le (by omega)
    refine ⟨⟨by omega, by omega⟩, ?_⟩
    walk_at "rs"
    refine ⟨a, _, 30, rfl, s1.d, by omega, by omega, fun g H4 hg k4 d4 => ?_⟩
    have s4 := s1.keep k4 d4
    have g1 := Int.emod_nonneg (g : Int) (b := (b * m * d / (b - 1)) + 1) (by omega)
    have g2 := Int.emod_lt_of_pos (g : Int) (b := (b * m * d / (b - 1)) + 1) (by omega)
    walk_at "rs"
    walk_at "pick"
    intro v5 H5 v50 v51 k5 s5
    walk_at "rs"
    walk_at "pick"
    intro v6 H6 v60 v61 k6 s6
    walk_at "rs"
    walk_at "choose"
    intro y H7 my k7 s7
    obtain ⟨r, rfl, hr1, hr2⟩ : ∃ r : Int, y = .int r ∧ -10 ≤ r ∧ r ≤ 2 ^ 130 + 10 := by
      simp only [List.mem_cons, List.not_mem_nil, or_false] at my
      rcases my with e | e | e
      · exact ⟨_, e, by omega, by omega⟩
      · exact ⟨_, e, by omega, by omega⟩
      · exact ⟨_, e, by omega, by omega⟩
    clear my g1 g2 hg d4
    have kk := kk.trans (k4.trans (k5.trans (k6.trans k7)))
    clear k4 k5 k6 k7 s4 s5 s6
    walk_at "rs"
    refine ⟨fun σ' H' => Keep a H H' ∧ S a (n + 37) H' [At a kp (HO.tup [V.int b, V.int m]), At a lp (HO.tup [V.int (t : Int), V.int (p : Int)])] ∧ ∃ r : Int, σ' = [some (.ref a), some (.ref kp), some (.ref lp), some (.int (k : Int)), some (.int (2 ^ (k - 1))), some (.int (2 ^ (k - p))), some (.int d), some (.int (b * m * d / (b - 1))), some (.int r)], ?_, ?_⟩
    · walk_at "rs"
      walk_at "pick"
      intro v11 H11 v110 v111 k11 s11
      walk_at "rs"
      refine ite2 (fun c => ?_) (fun c => ?_)
      · walk_at "rs"
        refine ⟨div2 (by omega), ?_⟩
        walk_at "rs"
        refine ⟨unit_mul (by omega) (by omega) (by omega), ?_⟩
        walk_at "rs"
        walk_at "pick"
        intro v12 H12 v120 v121 k12 s12
        walk_at "rs"
        exact ⟨kk.trans (k11.trans k12), s12.le (by omega), _, rfl⟩
      · walk_at "rs"
        exact ⟨kk.trans k11, s11.le (by omega), r, rfl⟩
    · rintro σ' H' ⟨kk, s8, r, rfl⟩
      walk_at "rs"
      obtain ⟨v, hv, hv0, hv1⟩ : ∃ v : Int, (v = if (if r < (b * m * d / (b - 1)) then r else (b * m * d / (b - 1))) > 0 then (if r < (b * m * d / (b - 1)) then r else (b * m * d / (b - 1))) else 0) ∧ 0 ≤ v ∧ v ≤ (b * m * d / (b - 1)) := ⟨_, rfl, by split <;> split <;> omega, by split <;> split <;> omega⟩
      rw [← hv]
      walk_at "choose"
      intro y H9 my k9 s9
      obtain ⟨y, rfl, hy0⟩ : ∃ z : Int, y = .int z ∧ (z = 1 ∨ z = -1) := by
        simp only [List.mem_cons, List.not_mem_nil, or_false] at my
        rcases my with e | e
        · exact ⟨_, e, by decide⟩
        · exact ⟨_, e, by decide⟩
      walk_at "rs"
      refine ⟨by show 3 ≤ sizeLine; decide, fun pp hpp => ?_⟩
      have k10 := kk.trans k9
      have hpt : Pnt b m t p k d (v * y) := ⟨hk2, hk3, hk4, hk1, hd1, hd2, by
        have e9 : absI (v * y) = v := by
          rcases hy0 with e | e <;> subst e <;> unfold absI
          · rw [Int.mul_one, if_neg (by omega)]
          · rw [Int.mul_neg, Int.mul_one]
            split <;> omega
        rw [e9]
        have := Int.mul_le_mul_of_nonneg_left hv1 (show 0 ≤ b - 1 by omega)
        omega⟩
      exact q k d _ pp _ hpt (k10.none_of s9.d hpp) (k10.trans (Keep.new hpp)) ((s9.d.same (same_new hpp _)).le (by omega)) upd_same
theorem top_bd {k t : Nat} {d : Int} (h1 : 1 ≤ t) (h2 : t ≤ k) (lo : 2 ^ (k - 1) ≤ d) (hi : d < 2 ^ k) : 2 ^ (t - 1) ≤ d / 2 ^ (k - t) ∧ d / 2 ^ (k - t) < 2 ^ t := by
  have hp := two_pos (k - t)
  have e1 : (2 : Int) ^ (k - 1) = 2 ^ (t - 1) * 2 ^ (k - t) := by rw [← Int.pow_add]; congr 1; omega
  have e2 : (2 : Int) ^ k = 2 ^ t * 2 ^ (k - t) := by rw [← Int.pow_add]; congr 1; omega
  rw [Int.le_ediv_iff_mul_le hp, Int.ediv_lt_iff_lt_mul hp]
  omega
structure Oth (H : Hp) (t p : Nat) (s u l : Int) (o sp cp : Addr) (t' p' : Nat) (s' u' l' c : Int) : Prop where
  ho : H o = some (.tup [.ref sp, .int s', .ref cp])
  hs : H sp = some (.tup [.int (t' : Int), .int (p' : Int)])
  hc : H cp = some (.tup [.int u', .int l'])
  w : Within t p s u l t' p' s' u' l' c
  tb : t' ≤ 100 ∧ p' ≤ 100 ∧ 1 ≤ u' ∧ u' < 2 ^ 40 ∧ -(2 ^ 45) < l' ∧ l' < 2 ^ 45 ∧ 0 ≤ s' ∧ s' ≤ 2
def Others (H : Hp) (t p : Nat) (s u l : Int) (v : V) : Prop := ∃ o sp cp t' p' s' u' l' c, v = .ref o ∧ Oth H t p s u l o sp cp t' p' s' u' l' c
theorem Others.same {H H' : Hp} {t p : Nat} {s u l : Int} {v : V} (e : Same H H') (h : Others H t p s u l v) : Others H' t p s u l v := by
  obtain ⟨o, sp, cp, t', p', s', u', l', c, rfl, x⟩ := h
  exact ⟨o, sp, cp, t', p', s', u', l', c, rfl, ⟨e _ _ x.ho, e _ _ x.hs, e _ _ x.hc, x.w, x.tb⟩⟩
def sp__law_within (K : PySem.W.Frag) : Sp := fun vs H Q _ => ∃ (kp lp cp op : Addr) (b m s u l : Int) (t p : Nat) (xs : List V), vs = [.ref kp, .ref lp, .int s, .ref cp, .ref op] ∧ SqT K H kp [.int b, .int m] ∧ SqT K H lp [.int (t : Int), .int (p : Int)] ∧ SqT K H cp [.int u, .int l] ∧ H op = some (.lst xs) ∧ (∀ x ∈ xs, Others H t p s u l x) ∧ Kd b m ∧ t ≤ 100 ∧ p ≤ 100 ∧ 1 ≤ u ∧ u < 2 ^ 40 ∧ -(2 ^ 45) < l ∧ l < 2 ^ 45 ∧ 0 ≤ s ∧ s ≤ 2 ∧ ∀ H', Same H H' → Q (.bl true) H'
theorem ok__law_within (T : Txt K mg) : FnOk P w K mg base CX0 4 T.a__law_within T.fd__law_within ["kind", "looks", "sight", "cell", "others"] (sp__law_within K) := by
  refine T.F__law_within.ok sc__law_within (fun vs H Q E h => ?_) (fun cdv A outer s H vs Q E hr h => ?_)
  · obtain ⟨kp, lp, cp, op, b, m, s, u, l, t, p, xs, rfl, _⟩ := h
    rfl
  obtain ⟨kp, lp, cp, op, b, m, s, u, l, t, p, xs, rfl, hk, hl, hc, ho, hxs, hkd, ht, hp, hu0, hu, hl0, hl1, hs0, hs1, q⟩ := h
  refine ⟨_, (pss_cons (ps_set (i := 5) sc__law_within.nd rfl (Or.inl rfl) (pe_call (ok_good_figures T) (hr.mono (by first | decide | omega)) rfl T.m_good_figures T.F_good_figures.kp T.b_good_figures .nil pass0 (pa_cons (pv 0) (pa_cons (pv 1) (pa_cons (pv 2) (pa_cons (pv 3) pa_nil))))))
      (pss_cons (ps_set (i := 6) sc__law_within.nd rfl (Or.inl rfl) (pe_call (ok_is_met T) (hr.mono (by first | decide | omega)) rfl T.m_is_met T.F_is_met.kp T.b_is_met .nil pass0 (pa_cons (pv 0) (pa_cons (pv 1) (pa_cons (pv 2) (pa_cons (pv 3) pa_nil))))))
      (pss_cons (ps_for PassesOwn.never rfl (pi_list (pv 4)) (pg_tup rfl (pgs_cons (pg_name (i := 7) sc__law_within.nd rfl (Or.inl rfl)) (pgs_cons (pg_name (i := 8) sc__law_within.nd rfl (Or.inl rfl)) (pgs_cons (pg_name (i := 9) sc__law_within.nd rfl (Or.inl rfl)) pgs_nil)))) (pss_cons (ps_if (PW.pt (pw_and (pt_val (pe_call (ok_is_met T) (hr.mono (by first | decide | omega)) rfl T.m_is_met T.F_is_met.kp T.b_is_met .nil pass0 (pa_cons (pv 0) (pa_cons (pv 7) (pa_cons (pv 8) (pa_cons (pv 9) pa_nil)))))) (pw_and1 (pt_not (pt_val (pv 6)))))) (pss_one (ps_ret pe_bl)) pss_nil)
      (pss_cons (ps_set (i := 10) sc__law_within.nd rfl (Or.inr rfl) (pe_call (ok_good_figures T) (hr.mono (by first | decide | omega)) rfl T.m_good_figures T.F_good_figures.kp T.b_good_figures .nil pass0 (pa_cons (pv 0) (pa_cons (pv 7) (pa_cons (pv 8) (pa_cons (pv 9) pa_nil))))))
      (pss_one (ps_if (PW.pt (pw_and (pt_val (pv 6)) (pw_and1 (pt_cmpR (op_neD hr.units) (pe_lc (own := [("figure", 11)]) (g := (gName 11)) rfl sc__law_within.nd (pi_list (pv 5)) (blkOk_by (own := [("figure", 11)]) (N := ["kind", "looks", "sight", "cell", "others", "good", "met", "some", "seen", "other", "there", "figure"]) (sc := defScope s__law_within) (by decide +kernel)) (fun _ _ _ _ _ => (pg_name (i := 11) sc__law_within.nd rfl (Or.inl rfl))) (fun _ _ _ _ _ => (pts_one (pt_cmpR (show OpR _ _ (rIn K true) from op_notIn_seq) (pv 11) (pv 10) (by rfl)))) (fun _ _ _ _ _ => (pv 11))) (pe_lst pa_nil) (nomark _))))) (pss_one (ps_ret pe_bl)) pss_nil)))))
      (pss_one (ps_ret pe_bl))))), ?_⟩
  have bd := hkd.bd
  walk_at "rs"
  refine ⟨kp, lp, cp, b, m, s, u, l, t, p, rfl, hk, hl, hc, hkd, ht, hp, hu0, hu, hl0, hl1, hs0, hs1, fun gd H1 s1 hgd h1 => ?_⟩
  walk_at "rs"
  refine ⟨kp, lp, cp, b, m, s, u, l, t, p, rfl, sameT s1 hk, sameT s1 hl, sameT s1 hc, hkd, ht, hp, by omega, hu, fun H2 s2 => ?_⟩
  have h2 := s2 _ _ h1
  have s2 := s1.trans s2
  walk_at "rs"
  refine ⟨⟨_, SqL.of (s2 _ _ ho)⟩, for_list (xs := xs) (fun i σ H' => Same H2 H' ∧ ∃ t7 t8 t9 t10 t11 : Option V, σ = [some (.ref kp), some (.ref lp), some (.int s), some (.ref cp), some (.ref op), some (.ref gd), some (.bl (metB b m t p s u l)), t7, t8, t9, t10, t11]) ⟨fun _ _ e => e, _, _, _, _, _, rfl⟩ (fun i σ H' _ e => SqL.of (e.1 _ _ (s2 _ _ ho))) ?_ ?_⟩
  · rintro i x σ H3 hx ⟨s3, t7, t8, t9, t10, t11, rfl⟩
    have s3' := s2.trans s3
    obtain ⟨o, sp, cp', t', p', s', u', l', c, rfl, ⟨ho3, hs3, hc3, w, tb1, tb2, tb3, tb4, tb5, tb6, tb7, tb8⟩⟩ := (hxs x (List.mem_of_getElem? hx)).same s3'
    have hk3 := sameT s3' hk
    walk_at "rs"
    refine ⟨kp, sp, cp', b, m, s', u', l', t', p', rfl, hk3, SqT.of hs3, SqT.of hc3, hkd, tb1, tb2, by omega, tb4, fun H4 s4 => ?_⟩
    walk_at "rs"
    have hk4 := sameT s4 hk3
    have hs4 := s4 _ _ hs3
    have hc4 := s4 _ _ hc3
    have h4 := s4 _ _ (s3 _ _ h2)
    obtain ⟨mt, hmt⟩ : ∃ mt, mt = metB b m t p s u l := ⟨_, rfl⟩
    rw [← hmt]
    refine ite2 (fun c => ?_) (fun c => ?_)
    · have c5 : mt = true := by rw [hmt]; exact w.met (by omega) (by omega) c
      subst c5
      walk_at "go"
      refine ⟨kp, sp, cp', b, m, s', u', l', t', p', rfl, hk4, SqT.of hs4, SqT.of hc4, hkd, tb1, tb2, tb3, tb4, tb5, tb6, tb7, tb8, fun th H5 s5 hth h5 => ?_⟩
      walk_at "go"
      refine ⟨⟨_, SqL.of (s5 _ _ h4)⟩, fun D hD => lc_list (K := K) (a := gd) (xs := (goodL b m t p s u l).map V.int) (fun i H' => Same H5 H' ∧ H' D = some (.lst [])) ⟨same_new hD _, upd_same⟩ (fun i H' _ e => SqL.of (e.1 _ _ (s5 _ _ h4))) ?_ ?_⟩
      · rintro i x H6 hx ⟨s6, h6⟩
        obtain ⟨f, rfl, hf⟩ := map_at hx
        have hin := inV_mem (w.sub (m := m) (b := b) (by omega) hmt.symm f (List.mem_of_getElem? hf))
        walk_at "rs"
        refine ⟨th, _, rfl, .inl (SqL.of (s6 _ _ h5)), rfl, flat_all _, ?_⟩
        rw [hin]
        walk_at "rs"
        first | exact ⟨s6, h6⟩ | exact h6
      · rintro H6 ⟨s6, h6⟩
        walk_at "rs"
        refine ⟨by show 0 ≤ sizeLine; decide, fun z hz => ?_⟩
        have s7 := same_new hz (.lst [])
        refine neD_same (d := .list []) (.lst (SqL.of (s7 _ _ h6)) .nil) (.lst (SqL.of upd_same) .nil) (shaped_ints []) ?_
        walk_at "rs"
        exact ⟨s3.trans (s4.trans (s5.trans (s6.trans s7))), _, _, _, _, _, rfl⟩
    · cases mt with
      | false =>
        walk_at "go"
        refine ⟨kp, sp, cp', b, m, s', u', l', t', p', rfl, hk4, SqT.of hs4, SqT.of hc4, hkd, tb1, tb2, tb3, tb4, tb5, tb6, tb7, tb8, fun th H5 s5 hth h5 => ?_⟩
        walk_at "go"
        exact ⟨s3.trans (s4.trans s5), _, _, _, _, _, rfl⟩
      | true =>
        walk_at "go"
        refine ⟨kp, sp, cp', b, m, s', u', l', t', p', rfl, hk4, SqT.of hs4, SqT.of hc4, hkd, tb1, tb2, tb3, tb4, tb5, tb6, tb7, tb8, fun th H5 s5 hth h5 => ?_⟩
        walk_at "go"
        refine ⟨⟨_, SqL.of (s5 _ _ h4)⟩, fun D hD => lc_list (K := K) (a := gd) (xs := (goodL b m t p s u l).map V.int) (fun i H' => Same H5 H' ∧ H' D = some (.lst [])) ⟨same_new hD _, upd_same⟩ (fun i H' _ e => SqL.of (e.1 _ _ (s5 _ _ h4))) ?_ ?_⟩
        · rintro i x H6 hx ⟨s6, h6⟩
          obtain ⟨f, rfl, hf⟩ := map_at hx
          have hin := inV_mem (w.sub (m := m) (b := b) (by omega) hmt.symm f (List.mem_of_getElem? hf))
          walk_at "rs"
          refine ⟨th, _, rfl, .inl (SqL.of (s6 _ _ h5)), rfl, flat_all _, ?_⟩
          rw [hin]
          walk_at "rs"
          first | exact ⟨s6, h6⟩ | exact h6
        · rintro H6 ⟨s6, h6⟩
          walk_at "rs"
          refine ⟨by show 0 ≤ sizeLine; decide, fun z hz => ?_⟩
          have s7 := same_new hz (.lst [])
          refine neD_same (d := .list []) (.lst (SqL.of (s7 _ _ h6)) .nil) (.lst (SqL.of upd_same) .nil) (shaped_ints []) ?_
          walk_at "rs"
          exact ⟨s3.trans (s4.trans (s5.trans (s6.trans s7))), _, _, _, _, _, rfl⟩
  · rintro σ H3 ⟨s3, t7, t8, t9, t10, t11, rfl⟩
    exact q _ (s2.trans s3)
theorem Others.mut {H : Hp} {t p : Nat} {s u l : Int} {v : V} {D : Addr} {acc acc' : List V} (hD : H D = some (.lst acc)) (h : Others H t p s u l v) : Others (upd H D (.lst acc')) t p s u l v := by
  obtain ⟨o, sp, cp, t', p', s', u', l', c, rfl, x⟩ := h
  have n : ∀ {z : Addr} {ys : List V}, H z = some (.tup ys) → z ≠ D := fun hz e => by
    rw [e, hD] at hz
    cases hz
  exact ⟨o, sp, cp, t', p', s', u', l', c, rfl, ⟨by rw [upd_ne (n x.ho)]; exact x.ho, by rw [upd_ne (n x.hs)]; exact x.hs, by rw [upd_ne (n x.hc)]; exact x.hc, x.w, x.tb⟩⟩
theorem Others.keep {H H' : Hp} {t p : Nat} {s u l : Int} {v : V} {a : Addr} {n : Nat} (d : Deck H a n) (k : Keep a H H') (h : Others H t p s u l v) : Others H' t p s u l v := by
  obtain ⟨o, sp, cp, t', p', s', u', l', c, rfl, x⟩ := h
  exact ⟨o, sp, cp, t', p', s', u', l', c, rfl, ⟨k _ _ (deck_tup_ne d x.ho) x.ho, k _ _ (deck_tup_ne d x.hs) x.hs, k _ _ (deck_tup_ne d x.hc) x.hc, x.w, x.tb⟩⟩
theorem Others.mk3 {H : Hp} {t p t' p' : Nat} {s u l s' u' l' c : Int} {a1 a3 o : Addr} (h1 : H a1 = none) (h3 : upd H a1 (.tup [.int (t' : Int), .int (p' : Int)]) a3 = none) (h0 : upd (upd H a1 (.tup [.int (t' : Int), .int (p' : Int)])) a3 (.tup [.int u', .int l']) o = none) (w : Within t p s u l t' p' s' u' l' c)
    (tb : t' ≤ 100 ∧ p' ≤ 100 ∧ 1 ≤ u' ∧ u' < 2 ^ 40 ∧ -(2 ^ 45) < l' ∧ l' < 2 ^ 45 ∧ 0 ≤ s' ∧ s' ≤ 2) : Others (upd (upd (upd H a1 (.tup [.int (t' : Int), .int (p' : Int)])) a3 (.tup [.int u', .int l'])) o (.tup [.ref a1, .int s', .ref a3])) t p s u l (.ref o) :=
  ⟨o, a1, a3, t', p', s', u', l', c, rfl, ⟨upd_same, (same_new h0 _) _ _ ((same_new h3 _) _ _ upd_same), (same_new h0 _) _ _ upd_same, w, tb⟩⟩
def sp_law (K : PySem.W.Frag) : Sp := fun vs H Q _ => ∃ (a : Addr) (ns : List Int), vs = [.ref a] ∧ SqL K H a (ns.map V.int) ∧ ns.length ≤ 63 ∧ (∀ z ∈ ns, Builtin.Int.intBits z ≤ 1048576) ∧ ∀ H', Q (.bl true) H'
set_option maxHeartbeats 0 in
theorem ok_law (T : Txt K mg) : FnOk P w K mg base CX0 5 T.a_law T.fd_law ["script"] (sp_law K) := by
  refine T.F_law.ok sc_law (fun vs H Q E h => ?_) (fun cdv A outer s H vs Q E hr h => ?_)
  · obtain ⟨a, ns, rfl, _⟩ := h
    rfl
  obtain ⟨sa, ns, rfl, hS, h63, hbits, q⟩ := h
  refine ⟨_, (pss_cons (ps_set (i := 1) sc_law.nd rfl (Or.inl rfl) (pe_call (ok__law_deck T) (hr.mono (by first | decide | omega)) rfl T.m__law_deck T.F__law_deck.kp T.b__law_deck .nil pass0 (pa_cons (pe_ix ix_list (pe_op op_catR (pv 0) (pe_lst (pa_cons pe_int pa_nil))) pe_int (fun _ _ => rfl)) (pa_cons pe_int pa_nil))))
      (pss_cons (ps_set (i := 2) sc_law.nd rfl (Or.inl rfl) (pe_call (ok__law_kind T) (hr.mono (by first | decide | omega)) rfl T.m__law_kind T.F__law_kind.kp T.b__law_kind .nil pass0 (pa_cons (pv 1) pa_nil)))
      (pss_cons (ps_set (i := 3) sc_law.nd rfl (Or.inl rfl) (pe_call (ok__law_looks T) (hr.mono (by first | decide | omega)) rfl T.m__law_looks T.F__law_looks.kp T.b__law_looks .nil pass0 (pa_cons (pv 1) pa_nil)))
      (pss_cons (ps_asg (pv 3) (pg_tup rfl (pgs_cons (pg_name (i := 4) sc_law.nd rfl (Or.inr rfl)) (pgs_cons (pg_name (i := 5) sc_law.nd rfl (Or.inr rfl)) pgs_nil))))
      (pss_cons (ps_set (i := 6) sc_law.nd rfl (Or.inr rfl) (pe_op op_add pe_int (pe_call (ok__law_pick T) (hr.mono (by first | decide | omega)) rfl T.m__law_pick T.F__law_pick.kp T.b__law_pick .nil pass0 (pa_cons (pv 1) (pa_cons pe_int pa_nil)))))
      (pss_cons (ps_for PassesOwn.never rfl (pi_list (pe_op op_catR (pe_slice sl_list (pv 0) (po_some pe_int) (po_some pe_int)) (pe_lst (pa_cons pe_int pa_nil)))) (pg_name (i := 7) sc_law.nd rfl (Or.inl rfl)) (pss_cons (ps_set (i := 1) sc_law.nd rfl (Or.inl rfl) (pe_call (ok__law_deck T) (hr.mono (by first | decide | omega)) rfl T.m__law_deck T.F__law_deck.kp T.b__law_deck .nil pass0 (pa_cons (pv 7) (pa_cons pe_int pa_nil))))
      (pss_cons (ps_asg (pe_call (ok__law_point T) (hr.mono (by first | decide | omega)) rfl T.m__law_point T.F__law_point.kp T.b__law_point .nil pass0 (pa_cons (pv 1) (pa_cons (pv 2) (pa_cons (pv 3) pa_nil)))) (pg_tup rfl (pgs_cons (pg_name (i := 8) sc_law.nd rfl (Or.inl rfl)) (pgs_cons (pg_name (i := 9) sc_law.nd rfl (Or.inl rfl)) (pgs_cons (pg_name (i := 10) sc_law.nd rfl (Or.inl rfl)) pgs_nil)))))
      (pss_cons (ps_set (i := 11) sc_law.nd rfl (Or.inr rfl) (pe_op op_fdivW (pv 9) (pe_op op_oneShl pe_int (pe_op op_subN (pv 8) (pv 4)))))
      (pss_cons (ps_set (i := 12) sc_law.nd rfl (Or.inr rfl) (pe_op op_sub (pe_op op_add (pe_op op_fdivW (pv 10) (pe_op op_oneShl pe_int (pe_op op_subN (pv 8) (pv 5)))) (pe_call (ok__law_pick T) (hr.mono (by first | decide | omega)) rfl T.m__law_pick T.F__law_pick.kp T.b__law_pick .nil pass0 (pa_cons (pv 1) (pa_cons pe_int pa_nil)))) pe_int))
      (pss_cons (ps_set (i := 12) sc_law.nd rfl (Or.inr rfl) (pe_callB (call_max2 rfl) (by rfl) T.z_max (by decide +kernel) (pa_cons (pe_op op_sub pe_int (pe_call (ok__law_half T) (hr.mono (by first | decide | omega)) rfl T.m__law_half T.F__law_half.kp T.b__law_half .nil pass0 (pa_cons (pv 2) (pa_cons (pv 3) pa_nil)))) (pa_cons (pe_callB (call_min2 rfl) (by rfl) T.z_min (by decide +kernel) (pa_cons (pe_op op_sub (pe_call (ok__law_half T) (hr.mono (by first | decide | omega)) rfl T.m__law_half T.F__law_half.kp T.b__law_half .nil pass0 (pa_cons (pv 2) (pa_cons (pv 3) pa_nil))) pe_int) (pa_cons (pv 12) pa_nil))) pa_nil))))
      (pss_cons (ps_set (i := 13) sc_law.nd rfl (Or.inl rfl) (pe_tup (pa_cons (pv 11) (pa_cons (pe_op op_sub (pe_op op_sub pe_int (pv 6)) (pv 12)) pa_nil))))
      (pss_cons (ps_set (i := 14) sc_law.nd rfl (Or.inl rfl) (pe_call (ok_good_figures T) (hr.mono (by first | decide | omega)) rfl T.m_good_figures T.F_good_figures.kp T.b_good_figures .nil pass0 (pa_cons (pv 2) (pa_cons (pv 3) (pa_cons (pv 6) (pa_cons (pe_tup (pa_cons (pv 11) (pa_cons (pv 12) pa_nil))) pa_nil))))))
      (pss_cons (ps_if (pt_cmpR op_ne (pe_call (ok_is_met T) (hr.mono (by first | decide | omega)) rfl T.m_is_met T.F_is_met.kp T.b_is_met .nil pass0 (pa_cons (pv 2) (pa_cons (pv 3) (pa_cons (pv 6) (pa_cons (pv 13) pa_nil))))) (pe_call (ok_is_met T) (hr.mono (by first | decide | omega)) rfl T.m_is_met T.F_is_met.kp T.b_is_met .nil pass0 (pa_cons (pv 2) (pa_cons (pv 3) (pa_cons (pv 6) (pa_cons (pe_tup (pa_cons (pv 11) (pa_cons (pv 12) pa_nil))) pa_nil))))) (nomark _)) (pss_one (ps_ret pe_bl)) pss_nil)
      (pss_cons (ps_if (pt_cmpR (op_neD hr.units) (pe_call (ok_good_figures T) (hr.mono (by first | decide | omega)) rfl T.m_good_figures T.F_good_figures.kp T.b_good_figures .nil pass0 (pa_cons (pv 2) (pa_cons (pv 3) (pa_cons (pv 6) (pa_cons (pv 13) pa_nil))))) (pe_lc (own := [("figure", 17)]) (g := (gName 17)) (tt := tYes) rfl sc_law.nd (pi_list (pe_revL (pv 14))) (blkOk_by (own := [("figure", 17)]) (N := ["script", "deck", "kind", "looks", "tops", "parts", "sight", "cell", "wide", "divisor", "rest", "top", "look", "other", "good", "others", "k", "figure"]) (sc := defScope s_law) (by decide +kernel)) (fun _ _ _ _ _ => (pg_name (i := 17) sc_law.nd rfl (Or.inl rfl))) (fun _ _ _ _ _ => pts_nil) (fun _ _ _ _ _ => (pe_op op_sub pe_int (pv 17)))) (nomark _)) (pss_one (ps_ret pe_bl)) pss_nil)
      (pss_cons (ps_setLc (i := 15) (own := [("k", 16)]) (g := (gName 16)) (tt := tYes) rfl sc_law.nd rfl rfl (sw_true rfl rfl rfl (by decide +kernel)) (pi_range1 (by rfl) T.z_range (pa_cons pe_int pa_nil)) (blkOk_by (own := [("k", 16)]) (N := ["script", "deck", "kind", "looks", "tops", "parts", "sight", "cell", "wide", "divisor", "rest", "top", "look", "other", "good", "others", "k", "figure"]) (sc := defScope s_law) (by decide +kernel)) (fun _ _ _ _ _ => (pg_name (i := 16) sc_law.nd rfl (Or.inl rfl))) (fun _ _ _ _ _ => pts_nil) (fun _ _ _ _ _ => (pe_tup (pa_cons (pe_tup (pa_cons (pe_op op_addN (pv 4) pe_int) (pa_cons (pv 5) pa_nil))) (pa_cons (pv 6) (pa_cons (pe_tup (pa_cons (pe_op op_add (pe_op op_mul pe_int (pv 11)) (pv 16)) (pa_cons (pv 12) pa_nil))) pa_nil))))))
      (pss_cons (ps_set (i := 15) sc_law.nd rfl (Or.inl rfl) (pe_op op_cat (pv 15) (pe_lc (own := [("k", 16)]) (g := (gName 16)) (tt := tYes) rfl sc_law.nd (pi_range1 (by rfl) T.z_range (pa_cons (pe_op op_add pe_int (pv 6)) pa_nil)) (blkOk_by (own := [("k", 16)]) (N := ["script", "deck", "kind", "looks", "tops", "parts", "sight", "cell", "wide", "divisor", "rest", "top", "look", "other", "good", "others", "k", "figure"]) (sc := defScope s_law) (by decide +kernel)) (fun _ _ _ _ _ => (pg_name (i := 16) sc_law.nd rfl (Or.inl rfl))) (fun _ _ _ _ _ => pts_nil) (fun _ _ _ _ _ => (pe_tup (pa_cons (pe_tup (pa_cons (pv 4) (pa_cons (pe_op op_addN (pv 5) pe_int) pa_nil))) (pa_cons (pv 6) (pa_cons (pe_tup (pa_cons (pv 11) (pa_cons (pe_op op_add (pe_op op_mul pe_int (pv 12)) (pv 16)) pa_nil))) pa_nil))))))))
      (pss_cons (ps_expr (pe_bm PySem.F.plainAttrs_list PySem.F.slot_list_append PySem.F.type_list_append mt_append (pv 15) (pa_cons (pe_tup (pa_cons (pv 3) (pa_cons pe_int (pa_cons (pe_tup (pa_cons (pv 11) (pa_cons (pe_op op_add (pv 12) (pe_call (ok__law_pick T) (hr.mono (by first | decide | omega)) rfl T.m__law_pick T.F__law_pick.kp T.b__law_pick .nil pass0 (pa_cons (pv 1) (pa_cons (pv 6) pa_nil)))) pa_nil))) pa_nil)))) pa_nil)))
      (pss_one (ps_if (pt_not (pt_val (pe_call (ok__law_within T) (hr.mono (by first | decide | omega)) rfl T.m__law_within T.F__law_within.kp T.b__law_within .nil pass0 (pa_cons (pv 2) (pa_cons (pv 3) (pa_cons (pv 6) (pa_cons (pe_tup (pa_cons (pv 11) (pa_cons (pv 12) pa_nil))) (pa_cons (pv 15) pa_nil)))))))) (pss_one (ps_ret pe_bl)) pss_nil)))))))))))))))
      (pss_one (ps_ret pe_bl)))))))), ?_⟩
  walk_at "rd"
  refine ⟨by show 1 ≤ sizeLine; decide, fun z1 hz1 => ?_⟩
  refine ⟨sa, z1, _, _, rfl, rfl, (same_new hz1 _).seq hS, SqL.of upd_same, cat_line h63, fun z2 hz2 => ?_⟩
  obtain ⟨c0, hc0⟩ := head0 ns
  refine ⟨z2, _, 0, _, rfl, rfl, SqL.of upd_same, hc0, ?_⟩
  refine ⟨_, _, 0, rfl, by decide, by decide, fun a H1 ha1 e1 d1 => ?_⟩
  have s1 : S a 0 H1 [Scr K a sa (ns.map V.int)] := ⟨d1, scr_of ((same_new hz2 _).seq ((same_new hz1 _).seq hS)) ha1 e1, trivial⟩
  clear e1 d1 ha1 hz1 hz2 hc0
  walk_at "rs"
  refine ⟨a, 0, rfl, s1.d, by omega, fun kp b m H2 k2 d2 hk2 hb hmb hmm => ?_⟩
  have hkd : Kd b m := ⟨hb, by omega, hmm⟩
  have bd := hkd.bd
  have s2 : S a 2 H2 [At a kp (.tup [.int b, .int m]), Scr K a sa (ns.map V.int)] := (s1.keep k2 d2).add ⟨deck_tup_ne d2 hk2, hk2⟩
  clear k2 d2 hk2 s1
  walk_at "rs"
  refine ⟨a, _, rfl, s2.d, by omega, fun lp t p H3 k3 d3 hl3 ht ht2 hp => ?_⟩
  have s3 := (s2.keep k3 d3).add (f := At a lp (.tup [.int (t : Int), .int (p : Int)])) ⟨deck_tup_ne d3 hl3, hl3⟩
  clear k3 d3 hl3 s2
  walk_at "rs"
  walk_at "pick"
  intro v4 H4 v40 v41 k4 s4
  walk_at "rs"
  obtain ⟨cs, hcs, hcl⟩ := cut_ints ns (some 1) (some 13)
  refine ⟨sa, _, rfl, s4.scr (by walk_at "mem"), fun p1 hp1 => ?_⟩
  rw [hcs]
  refine ⟨by show 1 ≤ sizeLine; decide, fun p2 hp2 => ?_⟩
  have q1 := same_new hp1 (.lst (cs.map V.int))
  have q2 := same_new hp2 (.lst [.int 0])
  refine ⟨p1, p2, cs.map V.int, [.int 0], rfl, rfl, SqL.of (q2 _ _ upd_same), SqL.of upd_same, cat_line (by omega), fun p3 hp3 => ?_⟩
  have q3 := same_new hp3 (.lst (cs.map V.int ++ [.int 0]))
  have qq := q1.trans (q2.trans q3)
  have hk8 := qq _ _ (s4.at_ (p := kp) (by walk_at "mem"))
  have hl8 := qq _ _ (s4.at_ (p := lp) (by walk_at "mem"))
  have h38 := new_at hp3 (.lst (cs.map V.int ++ [.int 0]))
  rw [cat0] at h38 hk8 hl8 ⊢
  obtain ⟨sg, hsg⟩ : ∃ sg : Int, sg = 1 + v4 := ⟨_, rfl⟩
  refine ⟨p3, rfl, ⟨_, SqL.of h38⟩, for_list (xs := (cs ++ [0]).map V.int) (fun i σ H' => H' p3 = some (.lst ((cs ++ [0]).map V.int)) ∧ H' kp = some (.tup [.int b, .int m]) ∧ H' lp = some (.tup [.int (t : Int), .int (p : Int)]) ∧ ∃ t1 t7 t8 t9 t10 t11 t12 t13 t14 t15 t16 t17 : Option V, σ = [some (.ref sa), t1, some (.ref kp), some (.ref lp), some (.int (t : Int)), some (.int (p : Int)), some (.int sg), t7, t8, t9, t10, t11, t12, t13, t14, t15, t16, t17])
      ⟨h38, hk8, hl8, _, _, _, _, _, _, _, _, _, _, _, _, by rw [hsg]; rfl⟩ (fun i σ H' _ e => SqL.of e.1) ?_ ?_⟩
  · rintro i x σ H9 hx ⟨h9, hk9, hl9, t1, t7, t8, t9, t10, t11, t12, t13, t14, t15, t16, t17, rfl⟩
    obtain ⟨cell, rfl, _⟩ := map_at hx
    have hsg1 : 1 ≤ sg ∧ sg ≤ 2 := by omega
    clear h38 hk8 hl8 qq q1 q2 q3 s4 s3 k4 hsg v40 v41 v4
    walk_at "rs"
    refine ⟨cell, 130, 130, rfl, by decide, by decide, fun a2 H10 ha2 e10 d10 => ?_⟩
    have s10 : S a2 130 H10 [At a2 kp (.tup [.int b, .int m]), At a2 lp (.tup [.int (t : Int), .int (p : Int)])] := ⟨d10, ⟨ne_of_none hk9 ha2, e10 _ _ hk9⟩, ⟨ne_of_none hl9 ha2, e10 _ _ hl9⟩, trivial⟩
    have s10' := s10.add (f := At a2 p3 (.lst ((cs ++ [0]).map V.int))) ⟨ne_of_none h9 ha2, e10 _ _ h9⟩
    clear h9 hk9 hl9
    walk_at "rs"
    refine ⟨a2, kp, lp, 130, b, m, t, p, rfl, s10, by omega, hkd, by omega, by omega, by omega, fun k d r pp H11 pt hpp k11 d11 h11 => ?_⟩
    have s11 := s10'.keep k11 d11
    clear s10 s10' e10 d10
    have h5 := pt.tk
    have h6 := pt.pk
    have h7 := pt.kb
    have tb := top_bd ht h5 pt.lo pt.hi
    have p1 := two_pos (t - 1)
    have p2 := pow_le (n := t) (k := 10) (by omega)
    have p3' := two_pos p
    have p4 := pow_le (n := p) (k := 10) (by omega)
    have hh : 2 ≤ b * 2 ^ p ∧ b * 2 ^ p ≤ 16384 := by
      have h8 : b * 2 ^ p ≤ 16 * 2 ^ p := Int.mul_le_mul_of_nonneg_right (by omega) (by omega)
      have h9 : 2 * 2 ^ p ≤ b * 2 ^ p := Int.mul_le_mul_of_nonneg_right (by omega) (by omega)
      omega
    walk_at "rs"
    refine ⟨div2 (by omega), ?_⟩
    walk_at "rs"
    refine ⟨div2 (by omega), ?_⟩
    walk_at "rs"
    walk_at "pick"
    intro v12 H12 v120 v121 k12 s12
    walk_at "rs"
    refine ⟨kp, lp, b, m, _, p, rfl, SqT.of (s12.at_ (by walk_at "mem")), SqT.of (s12.at_ (by walk_at "mem")), hkd, by omega, fun H13 e13 => ?_⟩
    have s13 := s12.same e13
    walk_at "rs"
    refine ⟨kp, lp, b, m, _, p, rfl, SqT.of (s13.at_ (by walk_at "mem")), SqT.of (s13.at_ (by walk_at "mem")), hkd, by omega, fun H14 e14 => ?_⟩
    have s14 := s13.same e14
    clear s13 s12 s11 e13 e14 k12 d11
    walk_at "rs"
    obtain ⟨l, hl, hlb1, hlb2⟩ : ∃ l : Int, (l = if (if (r / 2 ^ (k - p) + v12 - 1) < (b * 2 ^ p + 2 - 3) then (r / 2 ^ (k - p) + v12 - 1) else (b * 2 ^ p + 2 - 3)) > 1 - (b * 2 ^ p + 2) then (if (r / 2 ^ (k - p) + v12 - 1) < (b * 2 ^ p + 2 - 3) then (r / 2 ^ (k - p) + v12 - 1) else (b * 2 ^ p + 2 - 3)) else 1 - (b * 2 ^ p + 2)) ∧ -20000 ≤ l ∧ l ≤ 20000 := ⟨_, rfl, by split <;> split <;> omega, by split <;> split <;> omega⟩
    rw [← hl]
    obtain ⟨u, hu⟩ : ∃ u : Int, u = d / 2 ^ (k - t) := ⟨_, rfl⟩
    rw [← hu] at tb
    clear hl pt hpp h11 k11
    refine ⟨by show 2 ≤ sizeLine; decide, fun ot hot => ?_⟩
    have s15 := s14.new hot (.tup [.int u, .int (0 - sg - l)])
    rw [hu] at s15
    walk_at "rs"
    refine ⟨by show 2 ≤ sizeLine; decide, fun c1 hc1 => ?_⟩
    have s16 := s15.new hc1 (.tup [.int (d / 2 ^ (k - t)), .int l])
    walk_at "rs"
    refine ⟨kp, lp, c1, b, m, sg, d / 2 ^ (k - t), l, t, p, rfl, SqT.of (s16.at_ (by walk_at "mem")), SqT.of (s16.at_ (by walk_at "mem")), SqT.of (s16.at_ (by walk_at "mem")), hkd, by omega, by omega, by omega, by omega, by omega, by omega, by omega, by omega, fun gd H17 e17 hgd h17 => ?_⟩
    have s17 := (s16.drop.same e17).add (f := At a2 gd (.lst ((goodL b m t p sg (d / 2 ^ (k - t)) l).map V.int))) ⟨s16.d.ne hgd, h17⟩
    clear s14 s15 s16 e17 h17 hgd
    walk_at "rs"
    refine ⟨kp, lp, ot, b, m, sg, d / 2 ^ (k - t), 0 - sg - l, t, p, rfl, SqT.of (s17.at_ (by walk_at "mem")), SqT.of (s17.at_ (by walk_at "mem")), SqT.of (s17.at_ (by walk_at "mem")), hkd, by omega, by omega, by omega, by omega, fun H18 e18 => ?_⟩
    have s18 := s17.same e18
    walk_at "rs"
    refine ⟨by show 2 ≤ sizeLine; decide, fun c2 hc2 => ?_⟩
    have s19 := s18.new hc2 (.tup [.int (d / 2 ^ (k - t)), .int l])
    walk_at "rs"
    refine ⟨kp, lp, c2, b, m, sg, d / 2 ^ (k - t), l, t, p, rfl, SqT.of (s19.at_ (by walk_at "mem")), SqT.of (s19.at_ (by walk_at "mem")), SqT.of (s19.at_ (by walk_at "mem")), hkd, by omega, by omega, by omega, by omega, fun H20 e20 => ?_⟩
    have s20 := s19.drop.same e20
    clear s17 s18 s19 e18 e20
    walk_at "rs"
    refine iteN' (by rw [met_mirror]) ?_
    walk_at "rs"
    refine ⟨kp, lp, ot, b, m, sg, d / 2 ^ (k - t), 0 - sg - l, t, p, rfl, SqT.of (s20.at_ (by walk_at "mem")), SqT.of (s20.at_ (by walk_at "mem")), SqT.of (s20.at_ (by walk_at "mem")), hkd, by omega, by omega, by omega, by omega, by omega, by omega, by omega, by omega, fun g2 H21 e21 hg2 h21 => ?_⟩
    have s21 := (s20.same e21).add (f := At a2 g2 (.lst ((goodL b m t p sg (d / 2 ^ (k - t)) (0 - sg - l)).map V.int))) ⟨s20.d.ne hg2, h21⟩
    clear s20 e21 h21 hg2
    walk_at "rs"
    obtain ⟨gs, hgs⟩ : ∃ gs, gs = goodL b m t p sg (d / 2 ^ (k - t)) l := ⟨_, rfl⟩
    have hgl : gs.length ≤ 100 := by
      have hfl : (figs m).length = (2 * m + 1).toNat := by unfold figs; rw [List.length_map, List.length_range]
      rw [hgs]
      unfold goodL
      split
      · have := List.length_filter_le (goodB b m t p sg (d / 2 ^ (k - t)) l) (figs m)
        omega
      · omega
    rw [goodL_mirror _ _ _ _ _ (by omega), ← hgs] at s21
    have hgd := s21.at_ (p := gd) (by walk_at "mem")
    refine ⟨gd, _, rfl, SqL.of hgd, fun rv hrv => ?_⟩
    have s22 := s21.new hrv (.lst (gs.map V.int).reverse)
    have hrv2 := s22.at_ (p := rv) (by walk_at "mem")
    refine ⟨rv, rfl, ⟨_, SqL.of hrv2⟩, fun D hD => lc_list (K := K) (a := rv) (xs := (gs.map V.int).reverse) (fun i H' => Same (upd H21 rv (.lst (gs.map V.int).reverse)) H' ∧ H' D = some (.lst (((gs.reverse.take i).map fun f => 0 - f).map V.int))) ⟨same_new hD _, upd_same⟩ (fun i H' _ e => SqL.of (e.1 _ _ hrv2)) ?_ ?_⟩
    · rintro i x H22 hx ⟨s23, h23⟩
      rw [← List.map_reverse] at hx
      obtain ⟨f, rfl, hf⟩ := map_at hx
      walk_at "rs"
      refine ⟨_, h23, ?_, same_mut _ s23 hD, ?_⟩
      · rw [List.length_map, List.length_map, List.length_take, List.length_reverse]
        exact small1000 (by omega)
      · rw [upd_same, List.take_add_one, hf]
        simp
    · rintro H22 ⟨s23, h23⟩
      have s24 := s22.drop.same s23
      rw [List.take_of_length_le (by simp)] at h23
      walk_at "rs"
      refine neD_same (dp_ints (s24.at_ (p := g2) (by walk_at "mem"))) (dp_ints h23) (shaped_ints _) ?_
      have s25 := s24.drop.drop.drop
      clear s24 s22 s21 h23 s23
      obtain ⟨U, hU⟩ : ∃ U : Int, U = d / 2 ^ (k - t) := ⟨_, rfl⟩
      rw [← hU] at hu
      subst hu
      walk_at "rs"
      intro D1 hD1
      refine lc_range (lo := 0) (n := 2) (fun i H' => Same H22 H' ∧ ∃ acc, H' D1 = some (.lst acc) ∧ acc.length = i ∧ ∀ x ∈ acc, Others H' t p sg (d / 2 ^ (k - t)) l x) ⟨same_new hD1 _, [], upd_same, rfl, by intro x hx; cases hx⟩ ?_ ?_
      · rintro i H23 hi ⟨s26, acc, h26, hla, hacc⟩
        walk_at "rs"
        refine ⟨by show 2 ≤ sizeLine; decide, fun a1 ha1 => ?_⟩
        walk_at "rs"
        refine ⟨by show 2 ≤ sizeLine; decide, fun a3 ha3 => ?_⟩
        walk_at "rs"
        refine ⟨by show 3 ≤ sizeLine; decide, fun o ho => ?_⟩
        have n1 := same_new ha1 (.tup [.int ((t + 1 : Nat) : Int), .int (p : Int)])
        have n3 := same_new ha3 (.tup [.int (2 * (d / 2 ^ (k - t)) + (0 + (i : Int))), .int l])
        have n0 := same_new ho (.tup [.ref a1, .int sg, .ref a3])
        have nn := n1.trans (n3.trans n0)
        have hDn := nn _ _ h26
        have ox := Others.mk3 (s' := sg) ha1 ha3 ho (within_tops (s := sg) (u := d / 2 ^ (k - t)) (l := l) (t := t) (p := p) (k := 0 + (i : Int)) (by omega) (by omega)) ⟨show t + 1 ≤ 100 by omega, by omega, by omega, by omega, by omega, by omega, by omega, by omega⟩
        refine ⟨acc, hDn, small1000 (by omega), same_mut _ (s26.trans nn) hD1, _, upd_same, by rw [List.length_append, hla]; rfl, fun x hx => ?_⟩
        rcases List.mem_append.mp hx with e | e
        · exact ((hacc x e).same nn).mut hDn
        · rw [List.mem_singleton] at e
          subst e
          exact ox.mut hDn
      · rintro H23 ⟨s26, acc1, h26, hla1, hacc1⟩
        have s27 := s25.same s26
        clear s25 s26
        walk_at "rs"
        intro D2 hD2
        refine lc_range (lo := 0) (n := (1 + sg).toNat) (fun i H' => Same H23 H' ∧ ∃ acc, H' D2 = some (.lst acc) ∧ acc.length = i ∧ ∀ x ∈ acc, Others H' t p sg (d / 2 ^ (k - t)) l x) ⟨same_new hD2 _, [], upd_same, rfl, by intro x hx; cases hx⟩ ?_ ?_
        · rintro i H24 hi ⟨s26, acc, h27, hla, hacc⟩
          walk_at "rs"
          refine ⟨by show 2 ≤ sizeLine; decide, fun a1 ha1 => ?_⟩
          walk_at "rs"
          refine ⟨by show 2 ≤ sizeLine; decide, fun a3 ha3 => ?_⟩
          walk_at "rs"
          refine ⟨by show 3 ≤ sizeLine; decide, fun o ho => ?_⟩
          have n1 := same_new ha1 (.tup [.int (t : Int), .int ((p + 1 : Nat) : Int)])
          have n3 := same_new ha3 (.tup [.int (d / 2 ^ (k - t)), .int (2 * l + (0 + (i : Int)))])
          have n0 := same_new ho (.tup [.ref a1, .int sg, .ref a3])
          have nn := n1.trans (n3.trans n0)
          have hDn := nn _ _ h27
          have ox := Others.mk3 (s' := sg) ha1 ha3 ho (within_parts (s := sg) (u := d / 2 ^ (k - t)) (l := l) (t := t) (p := p) (k := 0 + (i : Int)) (by omega) (by omega)) ⟨by omega, show p + 1 ≤ 100 by omega, by omega, by omega, by omega, by omega, by omega, by omega⟩
          refine ⟨acc, hDn, small1000 (by omega), same_mut _ (s26.trans nn) hD2, _, upd_same, by rw [List.length_append, hla]; rfl, fun x hx => ?_⟩
          rcases List.mem_append.mp hx with e | e
          · exact ((hacc x e).same nn).mut hDn
          · rw [List.mem_singleton] at e
            subst e
            exact ox.mut hDn
        · rintro H24 ⟨s26, acc2, h27, hla2, hacc2⟩
          have s28 := s27.same s26
          refine ⟨D1, D2, acc1, acc2, rfl, rfl, s26 _ _ h26, h27, Nat.le_of_lt (small1000 (by omega)), fun D3 hD3 => ?_⟩
          have e3 := same_new hD3 (.lst (acc1 ++ acc2))
          have s29 := s28.new hD3 (.lst (acc1 ++ acc2))
          have hacc3 : ∀ x ∈ acc1 ++ acc2, Others (upd H24 D3 (.lst (acc1 ++ acc2))) t p sg (d / 2 ^ (k - t)) l x := fun x hx => by
            rcases List.mem_append.mp hx with e | e
            · exact ((hacc1 x e).same s26).same e3
            · exact (hacc2 x e).same e3
          have hlen3 : (acc1 ++ acc2).length ≤ 10 := by rw [List.length_append]; omega
          clear hacc1 hacc2 s27 s26 h26 h27
          generalize acc1 ++ acc2 = acc at *
          walk_at "rs"
          refine ⟨.inl ⟨rfl, _, SqL.of (s29.at_ (p := D3) (.head _))⟩, ?_⟩
          walk_at "rs"
          walk_at "pick"
          intro v30 H30 v300 v301 k30 s30
          walk_at "rs"
          refine ⟨by show 2 ≤ sizeLine; decide, fun a3 ha3 => ?_⟩
          walk_at "rs"
          refine ⟨by show 3 ≤ sizeLine; decide, fun o ho => ?_⟩
          have n3 := same_new ha3 (.tup [.int (d / 2 ^ (k - t)), .int (l + v30)])
          have n0 := same_new ho (.tup [.ref lp, .int 1, .ref a3])
          have nn := n3.trans n0
          have hD30 := nn _ _ (s30.at_ (p := D3) (.head _))
          have ox : Others _ t p sg (d / 2 ^ (k - t)) l (.ref o) := ⟨o, lp, a3, t, p, 1, d / 2 ^ (k - t), l + v30, 1, rfl, ⟨new_at ho _, nn _ _ (s30.at_ (p := lp) (by walk_at "mem")), n0 _ _ (new_at ha3 _), within_one (by omega) (by omega), by omega, by omega, by omega, by omega, by omega, by omega, by omega, by omega⟩⟩
          have hacc4 := fun x hx => ((hacc3 x hx).keep s29.d k30).same nn
          have s31 := (s30.drop.same nn)
          refine ⟨D3, acc, _, rfl, rfl, hD30, small1000 (by omega), ?_⟩
          have kX := (Keep.same (a := a2) e3).trans (k30.trans (Keep.same nn))
          have s32 := s28.keep (kX.mut (o := .lst (acc ++ [.ref o])) hD3) (s31.d.mut (o := .lst (acc ++ [.ref o])) (s28.d.ne hD3))
          have hall : ∀ x ∈ acc ++ [V.ref o], Others (upd _ D3 (.lst (acc ++ [.ref o]))) t p sg (d / 2 ^ (k - t)) l x := fun x hx => by
            rcases List.mem_append.mp hx with e | e
            · exact (hacc4 x e).mut hD30
            · rw [List.mem_singleton] at e
              subst e
              exact ox.mut hD30
          clear s29 s30 s31 s28 hacc3 hacc4 kX k30
          walk_at "rs"
          refine ⟨by show 2 ≤ sizeLine; decide, fun c5 hc5 => ?_⟩
          have n5 := same_new hc5 (.tup [.int (d / 2 ^ (k - t)), .int l])
          have s33 := s32.new hc5 (.tup [.int (d / 2 ^ (k - t)), .int l])
          walk_at "rs"
          refine ⟨kp, lp, c5, D3, b, m, sg, d / 2 ^ (k - t), l, t, p, acc ++ [.ref o], rfl, SqT.of (s33.at_ (by walk_at "mem")), SqT.of (s33.at_ (by walk_at "mem")), SqT.of (s33.at_ (by walk_at "mem")), n5 _ _ upd_same, fun x hx => (hall x hx).same n5, hkd, by omega, by omega, by omega, by omega, by omega, by omega, by omega, by omega, fun H40 e40 => ?_⟩
          have s34 := s33.same e40
          walk_at "rs"
          exact ⟨s34.at_ (by walk_at "mem"), s34.at_ (by walk_at "mem"), s34.at_ (by walk_at "mem"), _, _, _, _, _, _, _, _, _, _, _, _, rfl⟩
  · rintro σ H9 ⟨h9, hk9, hl9, t1, t7, t8, t9, t10, t11, t12, t13, t14, t15, t16, t17, rfl⟩
    exact q _
end
theorem all_mk {l : PySem.W.OpenLaw} {w : World} {K : PySem.W.Frag} {h : Heap} {mg : Str → Option Value} {fa : Addr} (X : K.In h) (G : h.Ns mainGlobals mg) (hfa : mg "law" = some (.ref fa))
    {f0 : Addr} {od0 an0 : Option Addr} {sl0 : Array (Option Value)} {oc0 kV0 dc0 pm0 cd0 ct0 : Value}
    {f1 : Addr} {od1 an1 : Option Addr} {sl1 : Array (Option Value)} {oc1 kV1 dc1 pm1 cd1 ct1 : Value}
    {f2 : Addr} {od2 an2 : Option Addr} {sl2 : Array (Option Value)} {oc2 kV2 dc2 pm2 cd2 ct2 : Value}
    {f3 : Addr} {od3 an3 : Option Addr} {sl3 : Array (Option Value)} {oc3 kV3 dc3 pm3 cd3 ct3 : Value}
    {f4 : Addr} {od4 an4 : Option Addr} {sl4 : Array (Option Value)} {oc4 kV4 dc4 pm4 cd4 ct4 : Value}
    {f5 : Addr} {od5 an5 : Option Addr} {sl5 : Array (Option Value)} {oc5 kV5 dc5 pm5 cd5 ct5 : Value}
    {f6 : Addr} {od6 an6 : Option Addr} {sl6 : Array (Option Value)} {oc6 kV6 dc6 pm6 cd6 ct6 : Value}
    {f7 : Addr} {od7 an7 : Option Addr} {sl7 : Array (Option Value)} {oc7 kV7 dc7 pm7 cd7 ct7 : Value}
    {f8 : Addr} {od8 an8 : Option Addr} {sl8 : Array (Option Value)} {oc8 kV8 dc8 pm8 cd8 ct8 : Value}
    {f9 : Addr} {od9 an9 : Option Addr} {sl9 : Array (Option Value)} {oc9 kV9 dc9 pm9 cd9 ct9 : Value}
    {f10 : Addr} {od10 an10 : Option Addr} {sl10 : Array (Option Value)} {oc10 kV10 dc10 pm10 cd10 ct10 : Value}
    {f11 : Addr} {od11 an11 : Option Addr} {sl11 : Array (Option Value)} {oc11 kV11 dc11 pm11 cd11 ct11 : Value}
    {f12 : Addr} {od12 an12 : Option Addr} {sl12 : Array (Option Value)} {oc12 kV12 dc12 pm12 cd12 ct12 : Value}
    {f13 : Addr} {od13 an13 : Option Addr} {sl13 : Array (Option Value)} {oc13 kV13 dc13 pm13 cd13 ct13 : Value}
    (a0 : PySem.W.nsIn K mainGlobals "met_bounds" = some (some (.ref f0))) (l0 : K.lookup f0 = some ⟨oc0, od0, .func (PySem.W.fnOf "met_bounds" "met_bounds" (defArgs s_met_bounds) (defBody s_met_bounds) (defScope s_met_bounds) .none kV0 dc0 pm0 an0 cd0 ct0), sl0⟩) (c0 : PySem.W.codeIn K cd0 "met_bounds" = true) (k0 : PySem.W.keepIn K (.ref f0) = true)
    (a1 : PySem.W.nsIn K mainGlobals "is_met" = some (some (.ref f1))) (l1 : K.lookup f1 = some ⟨oc1, od1, .func (PySem.W.fnOf "is_met" "is_met" (defArgs s_is_met) (defBody s_is_met) (defScope s_is_met) .none kV1 dc1 pm1 an1 cd1 ct1), sl1⟩) (c1 : PySem.W.codeIn K cd1 "is_met" = true) (k1 : PySem.W.keepIn K (.ref f1) = true)
    (a2 : PySem.W.nsIn K mainGlobals "least_great_enough" = some (some (.ref f2))) (l2 : K.lookup f2 = some ⟨oc2, od2, .func (PySem.W.fnOf "least_great_enough" "least_great_enough" (defArgs s_least_great_enough) (defBody s_least_great_enough) (defScope s_least_great_enough) .none kV2 dc2 pm2 an2 cd2 ct2), sl2⟩) (c2 : PySem.W.codeIn K cd2 "least_great_enough" = true) (k2 : PySem.W.keepIn K (.ref f2) = true)
    (a3 : PySem.W.nsIn K mainGlobals "good_bounds" = some (some (.ref f3))) (l3 : K.lookup f3 = some ⟨oc3, od3, .func (PySem.W.fnOf "good_bounds" "good_bounds" (defArgs s_good_bounds) (defBody s_good_bounds) (defScope s_good_bounds) .none kV3 dc3 pm3 an3 cd3 ct3), sl3⟩) (c3 : PySem.W.codeIn K cd3 "good_bounds" = true) (k3 : PySem.W.keepIn K (.ref f3) = true)
    (a4 : PySem.W.nsIn K mainGlobals "good_figures" = some (some (.ref f4))) (l4 : K.lookup f4 = some ⟨oc4, od4, .func (PySem.W.fnOf "good_figures" "good_figures" (defArgs s_good_figures) (defBody s_good_figures) (defScope s_good_figures) .none kV4 dc4 pm4 an4 cd4 ct4), sl4⟩) (c4 : PySem.W.codeIn K cd4 "good_figures" = true) (k4 : PySem.W.keepIn K (.ref f4) = true)
    (a5 : PySem.W.nsIn K mainGlobals "_law_deck" = some (some (.ref f5))) (l5 : K.lookup f5 = some ⟨oc5, od5, .func (PySem.W.fnOf "_law_deck" "_law_deck" (defArgs s__law_deck) (defBody s__law_deck) (defScope s__law_deck) .none kV5 dc5 pm5 an5 cd5 ct5), sl5⟩) (c5 : PySem.W.codeIn K cd5 "_law_deck" = true) (k5 : PySem.W.keepIn K (.ref f5) = true)
    (a6 : PySem.W.nsIn K mainGlobals "_law_pick" = some (some (.ref f6))) (l6 : K.lookup f6 = some ⟨oc6, od6, .func (PySem.W.fnOf "_law_pick" "_law_pick" (defArgs s__law_pick) (defBody s__law_pick) (defScope s__law_pick) .none kV6 dc6 pm6 an6 cd6 ct6), sl6⟩) (c6 : PySem.W.codeIn K cd6 "_law_pick" = true) (k6 : PySem.W.keepIn K (.ref f6) = true)
    (a7 : PySem.W.nsIn K mainGlobals "_law_kind" = some (some (.ref f7))) (l7 : K.lookup f7 = some ⟨oc7, od7, .func (PySem.W.fnOf "_law_kind" "_law_kind" (defArgs s__law_kind) (defBody s__law_kind) (defScope s__law_kind) .none kV7 dc7 pm7 an7 cd7 ct7), sl7⟩) (c7 : PySem.W.codeIn K cd7 "_law_kind" = true) (k7 : PySem.W.keepIn K (.ref f7) = true)
    (a8 : PySem.W.nsIn K mainGlobals "_law_great" = some (some (.ref f8))) (l8 : K.lookup f8 = some ⟨oc8, od8, .func (PySem.W.fnOf "_law_great" "_law_great" (defArgs s__law_great) (defBody s__law_great) (defScope s__law_great) .none kV8 dc8 pm8 an8 cd8 ct8), sl8⟩) (c8 : PySem.W.codeIn K cd8 "_law_great" = true) (k8 : PySem.W.keepIn K (.ref f8) = true)
    (a9 : PySem.W.nsIn K mainGlobals "_law_half" = some (some (.ref f9))) (l9 : K.lookup f9 = some ⟨oc9, od9, .func (PySem.W.fnOf "_law_half" "_law_half" (defArgs s__law_half) (defBody s__law_half) (defScope s__law_half) .none kV9 dc9 pm9 an9 cd9 ct9), sl9⟩) (c9 : PySem.W.codeIn K cd9 "_law_half" = true) (k9 : PySem.W.keepIn K (.ref f9) = true)
    (a10 : PySem.W.nsIn K mainGlobals "_law_looks" = some (some (.ref f10))) (l10 : K.lookup f10 = some ⟨oc10, od10, .func (PySem.W.fnOf "_law_looks" "_law_looks" (defArgs s__law_looks) (defBody s__law_looks) (defScope s__law_looks) .none kV10 dc10 pm10 an10 cd10 ct10), sl10⟩) (c10 : PySem.W.codeIn K cd10 "_law_looks" = true) (k10 : PySem.W.keepIn K (.ref f10) = true)
    (a11 : PySem.W.nsIn K mainGlobals "_law_point" = some (some (.ref f11))) (l11 : K.lookup f11 = some ⟨oc11, od11, .func (PySem.W.fnOf "_law_point" "_law_point" (defArgs s__law_point) (defBody s__law_point) (defScope s__law_point) .none kV11 dc11 pm11 an11 cd11 ct11), sl11⟩) (c11 : PySem.W.codeIn K cd11 "_law_point" = true) (k11 : PySem.W.keepIn K (.ref f11) = true)
    (a12 : PySem.W.nsIn K mainGlobals "_law_within" = some (some (.ref f12))) (l12 : K.lookup f12 = some ⟨oc12, od12, .func (PySem.W.fnOf "_law_within" "_law_within" (defArgs s__law_within) (defBody s__law_within) (defScope s__law_within) .none kV12 dc12 pm12 an12 cd12 ct12), sl12⟩) (c12 : PySem.W.codeIn K cd12 "_law_within" = true) (k12 : PySem.W.keepIn K (.ref f12) = true)
    (a13 : PySem.W.nsIn K mainGlobals "law" = some (some (.ref f13))) (l13 : K.lookup f13 = some ⟨oc13, od13, .func (PySem.W.fnOf "law" "law" (defArgs s_law) (defBody s_law) (defScope s_law) .none kV13 dc13 pm13 an13 cd13 ct13), sl13⟩) (c13 : PySem.W.codeIn K cd13 "law" = true) (k13 : PySem.W.keepIn K (.ref f13) = true)
    (z0 : PySem.W.nsIn K mainGlobals "max" = some none)
    (z1 : PySem.W.nsIn K mainGlobals "min" = some none)
    (z2 : PySem.W.nsIn K mainGlobals "list" = some none)
    (z3 : PySem.W.nsIn K mainGlobals "range" = some none) :
    ∃ fd : FuncData, (∀ (s : Shared) (v : Value), BindsTo s fd ⟨[v], []⟩ [("script", v)]) ∧ ∀ base : Heap, K.In base → base.Ns mainGlobals mg → FnOk l.prog w K mg base CX0 5 fa fd ["script"] (sp_law K) := by
  have e := hfa.symm.trans (PySem.W.mg_of X G a13)
  cases e
  have F0 := fun_mk (st := s_met_bounds) l0 c0 k0
  have b0 := F0.binds (ps := ["kind", "looks", "sight", "top"]) fun _ _ _ _ _ _ us hl => match us, hl with | [_, _, _, _], _ => rfl
  have F1 := fun_mk (st := s_is_met) l1 c1 k1
  have b1 := F1.binds (ps := ["kind", "looks", "sight", "cell"]) fun _ _ _ _ _ _ us hl => match us, hl with | [_, _, _, _], _ => rfl
  have F2 := fun_mk (st := s_least_great_enough) l2 c2 k2
  have b2 := F2.binds (ps := ["kind", "looks", "top", "end"]) fun _ _ _ _ _ _ us hl => match us, hl with | [_, _, _, _], _ => rfl
  have F3 := fun_mk (st := s_good_bounds) l3 c3 k3
  have b3 := F3.binds (ps := ["kind", "looks", "sight", "cell"]) fun _ _ _ _ _ _ us hl => match us, hl with | [_, _, _, _], _ => rfl
  have F4 := fun_mk (st := s_good_figures) l4 c4 k4
  have b4 := F4.binds (ps := ["kind", "looks", "sight", "cell"]) fun _ _ _ _ _ _ us hl => match us, hl with | [_, _, _, _], _ => rfl
  have F5 := fun_mk (st := s__law_deck) l5 c5 k5
  have b5 := F5.binds (ps := ["cell", "turn"]) fun _ _ _ _ _ _ us hl => match us, hl with | [_, _], _ => rfl
  have F6 := fun_mk (st := s__law_pick) l6 c6 k6
  have b6 := F6.binds (ps := ["deck", "many"]) fun _ _ _ _ _ _ us hl => match us, hl with | [_, _], _ => rfl
  have F7 := fun_mk (st := s__law_kind) l7 c7 k7
  have b7 := F7.binds (ps := ["deck"]) fun _ _ _ _ _ _ us hl => match us, hl with | [_], _ => rfl
  have F8 := fun_mk (st := s__law_great) l8 c8 k8
  have b8 := F8.binds (ps := ["deck", "figures"]) fun _ _ _ _ _ _ us hl => match us, hl with | [_, _], _ => rfl
  have F9 := fun_mk (st := s__law_half) l9 c9 k9
  have b9 := F9.binds (ps := ["kind", "looks"]) fun _ _ _ _ _ _ us hl => match us, hl with | [_, _], _ => rfl
  have F10 := fun_mk (st := s__law_looks) l10 c10 k10
  have b10 := F10.binds (ps := ["deck"]) fun _ _ _ _ _ _ us hl => match us, hl with | [_], _ => rfl
  have F11 := fun_mk (st := s__law_point) l11 c11 k11
  have b11 := F11.binds (ps := ["deck", "kind", "looks"]) fun _ _ _ _ _ _ us hl => match us, hl with | [_, _, _], _ => rfl
  have F12 := fun_mk (st := s__law_within) l12 c12 k12
  have b12 := F12.binds (ps := ["kind", "looks", "sight", "cell", "others"]) fun _ _ _ _ _ _ us hl => match us, hl with | [_, _, _, _, _], _ => rfl
  have F13 := fun_mk (st := s_law) l13 c13 k13
  have b13 := F13.binds (ps := ["script"]) fun _ _ _ _ _ _ us hl => match us, hl with | [_], _ => rfl
  let T : Txt K mg := { a_met_bounds := f0, fd_met_bounds := _, F_met_bounds := F0, m_met_bounds := PySem.W.mg_of X G a0, b_met_bounds := b0, a_is_met := f1, fd_is_met := _, F_is_met := F1, m_is_met := PySem.W.mg_of X G a1, b_is_met := b1, a_least_great_enough := f2, fd_least_great_enough := _, F_least_great_enough := F2, m_least_great_enough := PySem.W.mg_of X G a2, b_least_great_enough := b2, a_good_bounds := f3, fd_good_bounds := _, F_good_bounds := F3, m_good_bounds := PySem.W.mg_of X G a3, b_good_bounds := b3, a_good_figures := f4, fd_good_figures := _, F_good_figures := F4, m_good_figures := PySem.W.mg_of X G a4, b_good_figures := b4, a__law_deck := f5, fd__law_deck := _, F__law_deck := F5, m__law_deck := PySem.W.mg_of X G a5, b__law_deck := b5, a__law_pick := f6, fd__law_pick := _, F__law_pick := F6, m__law_pick := PySem.W.mg_of X G a6, b__law_pick := b6, a__law_kind := f7, fd__law_kind := _, F__law_kind := F7, m__law_kind := PySem.W.mg_of X G a7, b__law_kind := b7, a__law_great := f8, fd__law_great := _, F__law_great := F8, m__law_great := PySem.W.mg_of X G a8, b__law_great := b8, a__law_half := f9, fd__law_half := _, F__law_half := F9, m__law_half := PySem.W.mg_of X G a9, b__law_half := b9, a__law_looks := f10, fd__law_looks := _, F__law_looks := F10, m__law_looks := PySem.W.mg_of X G a10, b__law_looks := b10, a__law_point := f11, fd__law_point := _, F__law_point := F11, m__law_point := PySem.W.mg_of X G a11, b__law_point := b11, a__law_within := f12, fd__law_within := _, F__law_within := F12, m__law_within := PySem.W.mg_of X G a12, b__law_within := b12, a_law := fa, fd_law := _, F_law := F13, m_law := PySem.W.mg_of X G a13, b_law := b13, z_max := PySem.W.mg_none_of X G z0, z_min := PySem.W.mg_none_of X G z1, z_list := PySem.W.mg_none_of X G z2, z_range := PySem.W.mg_none_of X G z3 }
  exact ⟨PySem.W.fnOf "law" "law" (defArgs s_law) (defBody s_law) (defScope s_law) .none kV13 dc13 pm13 an13 cd13 ct13, fun s v => .of_eq rfl, fun base _ _ => ok_law T⟩
theorem walk {l : PySem.W.OpenLaw} {q : Program} {loose : List Str} {XP : (Str → Option Value) → Heap → Prop} {YP : World → Heap → Prop} {d : DefRec} {K : Params → PySem.W.Frag} (hn : l.most = some 63) (hdf : d.params.defaults = [])
    (hY : ∀ (w : World) (h : Heap), YP w h → (K w.params).In h)
    (F : ∀ (w : World) (mg : Str → Option Value) (fa : Addr) (h : Heap), (K w.params).In h → h.Ns mainGlobals mg → mg d.name = some (.ref fa) →
      ∃ fd : FuncData, (∀ (s : Shared) (u : Value), BindsTo s fd ⟨[u], []⟩ [("script", u)]) ∧ ∀ base : Heap, (K w.params).In base → base.Ns mainGlobals mg → FnOk l.prog w (K w.params) mg base CX0 5 fa fd ["script"] (sp_law (K w.params))) :
    PySem.W.WalkO q loose XP YP l.row.toRowW d [] (fun f vs => PySem.call f vs) :=
  L2.walk_ofB (n := 63) (k := 5) (x := "script") (CX := fun _ => CX0) (sp := fun w => sp_law (K w.params)) hn (by decide) hdf ⟨rfl, by decide, by decide⟩ hY F (fun _ _ a ns hl hb _ hS => ⟨a, ns, rfl, hS, hl, hb, fun _ => rfl⟩) fun _ _ _ _ _ z => z
end My
open PySem PySem.W PyProof.Rows
set_option maxRecDepth 100000 in
set_option maxHeartbeats 0 in
theorem PySem.Challenge.cw_slackfigures_k12_whole_mirrored_and_fine_holds : PySem.Challenge.rw_slackfigures_k12_whole_mirrored_and_fine.Holds := by
  w_on; o_law; k_head; (case hw => w_witness2)
  k_fill
  refine My.walk (l := PySem.Challenge.rw_slackfigures_k12_whole_mirrored_and_fine) rfl rfl (fun w h Y => PySem.W.kIn_of Y) ?F
  case F =>
    intro w mg fa h KX G hmg
    refine' My.all_mk KX G hmg ?a0 ?l0 ?c0 ?k0 ?a1 ?l1 ?c1 ?k1 ?a2 ?l2 ?c2 ?k2 ?a3 ?l3 ?c3 ?k3 ?a4 ?l4 ?c4 ?k4 ?a5 ?l5 ?c5 ?k5 ?a6 ?l6 ?c6 ?k6 ?a7 ?l7 ?c7 ?k7 ?a8 ?l8 ?c8 ?k8 ?a9 ?l9 ?c9 ?k9 ?a10 ?l10 ?c10 ?k10 ?a11 ?l11 ?c11 ?k11 ?a12 ?l12 ?c12 ?k12 ?a13 ?l13 ?c13 ?k13 ?z0 ?z1 ?z2 ?z3
    (case a0 => k_is)
    (case l0 => k_is)
    (case c0 => k_is)
    (case k0 => k_is)
    (case a1 => k_is)
    (case l1 => k_is)
    (case c1 => k_is)
    (case k1 => k_is)
    (case a2 => k_is)
    (case l2 => k_is)
    (case c2 => k_is)
    (case k2 => k_is)
    (case a3 => k_is)
    (case l3 => k_is)
    (case c3 => k_is)
    (case k3 => k_is)
    (case a4 => k_is)
    (case l4 => k_is)
    (case c4 => k_is)
    (case k4 => k_is)
    (case a5 => k_is)
    (case l5 => k_is)
    (case c5 => k_is)
    (case k5 => k_is)
    (case a6 => k_is)
    (case l6 => k_is)
    (case c6 => k_is)
    (case k6 => k_is)
    (case a7 => k_is)
    (case l7 => k_is)
    (case c7 => k_is)
    (case k7 => k_is)
    (case a8 => k_is)
    (case l8 => k_is)
    (case c8 => k_is)
    (case k8 => k_is)
    (case a9 => k_is)
    (case l9 => k_is)
    (case c9 => k_is)
    (case k9 => k_is)
    (case a10 => k_is)
    (case l10 => k_is)
    (case c10 => k_is)
    (case k10 => k_is)
    (case a11 => k_is)
    (case l11 => k_is)
    (case c11 => k_is)
    (case k11 => k_is)
    (case a12 => k_is)
    (case l12 => k_is)
    (case c12 => k_is)
    (case k12 => k_is)
    (case a13 => k_is)
    (case l13 => k_is)
    (case c13 => k_is)
    (case k13 => k_is)
    (case z0 => k_is)
    (case z1 => k_is)
    (case z2 => k_is)
    (case z3 => k_is)
