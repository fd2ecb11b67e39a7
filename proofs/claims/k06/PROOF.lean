import PyProof.Rows.All
import Wide.All
import OpenK.AllK
import Wide.FinOn
import HandS.ForMost
import HandS.EndBits
import HandS.Wide
import HandS.WideBits
import HandS.IsInst
import HandS.Style
import HandS.Codes
import HandS.Text
import HandS.Conv
import PySem.Challenge.RW_slackfigures_k06_good_figures
set_option Elab.async false
set_option linter.all false
set_option maxRecDepth 100000
set_option maxHeartbeats 4000000
namespace My
open PySem L2
def top (i : Nat) : Stmt := PySem.Challenge.pw_slackfigures_k06_good_figures.main.body.getD i (.Pass ⟨0, 0, 0, 0⟩)
abbrev s_met_bounds : Stmt := top 1
abbrev s_is_met : Stmt := top 2
abbrev s_least_great_enough : Stmt := top 3
abbrev s_good_bounds : Stmt := top 4
abbrev s_good_figures : Stmt := top 5
abbrev s__law_deck : Stmt := top 7
abbrev s__law_pick : Stmt := top 8
abbrev s__law_kind : Stmt := top 9
abbrev s__law_great : Stmt := top 10
abbrev s__law_edges : Stmt := top 11
abbrev s__law_met : Stmt := top 12
abbrev s__law_good : Stmt := top 13
abbrev s__law_half : Stmt := top 14
abbrev s__law_looks : Stmt := top 15
abbrev s__law_point : Stmt := top 16
abbrev s__law_cell : Stmt := top 17
abbrev s_law : Stmt := top 18
theorem sc_met_bounds : FnScope ["kind", "looks", "sight", "top", "base", "most", "tops", "parts", "reach", "last"] ["kind", "looks", "sight", "top"] (defScope s_met_bounds) := ⟨rfl, rfl, rfl, by decide +kernel, rfl, by decide +kernel, by decide +kernel⟩
theorem sc_is_met : FnScope ["kind", "looks", "sight", "cell", "top", "look", "first", "last"] ["kind", "looks", "sight", "cell"] (defScope s_is_met) := ⟨rfl, rfl, rfl, by decide +kernel, rfl, by decide +kernel, by decide +kernel⟩
theorem sc_least_great_enough : FnScope ["kind", "looks", "top", "end", "base", "most", "tops", "parts", "divisor", "short", "figure"] ["kind", "looks", "top", "end"] (defScope s_least_great_enough) := ⟨rfl, rfl, rfl, by decide +kernel, rfl, by decide +kernel, by decide +kernel⟩
theorem sc_good_bounds : FnScope ["kind", "looks", "sight", "cell", "top", "look"] ["kind", "looks", "sight", "cell"] (defScope s_good_bounds) := ⟨rfl, rfl, rfl, by decide +kernel, rfl, by decide +kernel, by decide +kernel⟩
theorem sc_good_figures : FnScope ["kind", "looks", "sight", "cell", "least", "greatest"] ["kind", "looks", "sight", "cell"] (defScope s_good_figures) := ⟨rfl, rfl, rfl, by decide +kernel, rfl, by decide +kernel, by decide +kernel⟩
theorem sc__law_deck : FnScope ["cell", "turn"] ["cell", "turn"] (defScope s__law_deck) := ⟨rfl, rfl, rfl, by decide +kernel, rfl, by decide +kernel, by decide +kernel⟩
theorem sc__law_pick : FnScope ["deck", "many", "found", "number"] ["deck", "many"] (defScope s__law_pick) := ⟨rfl, rfl, rfl, by decide +kernel, rfl, by decide +kernel, by decide +kernel⟩
theorem sc__law_kind : FnScope ["deck", "base"] ["deck"] (defScope s__law_kind) := ⟨rfl, rfl, rfl, by decide +kernel, rfl, by decide +kernel, by decide +kernel⟩
theorem sc__law_great : FnScope ["deck", "figures", "size", "turn", "found"] ["deck", "figures"] (defScope s__law_great) := ⟨rfl, rfl, rfl, by decide +kernel, rfl, by decide +kernel, by decide +kernel⟩
theorem sc__law_edges : FnScope ["looks", "sight", "cell", "tops", "parts", "top", "look"] ["looks", "sight", "cell"] (defScope s__law_edges) := ⟨rfl, rfl, rfl, by decide +kernel, rfl, by decide +kernel, by decide +kernel⟩
theorem sc__law_met : FnScope ["kind", "looks", "sight", "cell", "base", "most", "left", "right", "low", "high"] ["kind", "looks", "sight", "cell"] (defScope s__law_met) := ⟨rfl, rfl, rfl, by decide +kernel, rfl, by decide +kernel, by decide +kernel⟩
theorem sc__law_good : FnScope ["kind", "looks", "sight", "cell", "base", "most", "left", "right", "low", "high", "found", "figure", "upper", "lower", "side", "fits"] ["kind", "looks", "sight", "cell"] (defScope s__law_good) := ⟨rfl, rfl, rfl, by decide +kernel, rfl, by decide +kernel, by decide +kernel⟩
theorem sc__law_half : FnScope ["kind", "looks"] ["kind", "looks"] (defScope s__law_half) := ⟨rfl, rfl, rfl, by decide +kernel, rfl, by decide +kernel, by decide +kernel⟩
theorem sc__law_looks : FnScope ["deck"] ["deck"] (defScope s__law_looks) := ⟨rfl, rfl, rfl, by decide +kernel, rfl, by decide +kernel, by decide +kernel⟩
theorem sc__law_point : FnScope ["deck", "kind", "looks", "wide", "size", "unit", "divisor", "reach", "rest"] ["deck", "kind", "looks"] (defScope s__law_point) := ⟨rfl, rfl, rfl, by decide +kernel, rfl, by decide +kernel, by decide +kernel⟩
theorem sc__law_cell : FnScope ["deck", "kind", "looks", "wide", "divisor", "rest", "half", "top", "look", "edge"] ["deck", "kind", "looks"] (defScope s__law_cell) := ⟨rfl, rfl, rfl, by decide +kernel, rfl, by decide +kernel, by decide +kernel⟩
theorem sc_law : FnScope ["script", "deck", "kind", "looks", "sight", "cell", "met", "due", "turn", "found", "one"] ["script"] (defScope s_law) := ⟨rfl, rfl, rfl, by decide +kernel, rfl, by decide +kernel, by decide +kernel⟩
/-- what the top has left -/
structure Txt (K : PySem.W.Frag) (mg : Str → Option Value) where
  a_met_bounds : Addr
  fd_met_bounds : FuncData
  F_met_bounds : Fun K "met_bounds" "met_bounds" s_met_bounds a_met_bounds fd_met_bounds
  m_met_bounds : mg "met_bounds" = some (.ref a_met_bounds)
  b_met_bounds : Binds K fd_met_bounds ["kind", "looks", "sight", "top"] []
  a_is_met : Addr
  fd_is_met : FuncData
  F_is_met : Fun K "is_met" "is_met" s_is_met a_is_met fd_is_met
  m_is_met : mg "is_met" = some (.ref a_is_met)
  b_is_met : Binds K fd_is_met ["kind", "looks", "sight", "cell"] []
  a_least_great_enough : Addr
  fd_least_great_enough : FuncData
  F_least_great_enough : Fun K "least_great_enough" "least_great_enough" s_least_great_enough a_least_great_enough fd_least_great_enough
  m_least_great_enough : mg "least_great_enough" = some (.ref a_least_great_enough)
  b_least_great_enough : Binds K fd_least_great_enough ["kind", "looks", "top", "end"] []
  a_good_bounds : Addr
  fd_good_bounds : FuncData
  F_good_bounds : Fun K "good_bounds" "good_bounds" s_good_bounds a_good_bounds fd_good_bounds
  m_good_bounds : mg "good_bounds" = some (.ref a_good_bounds)
  b_good_bounds : Binds K fd_good_bounds ["kind", "looks", "sight", "cell"] []
  a_good_figures : Addr
  fd_good_figures : FuncData
  F_good_figures : Fun K "good_figures" "good_figures" s_good_figures a_good_figures fd_good_figures
  m_good_figures : mg "good_figures" = some (.ref a_good_figures)
  b_good_figures : Binds K fd_good_figures ["kind", "looks", "sight", "cell"] []
  a__law_deck : Addr
  fd__law_deck : FuncData
  F__law_deck : Fun K "_law_deck" "_law_deck" s__law_deck a__law_deck fd__law_deck
  m__law_deck : mg "_law_deck" = some (.ref a__law_deck)
  b__law_deck : Binds K fd__law_deck ["cell", "turn"] []
  a__law_pick : Addr
  fd__law_pick : FuncData
  F__law_pick : Fun K "_law_pick" "_law_pick" s__law_pick a__law_pick fd__law_pick
  m__law_pick : mg "_law_pick" = some (.ref a__law_pick)
  b__law_pick : Binds K fd__law_pick ["deck", "many"] []
  a__law_kind : Addr
  fd__law_kind : FuncData
  F__law_kind : Fun K "_law_kind" "_law_kind" s__law_kind a__law_kind fd__law_kind
  m__law_kind : mg "_law_kind" = some (.ref a__law_kind)
  b__law_kind : Binds K fd__law_kind ["deck"] []
  a__law_great : Addr
  fd__law_great : FuncData
  F__law_great : Fun K "_law_great" "_law_great" s__law_great a__law_great fd__law_great
  m__law_great : mg "_law_great" = some (.ref a__law_great)
  b__law_great : Binds K fd__law_great ["deck", "figures"] []
  a__law_edges : Addr
  fd__law_edges : FuncData
  F__law_edges : Fun K "_law_edges" "_law_edges" s__law_edges a__law_edges fd__law_edges
  m__law_edges : mg "_law_edges" = some (.ref a__law_edges)
  b__law_edges : Binds K fd__law_edges ["looks", "sight", "cell"] []
  a__law_met : Addr
  fd__law_met : FuncData
  F__law_met : Fun K "_law_met" "_law_met" s__law_met a__law_met fd__law_met
  m__law_met : mg "_law_met" = some (.ref a__law_met)
  b__law_met : Binds K fd__law_met ["kind", "looks", "sight", "cell"] []
  a__law_good : Addr
  fd__law_good : FuncData
  F__law_good : Fun K "_law_good" "_law_good" s__law_good a__law_good fd__law_good
  m__law_good : mg "_law_good" = some (.ref a__law_good)
  b__law_good : Binds K fd__law_good ["kind", "looks", "sight", "cell"] []
  a__law_half : Addr
  fd__law_half : FuncData
  F__law_half : Fun K "_law_half" "_law_half" s__law_half a__law_half fd__law_half
  m__law_half : mg "_law_half" = some (.ref a__law_half)
  b__law_half : Binds K fd__law_half ["kind", "looks"] []
  a__law_looks : Addr
  fd__law_looks : FuncData
  F__law_looks : Fun K "_law_looks" "_law_looks" s__law_looks a__law_looks fd__law_looks
  m__law_looks : mg "_law_looks" = some (.ref a__law_looks)
  b__law_looks : Binds K fd__law_looks ["deck"] []
  a__law_point : Addr
  fd__law_point : FuncData
  F__law_point : Fun K "_law_point" "_law_point" s__law_point a__law_point fd__law_point
  m__law_point : mg "_law_point" = some (.ref a__law_point)
  b__law_point : Binds K fd__law_point ["deck", "kind", "looks"] []
  a__law_cell : Addr
  fd__law_cell : FuncData
  F__law_cell : Fun K "_law_cell" "_law_cell" s__law_cell a__law_cell fd__law_cell
  m__law_cell : mg "_law_cell" = some (.ref a__law_cell)
  b__law_cell : Binds K fd__law_cell ["deck", "kind", "looks"] []
  a_law : Addr
  fd_law : FuncData
  F_law : Fun K "law" "law" s_law a_law fd_law
  m_law : mg "law" = some (.ref a_law)
  b_law : Binds K fd_law ["script"] []
  z_max : mg "max" = none
  z_min : mg "min" = none
  z_list : mg "list" = none
  z_range : mg "range" = none
  z_int : mg "int" = none
  z_isinstance : mg "isinstance" = none
  z_bool : mg "bool" = none
section
variable {P : Program} {w : World} {K : PySem.W.Frag} {mg : Str → Option Value} {base : Heap}
local macro_rules | `(tactic| walk_at "rd1") => `(tactic| first
  | refine ⟨_, rfl, ?_⟩
  | refine ⟨_, _, rfl, rfl, ?_⟩
  | refine ⟨_, _, _, _, rfl, rfl, SqL.of (by assumption), rfl, ?_⟩
  | refine ⟨_, _, _, _, rfl, rfl, SqT.of (by assumption), rfl, ?_⟩
  | refine ⟨_, _, _, _, rfl, rfl, by assumption, rfl, ?_⟩
  | refine ⟨_, _, rfl, .inl (SqL.of (by assumption)), ?_⟩
  | refine ⟨_, _, rfl, ?_⟩
  | refine ⟨_, _, rfl, .inr (SqT.of (by assumption)), ?_⟩
  | refine ⟨(show (0 : Int) < _ by first | assumption | decide | omega), ?_⟩
  | refine ⟨(rfl : scal _ _ = true), ?_⟩
  | refine ⟨⟨by decide, by decide⟩, ?_⟩
  | refine ⟨⟨by decide, by decide, by decide⟩, ?_⟩
  | refine ⟨Or.inl ⟨by decide, by decide⟩, ?_⟩
  | refine ⟨Or.inr ⟨by decide, by decide⟩, ?_⟩
  | fail "rd")
local macro_rules | `(tactic| walk_at "rd") => `(tactic| (walk_at "rd1"; repeat walk_at "rd1"))
/-! ### heaps -/
/-- what stood at another place than a stands as it was -/
def Keep (a : Addr) (H H' : Hp) : Prop := ∀ b o, b ≠ a → H b = some o → H' b = some o
theorem Keep.refl (a : Addr) (H : Hp) : Keep a H H := fun _ _ _ h => h
theorem Keep.trans {a : Addr} {H H1 H2 : Hp} (x : Keep a H H1) (y : Keep a H1 H2) : Keep a H H2 := fun b o n h => y b o n (x b o n h)
theorem Keep.upd {a : Addr} {H : Hp} {o : HO} : Keep a H (upd H a o) := fun b u n h => by
  rw [upd_ne n]
  exact h
theorem Keep.new {a p : Addr} {H : Hp} {o : HO} (h : H p = none) : Keep a H (L2.upd H p o) := fun b u _ e => by
  rw [upd_ne (ne_of_none e h)]
  exact e
theorem Keep.same {a : Addr} {H H' : Hp} (h : Same H H') : Keep a H H' := fun b o _ e => h b o e
theorem same_new {H : Hp} {p : Addr} (h : H p = none) (o : HO) : Same H (upd H p o) := fun b u q => by
  rw [upd_ne (ne_of_none q h)]
  exact q
/-! ### + of lists that are read (the script among them) -/
section
open PySem.Spec PyProof.Rows
def rCatR (K : PySem.W.Frag) : R2 := fun x y H Q => ∃ l b us zs, x = .ref l ∧ y = .ref b ∧ SqL K H l us ∧ SqL K H b zs ∧ us.length + zs.length ≤ sizeLine ∧ ∀ p, H p = none → Q (.ref p) (upd H p (.lst (us ++ zs)))
theorem op_catR {X : Cx} : OpR X (binaryOp .Add) (rCatR X.K) := by
  intro pins sh sg H x y v u Q I rx ry hyp
  obtain ⟨l, b, us, zs, rfl, rfl, hl, hb, hz, q⟩ := hyp
  cases rx
  cases ry
  obtain ⟨i1, r1, p1, _⟩ := I.list hl
  obtain ⟨i2, r2, p2, _⟩ := I.list hb
  have n1 := r1.length
  have n2 := r2.length
  obtain ⟨⟨c1, d1, t1, s1⟩, g1, e1, m1, f1⟩ := p1.isList
  obtain ⟨⟨c2, d2, t2, s2⟩, g2, e2, m2, f2⟩ := p2.isList
  simp only at e1 f1 e2 f2
  subst e1 f1 e2 f2
  refine concat_meets ⟨_, g1, rfl⟩ ⟨_, g2, rfl⟩ noFill_list_add seq_list_add PySem.F.slot_list_add PySem.F.entry_list_add (PySem.F.args_list_add_2 _ _)
    (list_addW l b i1.toArray i2.toArray m1 m2 d1 d2 s1 s2 (by simp only [List.size_toArray]; omega)) ⟨g1, g2, ?_⟩
  rw [show i1.toArray ++ i2.toArray = (i1 ++ i2).toArray by simp]
  exact ⟨.ref _, _, I.lnew (t' := sh.toks) (r1.append r2) (by rw [List.length_append]; exact hz), rfl, q _ I.fresh⟩
end
/-! ### the deck -/
def Deck (H : Hp) (a : Addr) (n : Nat) : Prop := ∃ d0 d1 d2 : Int, H a = some (.lst [.int d0, .int d1, .int d2]) ∧ 0 ≤ d0 ∧ 0 ≤ d1 ∧ d1 < 2147483648 ∧ 0 ≤ d2 ∧ d2 ≤ n
theorem Deck.le {H : Hp} {a : Addr} {n m : Nat} (h : Deck H a n) (e : n ≤ m) : Deck H a m := by
  obtain ⟨d0, d1, d2, h1, h2, h3, h4, h5, h6⟩ := h
  exact ⟨d0, d1, d2, h1, h2, h3, h4, h5, by omega⟩
theorem Deck.same {H H' : Hp} {a : Addr} {n : Nat} (h : Deck H a n) (e : Same H H') : Deck H' a n := by
  obtain ⟨d0, d1, d2, h1, r⟩ := h
  exact ⟨d0, d1, d2, e _ _ h1, r⟩
theorem Deck.some {H : Hp} {a : Addr} {n : Nat} (h : Deck H a n) : ∃ o, H a = some o := by
  obtain ⟨d0, d1, d2, h1, r⟩ := h
  exact ⟨_, h1⟩
theorem Deck.ne {H : Hp} {a p : Addr} {n : Nat} (h : Deck H a n) (e : H p = none) : p ≠ a := by
  obtain ⟨d0, d1, d2, h1, r⟩ := h
  exact fun z => by rw [z, h1] at e; cases e
def sp__law_deck (K : PySem.W.Frag) : Sp := fun vs H Q _ => ∃ (c t : Int) (n : Nat), vs = [.int c, .int t] ∧ 0 ≤ t ∧ t ≤ n ∧
  ∀ p H', H p = none → Same H H' → Deck H' p n → Q (.ref p) H'
def sp__law_pick (K : PySem.W.Frag) : Sp := fun vs H Q _ => ∃ (a : Addr) (many : Int) (n : Nat), vs = [.ref a, .int many] ∧ Deck H a n ∧ n ≤ 1000000000 ∧ 0 < many ∧ many.natAbs.log2 < 9000 ∧
  ∀ v H', 0 ≤ v → v < many → Keep a H H' → Deck H' a (n + 1) → Q (.int v) H'
theorem ok__law_deck (T : Txt K mg) : FnOk P w K mg base CX0 1 T.a__law_deck T.fd__law_deck ["cell", "turn"] (sp__law_deck K) := by
  refine T.F__law_deck.ok sc__law_deck (fun vs H Q E h => ?_) (fun cdv A outer s H vs Q E hr h => ?_)
  · obtain ⟨c, t, n, rfl, _⟩ := h
    rfl
  obtain ⟨c, t, n, rfl, ht, htn, q⟩ := h
  refine ⟨_, (pss_cons (ps_if (pt_cmpR op_ge (pv 0) (pe_op op_pow pe_int pe_int) (nomark _)) (pss_one (ps_ret (pe_lst (pa_cons (pe_op op_sub (pv 0) (pe_op op_pow pe_int pe_int)) (pa_cons (pe_op op_mod (pv 0) pe_int) (pa_cons (pv 1) pa_nil)))))) pss_nil)
      (pss_one (ps_ret (pe_lst (pa_cons pe_int (pa_cons (pe_op op_mod (pv 0) pe_int) (pa_cons (pv 1) pa_nil))))))), ?_⟩
  walk_at "rd"
  have e18 : (10 : Int) ^ (18 : Int).toNat = 1000000000000000000 := by decide +kernel
  refine ite2 (fun c' => ?_) (fun _ => ?_)
  · have c1 : (10 : Int) ^ (18 : Int).toNat ≤ c := of_decide_eq_true c'
    walk_at "rd"
    refine ⟨by show 3 ≤ sizeLine; decide, fun p hp => ?_⟩
    refine q p _ hp (same_new hp _) ⟨_, _, _, upd_same, ?_, ?_, ?_, ht, htn⟩ <;> omega
  · walk_at "rd"
    refine ⟨by show 3 ≤ sizeLine; decide, fun p hp => ?_⟩
    refine q p _ hp (same_new hp _) ⟨_, _, _, upd_same, ?_, ?_, ?_, ht, htn⟩ <;> omega
theorem ok__law_pick (T : Txt K mg) : FnOk P w K mg base CX0 1 T.a__law_pick T.fd__law_pick ["deck", "many"] (sp__law_pick K) := by
  refine T.F__law_pick.ok sc__law_pick (fun vs H Q E h => ?_) (fun cdv A outer s H vs Q E hr h => ?_)
  · obtain ⟨a, many, n, rfl, _⟩ := h
    rfl
  obtain ⟨a, many, n, rfl, ⟨d0, d1, d2, hd, h0, h1, h1', h2, h2'⟩, hn, hm, hm', q⟩ := h
  refine ⟨_, (pss_cons (ps_if (pt_cmpR op_gt (pe_ix ix_list (pv 0) pe_int (fun _ _ => rfl)) pe_int (nomark _)) (pss_cons (ps_set (i := 2) sc__law_pick.nd rfl (Or.inl rfl) (pe_op op_mod (pe_ix ix_list (pv 0) pe_int (fun _ _ => rfl)) (pv 1)))
      (pss_cons (ps_asg (pe_op op_fdivW (pe_ix ix_list (pv 0) pe_int (fun _ _ => rfl)) (pv 1)) (pg_sub (pv 0) pe_int set_list))
      (pss_one (ps_ret (pv 2))))) pss_nil)
      (pss_cons (ps_asg (pe_op op_add (pe_ix ix_list (pv 0) pe_int (fun _ _ => rfl)) pe_int) (pg_sub (pv 0) pe_int set_list))
      (pss_cons (ps_set (i := 3) sc__law_pick.nd rfl (Or.inl rfl) (pe_op op_mod (pe_op op_pow (pe_op op_add (pe_ix ix_list (pv 0) pe_int (fun _ _ => rfl)) (pe_op op_mul pe_int (pe_ix ix_list (pv 0) pe_int (fun _ _ => rfl)))) pe_int) pe_int))
      (pss_cons (ps_set (i := 2) sc__law_pick.nd rfl (Or.inl rfl) (pe_op op_fdivW (pe_op op_mod (pe_op op_pow (pe_op op_add (pv 3) (pe_op op_mul pe_int (pe_ix ix_list (pv 0) pe_int (fun _ _ => rfl)))) pe_int) pe_int) pe_int))
      (pss_cons (ps_if (pt_cmpR op_gt (pv 1) pe_int (nomark _)) (pss_one (ps_ret (pe_op op_mod (pe_op op_add (pe_op op_mul (pv 2) pe_int) (pv 3)) (pv 1)))) pss_nil)
      (pss_one (ps_ret (pe_op op_mod (pv 2) (pv 1))))))))), ?_⟩
  walk_at "rd"
  refine ite2 (fun c => ?_) (fun c => ?_)
  · walk_at "rd"
    refine ⟨⟨hm, hm'⟩, ?_⟩
    walk_at "rd"
    exact q _ _ (Int.emod_nonneg _ (by omega)) (Int.emod_lt_of_pos _ hm) Keep.upd ⟨_, _, _, upd_same, Int.ediv_nonneg h0 (by omega), h1, h1', h2, by omega⟩
  · walk_at "rd"
    have hd2 : (upd H a (.lst ([V.int d0, .int d1, .int d2].set 2 (.int (d2 + 1))))) a = some (.lst [.int d0, .int d1, .int (d2 + 1)]) := upd_same
    walk_at "rd"
    refine ⟨⟨by decide, by decide, by omega⟩, ?_⟩
    walk_at "rd"
    refine ⟨⟨by decide, by decide, by omega⟩, ?_⟩
    walk_at "rd"
    refine ite2 (fun c2 => ?_) (fun c2 => ?_)
    · walk_at "rd"
      exact q _ _ (Int.emod_nonneg _ (by omega)) (Int.emod_lt_of_pos _ hm) Keep.upd ⟨_, _, _, upd_same, h0, h1, h1', by omega, by omega⟩
    · walk_at "rd"
      exact q _ _ (Int.emod_nonneg _ (by omega)) (Int.emod_lt_of_pos _ hm) Keep.upd ⟨_, _, _, upd_same, h0, h1, h1', by omega, by omega⟩
/-! ### a written list at a drawn place -/
theorem at_some {α : Type} {xs : List α} {i : Int} (h0 : 0 ≤ i) (h1 : i < xs.length) : ∃ y, atI xs i = some y ∧ y ∈ xs := by
  obtain ⟨k, rfl⟩ := Int.eq_ofNat_of_zero_le h0
  have hk : k < xs.length := by omega
  exact ⟨xs[k], atI_nat (List.getElem?_eq_getElem hk), List.getElem_mem hk⟩
theorem lt_pow {z : Int} (h0 : 0 ≤ z) (h : z < 2 ^ 63) : z.natAbs.log2 < 9000 := by
  by_cases e : z.natAbs = 0
  · rw [e]; decide
  · have h1 : z.natAbs < 2 ^ 63 := by omega
    have h2 := (Nat.log2_lt e).mpr h1
    omega
def sp__law_kind (K : PySem.W.Frag) : Sp := fun vs H Q _ => ∃ (a : Addr) (n : Nat), vs = [.ref a] ∧ Deck H a n ∧ n ≤ 900000000 ∧
  ∀ (p : Addr) (b m : Int) (H' : Hp), Keep a H H' → Deck H' a (n + 2) → H' p = some (.tup [.int b, .int m]) → (b = 2 ∨ b = 4 ∨ b = 8 ∨ b = 16) → b / 2 ≤ m → m ≤ b - 1 → Q (.ref p) H'
theorem ok__law_kind (T : Txt K mg) : FnOk P w K mg base CX0 2 T.a__law_kind T.fd__law_kind ["deck"] (sp__law_kind K) := by
  refine T.F__law_kind.ok sc__law_kind (fun vs H Q E h => ?_) (fun cdv A outer s H vs Q E hr h => ?_)
  · obtain ⟨a, n, rfl, _⟩ := h
    rfl
  obtain ⟨a, n, rfl, hd, hn, q⟩ := h
  refine ⟨_, (pss_cons (ps_set (i := 1) sc__law_kind.nd rfl (Or.inl rfl) (pe_ix ix_list (pe_lst (pa_cons pe_int (pa_cons pe_int (pa_cons pe_int (pa_cons pe_int (pa_cons pe_int pa_nil)))))) (pe_call (ok__law_pick T) (hr.mono (by first | decide | omega)) rfl T.m__law_pick T.F__law_pick.kp T.b__law_pick .nil pass0 (pa_cons (pv 0) (pa_cons pe_int pa_nil))) (fun _ _ => rfl)))
      (pss_one (ps_ret (pe_tup (pa_cons (pv 1) (pa_cons (pe_op op_add (pe_op op_fdiv (pv 1) pe_int) (pe_call (ok__law_pick T) (hr.mono (by first | decide | omega)) rfl T.m__law_pick T.F__law_pick.kp T.b__law_pick .nil pass0 (pa_cons (pv 0) (pa_cons (pe_op op_sub (pv 1) (pe_op op_fdiv (pv 1) pe_int)) pa_nil)))) pa_nil)))))), ?_⟩
  refine ⟨by show 5 ≤ sizeLine; decide, fun l hl => ?_⟩
  walk_at "rd"
  refine ⟨a, 5, n, rfl, hd.same (same_new hl _), by omega, by decide, lt_pow (by decide) (by decide), fun v H1 v0 v1 k1 d1 => ?_⟩
  have hl1 : H1 l = some (.lst [.int 2, .int 4, .int 4, .int 8, .int 16]) := k1 _ _ (hd.ne hl) upd_same
  obtain ⟨y, hy, my⟩ := at_some (xs := [V.int 2, .int 4, .int 4, .int 8, .int 16]) v0 (by show v < 5; omega)
  refine ⟨l, _, v, y, rfl, rfl, SqL.of hl1, hy, ?_⟩
  have hb : ∃ b : Int, y = .int b ∧ (b = 2 ∨ b = 4 ∨ b = 8 ∨ b = 16) := by
    simp only [List.mem_cons, List.not_mem_nil, or_false] at my
    rcases my with e | e | e | e | e <;> exact ⟨_, e, by decide⟩
  obtain ⟨b, rfl, hb⟩ := hb
  walk_at "rd"
  refine ⟨a, b - b / 2, n + 1, rfl, d1, by omega, by omega, lt_pow (by omega) (by omega), fun v2 H2 w0 w1 k2 d2 => ?_⟩
  walk_at "rd"
  refine ⟨by show 2 ≤ sizeLine; decide, fun p hp => ?_⟩
  refine q p b (b / 2 + v2) _ ?_ (d2.same (same_new hp _)) upd_same hb (by omega) (by omega)
  exact (Keep.new (a := a) hl).trans (k1.trans (k2.trans (Keep.new hp)))
/-! ### what is known of a heap beside the deck: facts that stay -/
structure Fact (a : Addr) where
  P : Hp → Prop
  mono : ∀ {H H' : Hp}, Keep a H H' → P H → P H'
def Fs (a : Addr) (H : Hp) : List (Fact a) → Prop
  | [] => True
  | f :: L => f.P H ∧ Fs a H L
theorem Fs.keep {a : Addr} {H H' : Hp} (k : Keep a H H') : ∀ {L : List (Fact a)}, Fs a H L → Fs a H' L
  | [], _ => trivial
  | f :: _, h => ⟨f.mono k h.1, Fs.keep k h.2⟩
theorem Fs.get {a : Addr} {H : Hp} {f : Fact a} : ∀ {L : List (Fact a)}, Fs a H L → f ∈ L → f.P H
  | _ :: _, h, .head _ => h.1
  | _ :: _, h, .tail _ m => Fs.get h.2 m
/-- the object o stands at p, which is not the deck -/
def At (a p : Addr) (o : HO) : Fact a := ⟨fun H => p ≠ a ∧ H p = some o, fun k h => ⟨h.1, k _ _ h.1 h.2⟩⟩
/-- p is no deck, and something stands there -/
def Bd (a p : Addr) : Fact a := ⟨fun H => p ≠ a ∧ ∃ o, H p = some o, fun k h => ⟨h.1, h.2.choose, k _ _ h.1 h.2.choose_spec⟩⟩
structure S (a : Addr) (n : Nat) (H : Hp) (L : List (Fact a)) : Prop where
  d : Deck H a n
  f : Fs a H L
namespace S
variable {a : Addr} {n m : Nat} {H H' : Hp} {L : List (Fact a)}
theorem le (s : S a n H L) (h : n ≤ m) : S a m H L := ⟨s.d.le h, s.f⟩
theorem keep (s : S a n H L) (k : Keep a H H') (d : Deck H' a m) : S a m H' L := ⟨d, s.f.keep k⟩
theorem same (s : S a n H L) (e : Same H H') : S a n H' L := ⟨s.d.same e, s.f.keep (Keep.same e)⟩
theorem get {f : Fact a} (s : S a n H L) (h : f ∈ L) : f.P H := s.f.get h
theorem at_ {p : Addr} {o : HO} (s : S a n H L) (h : At a p o ∈ L) : H p = some o := (s.f.get h).2
theorem ne_ {p : Addr} {o : HO} (s : S a n H L) (h : At a p o ∈ L) : p ≠ a := (s.f.get h).1
theorem add {f : Fact a} (s : S a n H L) (h : f.P H) : S a n H (f :: L) := ⟨s.d, h, s.f⟩
theorem drop {f : Fact a} (s : S a n H (f :: L)) : S a n H L := ⟨s.d, s.f.2⟩
theorem only {f : Fact a} (s : S a n H (f :: L)) : S a n H [f] := ⟨s.d, s.f.1, trivial⟩
theorem new {p : Addr} (s : S a n H L) (h : H p = none) (o : HO) : S a n (upd H p o) (At a p o :: L) :=
  (s.same (same_new h o)).add ⟨s.d.ne h, upd_same⟩
theorem fresh {p : Addr} {o : HO} (s : S a n H L) (h : H p = none) (e : Same H H') (h2 : H' p = some o) : S a n H' (At a p o :: L) :=
  (s.same e).add ⟨s.d.ne h, h2⟩
/-- behind a draw -/
theorem next {many : Int} {R : Int → Hp → Prop} (s : S a n H L) (k : ∀ (v : Int) (H' : Hp), 0 ≤ v → v < many → Keep a H H' → S a (n + 1) H' L → R v H') :
    ∀ (v : Int) (H' : Hp), 0 ≤ v → v < many → Keep a H H' → Deck H' a (n + 1) → R v H' := fun v H' v0 v1 kk d => k v H' v0 v1 kk (s.keep kk d)
/-- a displayed list, read at a drawn place -/
theorem choose {K : PySem.W.Frag} {xs : List V} {many : Int} {Q : VK} {p : Addr} (s : S a n H L) (hp : H p = none) (h1 : many ≤ xs.length)
    (k : ∀ (y : V) (H' : Hp), y ∈ xs → Keep a H H' → S a (n + 1) H' L → Q y H') :
    ∀ (v : Int) (H' : Hp), 0 ≤ v → v < many → Keep a (upd H p (.lst xs)) H' → Deck H' a (n + 1) → rIxL K (.ref p) (.int v) H' Q := by
  intro v H' v0 v1 kk d
  have s2 := (s.new hp (.lst xs)).keep kk d
  obtain ⟨y, hy, my⟩ := at_some (xs := xs) v0 (by omega)
  exact ⟨p, xs, v, y, rfl, rfl, SqL.of (s2.at_ (.head _)), hy, k y H' my ((Keep.new hp).trans kk) s2.drop⟩
theorem disp {o : HO} {R : Addr → Hp → Prop} (s : S a n H L) (k : ∀ p, H p = none → S a n (upd H p o) (At a p o :: L) → R p (upd H p o)) : ∀ p, H p = none → R p (upd H p o) := fun p hp => k p hp (s.new hp o)
end S
/-- a deck made -/
theorem S.of_deck {n : Nat} {H : Hp} {R : Addr → Hp → Prop} (k : ∀ (a : Addr) (H' : Hp), H a = none → Same H H' → S a n H' [] → R a H') :
    ∀ p H', H p = none → Same H H' → Deck H' p n → R p H' := fun p H' hp e d => k p H' hp e ⟨d, trivial⟩
/-! ### loops over range(n) -/
theorem for_range0 {n : Nat} {g : TG} {tb : TS} {D : Ends} {σ : L2.St} {H : Hp} (Pv : Nat → L2.St → Hp → Prop) (h0 : Pv 0 σ H)
    (hs : ∀ (i : Nat) σ H, i < n → Pv i σ H → g (.int (i : Int)) σ H fun σ2 H2 => tb { D with nx := Pv (i + 1), ct := Pv (i + 1), bk := D.nx } σ2 H2) (hd : ∀ σ H, Pv n σ H → D.nx σ H) :
    ∃ W : Nat → Nat → L2.St → Hp → Prop, (∃ m, W 0 m σ H) ∧ ∀ i m σ H, W i m σ H →
      ((Itr 0 n).stop i H ∧ D.nx σ H) ∨ ((Itr 0 n).go i H ∧ ∃ N : L2.St → Hp → Prop, (∀ σ' H', N σ' H' → ∃ m', m' < m ∧ W (i + 1) m' σ' H') ∧ ∀ x H', (Itr 0 n).yld i H x H' → g x σ H' fun σ2 H2 => tb { D with nx := N, ct := N, bk := D.nx } σ2 H2) :=
  for_range (lo := 0) Pv h0 (fun i σ H hi p => by rw [Int.zero_add]; exact hs i σ H hi p) hd
/-! ### the value of an operation under another name -/
theorem add_to {i j k : Int} {H : Hp} {Q : VK} (e : i + j = k) (q : Q (.int k) H) : rI0 (fun i j => V.int (i + j)) (.int i) (.int j) H Q := ⟨i, j, rfl, rfl, by
  show Q (.int (i + j)) H
  rw [e]; exact q⟩
theorem sub_to {i j k : Int} {H : Hp} {Q : VK} (e : i - j = k) (q : Q (.int k) H) : rI0 (fun i j => V.int (i - j)) (.int i) (.int j) H Q := ⟨i, j, rfl, rfl, by
  show Q (.int (i - j)) H
  rw [e]; exact q⟩
theorem rI_to {C : Int → Int → Prop} {g : Int → Int → Int} {i j k : Int} {H : Hp} {Q : VK} (c : C i j) (e : g i j = k) (q : Q (.int k) H) : rI C (fun i j => V.int (g i j)) (.int i) (.int j) H Q := ⟨i, j, rfl, rfl, c, by
  show Q (.int (g i j)) H
  rw [e]; exact q⟩
/-- n - 1 of a number from 1 on -/
theorem op_sub1N {X : Cx} : OpR X (binaryOp .Sub) (fun x y H Q => ∃ n : Nat, x = .int (n : Int) ∧ y = .int 1 ∧ 1 ≤ n ∧ Q (.int ((n - 1 : Nat) : Int)) H) := by
  intro pins s σ H x y v u Q I rx ry h
  obtain ⟨n, rfl, rfl, c, q⟩ := h
  have e : ((n - 1 : Nat) : Int) = (n : Int) - 1 := by omega
  rw [e] at q
  exact op_sub pins s σ H _ _ v u Q I rx ry ⟨_, _, rfl, rfl, q⟩
/-! ### tests that are decided -/
section
variable {c A B : Prop} [Decidable c] {i j : Int}
theorem iteY (h : c) (x : A) : if decide c = true then A else B := by rw [if_pos (decide_eq_true h)]; exact x
theorem iteN (h : ¬ c) (x : B) : if decide c = true then A else B := by rw [if_neg (by rw [decide_eq_false h]; decide)]; exact x
theorem iteY' (h : ¬ c) (x : A) : if (!decide c) = true then A else B := by rw [decide_eq_false h, if_pos (by decide)]; exact x
theorem iteN' (h : c) (x : B) : if (!decide c) = true then A else B := by rw [decide_eq_true h, if_neg (by decide)]; exact x
theorem iteVY (h : i = j) (x : A) : if decide (V.int i = V.int j) = true then A else B := iteY (by rw [h]) x
theorem iteVN (h : i ≠ j) (x : B) : if decide (V.int i = V.int j) = true then A else B := iteN (fun e => h (by injection e)) x
theorem iteVY' (h : i ≠ j) (x : A) : if (!decide (V.int i = V.int j)) = true then A else B := iteY' (fun e => h (by injection e)) x
theorem iteVN' (h : i = j) (x : B) : if (!decide (V.int i = V.int j)) = true then A else B := iteN' (by rw [h]) x
end
local macro_rules | `(tactic| walk_at "mem") => `(tactic| first
  | exact .head _
  | exact .tail _ (.head _)
  | exact .tail _ (.tail _ (.head _))
  | exact .tail _ (.tail _ (.tail _ (.head _)))
  | exact .tail _ (.tail _ (.tail _ (.tail _ (.head _))))
  | exact .tail _ (.tail _ (.tail _ (.tail _ (.tail _ (.head _)))))
  | exact .tail _ (.tail _ (.tail _ (.tail _ (.tail _ (.tail _ (.head _)))))))
local macro_rules | `(tactic| walk_at "rd1") => `(tactic| first
  | refine ⟨_, rfl, ?_⟩
  | refine ⟨_, _, rfl, rfl, ?_⟩
  | refine ⟨_, _, _, _, rfl, rfl, SqL.of (by assumption), rfl, ?_⟩
  | refine ⟨_, _, _, _, rfl, rfl, SqT.of (by assumption), rfl, ?_⟩
  | refine ⟨_, _, _, _, rfl, rfl, by assumption, rfl, ?_⟩
  | refine ⟨_, _, rfl, .inl (SqL.of (by assumption)), ?_⟩
  | refine ⟨_, _, rfl, ?_⟩
  | refine ⟨_, _, rfl, .inr (SqT.of (by assumption)), ?_⟩
  | refine And.intro (by first | omega | assumption) ?_
  | refine And.intro ⟨(show -(2 ^ 62) ≤ _ by omega), (by omega), (by omega), (by omega)⟩ ?_
  | refine ⟨(rfl : scal _ _ = true), ?_⟩
  | refine ⟨⟨by decide, by decide⟩, ?_⟩
  | refine ⟨⟨by decide, by decide, by decide⟩, ?_⟩
  | refine ⟨Or.inl ⟨by decide, by decide⟩, ?_⟩
  | refine ⟨Or.inr ⟨by decide, by decide⟩, ?_⟩
  | refine ⟨_, rfl, rfl, (by omega), ?_⟩
  | refine ⟨_, _, rfl, rfl, (by omega), ?_⟩
  | refine ⟨_, _, _, _, rfl, rfl, SqL.of (S.at_ (by assumption) (by walk_at "mem")), rfl, ?_⟩
  | refine ⟨_, _, _, _, rfl, rfl, SqT.of (S.at_ (by assumption) (by walk_at "mem")), rfl, ?_⟩
  | refine ⟨_, _, _, _, true, rfl, .ty _, .base (.tup (S.at_ (by assumption) (by walk_at "mem"))), kit_ty (by decide +kernel), ?_⟩
  | refine ⟨_, _, _, _, true, rfl, .ty _, .base (.lst (S.at_ (by assumption) (by walk_at "mem"))), kit_ty (by decide +kernel), ?_⟩
  | refine ⟨_, _, _, _, true, rfl, .ty _, .base (.tup (by assumption)), kit_ty (by decide +kernel), ?_⟩
  | refine ⟨_, _, _, _, true, rfl, .ty _, .base (.lst (by assumption)), kit_ty (by decide +kernel), ?_⟩
  | refine ⟨_, _, _, _, true, rfl, .ty _, .base (.bl _), kit_ty (by decide +kernel), ?_⟩
  | refine ⟨fun _ => True, _, rfl, .int _, ?_⟩
  | refine And.intro rfl ?_
  | refine ⟨_, _, rfl, (show SqT _ _ _ _ by assumption), rfl, ?_⟩
  | refine ⟨_, _, rfl, SqT.of (by assumption), rfl, ?_⟩
  | refine ⟨_, _, rfl, SqT.of (S.at_ (by assumption) (by walk_at "mem")), rfl, ?_⟩
  | refine ⟨Or.inl ⟨by omega, by omega⟩, ?_⟩
  | refine ⟨Or.inr ⟨by omega, by omega⟩, ?_⟩
  | fail "rd")
local macro_rules | `(tactic| walk_at "if") => `(tactic| first
  | refine iteY (by omega) ?_
  | refine iteN (by omega) ?_
  | refine iteY' (by omega) ?_
  | refine iteN' (by omega) ?_
  | refine iteVY (by omega) ?_
  | refine iteVN (by omega) ?_
  | refine iteVY' (by omega) ?_
  | refine iteVN' (by omega) ?_
  | refine iteT ?_
  | refine iteF ?_)
local macro_rules | `(tactic| walk_at "rs") => `(tactic| repeat walk_at "rd1")
local macro_rules | `(tactic| walk_at "go") => `(tactic| repeat (first | walk_at "rd1" | walk_at "if"))
local macro_rules | `(tactic| walk_at "pick") => `(tactic| (
  refine ⟨_, _, _, rfl, S.d (by assumption), (by omega), (by first | omega | decide +kernel), lt_pow (by first | omega | decide +kernel) (by first | omega | decide +kernel), ?_⟩
  refine S.next (by assumption) ?_))
local macro_rules | `(tactic| walk_at "choose") => `(tactic| (
  refine ⟨(by simp only [List.length_cons, List.length_nil]; decide), fun p hp => ?_⟩
  walk_at "rd"
  refine ⟨_, _, _, rfl, S.d (S.same (by assumption) (same_new hp _)), (by omega), (by decide), lt_pow (by decide) (by decide), ?_⟩
  refine S.choose (by assumption) hp (by simp only [List.length_cons, List.length_nil]; decide) ?_))
theorem Keep.mut {a r : Addr} {H H' : Hp} {o : HO} (k : Keep a H H') (h : H r = none) : Keep a H (L2.upd H' r o) := fun b u n e => by
  rw [upd_ne (ne_of_none e h)]
  exact k b u n e
theorem Deck.mut {a r : Addr} {H : Hp} {n : Nat} {o : HO} (d : Deck H a n) (h : r ≠ a) : Deck (upd H r o) a n := by
  obtain ⟨d0, d1, d2, h1, q⟩ := d
  exact ⟨d0, d1, d2, by rw [upd_ne (Ne.symm h)]; exact h1, q⟩
theorem nat_of {v : Int} (h : 0 ≤ v) : ∃ n : Nat, v = (n : Int) := Int.eq_ofNat_of_zero_le h
theorem Keep.none_of {a p : Addr} {H H' : Hp} {n : Nat} (k : Keep a H H') (d : Deck H' a n) (h : H' p = none) : H p = none := by
  cases e : H p with
  | none => rfl
  | some o => rw [k p o (d.ne h) e] at h; cases h
/-! ### things of any kind -/
inductive Th (B : Addr → Prop) (H : Hp) : V → Prop where
  | int (i : Int) : Th B H (.int i)
  | bl (b : Bool) : Th B H (.bl b)
  | non : Th B H .non
  | str (z : Str) : Th B H (.str z)
  | lst (p : Addr) (xs : List V) (n : B p) (h : H p = some (.lst xs)) (t : ∀ x ∈ xs, Th B H x) : Th B H (.ref p)
  | tup (p : Addr) (xs : List V) (n : B p) (h : H p = some (.tup xs)) (t : ∀ x ∈ xs, Th B H x) : Th B H (.ref p)
theorem Th.keep {B B' : Addr → Prop} {H H' : Hp} {v : V} (k : ∀ p o, B p → H p = some o → H' p = some o) (e : ∀ p, B p → B' p) (h : Th B H v) : Th B' H' v := by
  induction h with
  | int i => exact .int i
  | bl b => exact .bl b
  | non => exact .non
  | str z => exact .str z
  | lst p xs n h t ih => exact .lst p xs (e p n) (k _ _ n h) ih
  | tup p xs n h t ih => exact .tup p xs (e p n) (k _ _ n h) ih
def isI : V → Bool
  | .int _ => true
  | _ => false
def sp_isI (K : PySem.W.Frag) : Sp := fun vs H Q _ => ∃ (B : Addr → Prop) (v : V), vs = [v] ∧ Th B H v ∧ Q (.bl (isI v)) H
/-! ### worths of pairs: the mathematics -/
/-- the worth by the size S -/
def pwS (S t : Int) : Int := if 2 * (t % S) < S then t % S else t % S - S
/-- the law's own -/
def lwS (S t : Int) : Int := if t % S ≥ S - S / 2 then t % S - S else t % S
theorem two_pos (k : Nat) : (0 : Int) < 2 ^ k := by
  have h := Nat.two_pow_pos k
  have e : (2 : Int) ^ k = ((2 ^ k : Nat) : Int) := by rw [Int.natCast_pow]; rfl
  rw [e]; omega
theorem two_cast (k : Nat) : (2 : Int) ^ k = ((2 ^ k : Nat) : Int) := by rw [Int.natCast_pow]; rfl
theorem div2 {i : Int} {l : Nat} (h : l < 9000) : CDivW i (2 ^ l) := ⟨two_pos l, by
  rw [two_cast, Int.natAbs_natCast, Nat.log2_two_pow]; exact h⟩
theorem two_even {w : Nat} (h : 1 ≤ w) : (2 : Int) ^ w = 2 * 2 ^ (w - 1) := by
  obtain ⟨k, rfl⟩ : ∃ k, w = k + 1 := ⟨w - 1, by omega⟩
  rw [Int.pow_succ, Nat.add_sub_cancel]; omega
theorem lw_pw {S t : Int} (h : ∃ Z, S = 2 * Z) : lwS S t = pwS S t := by
  obtain ⟨Z, rfl⟩ := h
  unfold lwS pwS
  generalize t % (2 * Z) = r
  by_cases c : 2 * r < 2 * Z
  · rw [if_pos c, if_neg (by omega)]
  · rw [if_neg c, if_pos (by omega)]
theorem lw_pw2 {w : Nat} {t : Int} (h : 1 ≤ w) : lwS (2 ^ w) t = pwS (2 ^ w) t := lw_pw ⟨_, two_even h⟩
theorem pw_range {S t : Int} (h : 0 < S) : -S ≤ 2 * pwS S t ∧ 2 * pwS S t < S := by
  have h1 := Int.emod_nonneg t (b := S) (by omega)
  have h2 := Int.emod_lt_of_pos t h
  unfold pwS
  split <;> omega
theorem pw_cong (S t : Int) : ∃ k, pwS S t = t + k * S := by
  have h := Int.emod_add_mul_ediv t S
  unfold pwS
  split
  · exact ⟨-(t / S), by rw [Int.neg_mul, Int.mul_comm (t / S)]; omega⟩
  · refine ⟨-(t / S) - 1, ?_⟩
    rw [Int.sub_mul, Int.neg_mul, Int.mul_comm (t / S)]; omega
theorem pw_mod {S t t' : Int} (h : t % S = t' % S) : pwS S t = pwS S t' := by
  unfold pwS; rw [h]
theorem pw_addmod {S a b : Int} : pwS S (a + b % S) = pwS S (a + b) := pw_mod (by rw [Int.add_emod, Int.emod_emod, ← Int.add_emod])
theorem mulk {k S x : Int} (h : 0 < S) (h1 : -(2 * S) < x) (h2 : x < S) (e : x = k * S) : k = 0 ∨ k = -1 := by
  rcases Int.lt_trichotomy k 0 with c | c | c
  · by_cases c2 : k = -1
    · exact .inr c2
    · have := Int.mul_le_mul_of_nonneg_right (show k ≤ -2 by omega) (Int.le_of_lt h)
      omega
  · exact .inl c
  · have := Int.mul_le_mul_of_nonneg_right (show 1 ≤ k by omega) (Int.le_of_lt h)
    omega
/-- the look and the worth -/
theorem look_right {V u a b : Int} (hV : 0 < V) (hu : 0 < u) (hZ : ∃ Z, V = 2 * Z) (h : pwS (V * u) (a + b) ≥ u - V * u / 2) :
    pwS V (a / u + b / u) * u ≤ pwS (V * u) (a + b) ∧ pwS (V * u) (a + b) ≤ pwS V (a / u + b / u) * u + 2 * u - 2 := by
  obtain ⟨Z, rfl⟩ := hZ
  have hS : 0 < 2 * Z * u := Int.mul_pos hV hu
  have r1 := pw_range (t := a + b) hS
  have r2 := pw_range (t := a / u + b / u) hV
  obtain ⟨k1, e1⟩ := pw_cong (2 * Z * u) (a + b)
  obtain ⟨k2, e2⟩ := pw_cong (2 * Z) (a / u + b / u)
  have ea := Int.emod_add_mul_ediv a u
  have eb := Int.emod_add_mul_ediv b u
  have a1 := Int.emod_nonneg a (b := u) (by omega)
  have a2 := Int.emod_lt_of_pos a hu
  have b1 := Int.emod_nonneg b (b := u) (by omega)
  have b2 := Int.emod_lt_of_pos b hu
  generalize pwS (2 * Z * u) (a + b) = F at *
  generalize pwS (2 * Z) (a / u + b / u) = L at *
  generalize a / u = A at *
  generalize b / u = B at *
  generalize a % u = x at *
  generalize b % u = y at *
  have e3 : L * u = u * A + u * B + k2 * (2 * Z * u) := by
    rw [e2, Int.add_mul, Int.add_mul, Int.mul_comm A, Int.mul_comm B, Int.mul_assoc k2]
  have e4 : F - L * u - (x + y) = (k1 - k2) * (2 * Z * u) := by
    rw [Int.sub_mul]; omega
  have hL1 : -(Z * u) ≤ L * u := by
    have := Int.mul_le_mul_of_nonneg_right (show -Z ≤ L by omega) (Int.le_of_lt hu)
    rw [Int.neg_mul] at this; exact this
  have hL2 : L * u ≤ Z * u - u := by
    have := Int.mul_le_mul_of_nonneg_right (show L ≤ Z - 1 by omega) (Int.le_of_lt hu)
    rw [Int.sub_mul, Int.one_mul] at this; exact this
  have eZ : 2 * Z * u = 2 * (Z * u) := by rw [Int.mul_assoc]
  have hu' : u ≤ Z * u := by
    have := Int.mul_le_mul_of_nonneg_right (show 1 ≤ Z by omega) (Int.le_of_lt hu)
    rw [Int.one_mul] at this; exact this
  rw [eZ] at e4 r1 h hS
  generalize L * u = Lu at *
  generalize Z * u = M at *
  rcases mulk hS (by omega) (by omega) e4 with c | c <;> rw [c] at e4 <;> omega
/-- two looks at the same -/
theorem look_near {V u a b t : Int} (hV : 0 < V) (hu : 0 < u) (h : t % (V * u) = (a + b) % (V * u)) :
    ((t % (V * u)) / u - pwS V (a / u + b / u)) % V = 0 ∨ ((t % (V * u)) / u - pwS V (a / u + b / u)) % V = 1 % V := by
  obtain ⟨k2, e2⟩ := pw_cong V (a / u + b / u)
  have ea := Int.emod_add_mul_ediv a u
  have eb := Int.emod_add_mul_ediv b u
  have a1 := Int.emod_nonneg a (b := u) (by omega)
  have a2 := Int.emod_lt_of_pos a hu
  have b1 := Int.emod_nonneg b (b := u) (by omega)
  have b2 := Int.emod_lt_of_pos b hu
  have e0 := Int.emod_add_mul_ediv (a + b) (V * u)
  rw [h]
  have e1 : (a + b) % (V * u) = (a % u + b % u) + u * (a / u + b / u - V * ((a + b) / (V * u))) := by
    rw [Int.mul_sub, Int.mul_add, ← Int.mul_assoc u V, Int.mul_comm u V]; omega
  have e5 : (a + b) % (V * u) / u = (a % u + b % u) / u + (a / u + b / u - V * ((a + b) / (V * u))) := by
    rw [e1, Int.add_mul_ediv_left _ _ (by omega)]
  rw [e5, e2]
  have e6 : (a % u + b % u) / u + (a / u + b / u - V * ((a + b) / (V * u))) - (a / u + b / u + k2 * V) = (a % u + b % u) / u + V * (-((a + b) / (V * u)) - k2) := by
    rw [Int.mul_sub, Int.mul_neg, Int.mul_comm V k2]; omega
  rw [e6, Int.add_mul_emod_self_left]
  by_cases c : a % u + b % u < u
  · left
    rw [Int.ediv_eq_zero_of_lt (by omega) c]
    exact Int.zero_emod _
  · right
    have e7 : (a % u + b % u) / u = 1 := by
      clear ea eb e0 e1 e5 e6 e2
      generalize a % u = a at *
      generalize b % u = b at *
      have := Int.add_mul_ediv_left (a + b - u) (b := u) 1 (by omega)
      rw [Int.mul_one, Int.sub_add_cancel, Int.ediv_eq_zero_of_lt (a := a + b - u) (by omega) (by omega)] at this
      omega
    rw [e7]
/-! three in two -/
def maj (a b c : Nat) : Nat := a &&& b ||| a &&& c ||| b &&& c
theorem csa (a : Nat) : ∀ b c : Nat, (a ^^^ b ^^^ c) + 2 * maj a b c = a + b + c := by
  induction a using Nat.strongRecOn with
  | _ a ih =>
    intro b c
    by_cases h0 : a = 0
    · subst h0
      induction b using Nat.strongRecOn generalizing c with
      | _ b ihb =>
        by_cases hb : b = 0
        · subst hb
          simp [maj]
        · have h := ihb (b / 2) (by omega) (c / 2)
          unfold maj at h ⊢
          rw [Nat.zero_xor, Nat.zero_and, Nat.zero_and, Nat.zero_or, Nat.zero_or] at h ⊢
          rw [← Nat.xor_div_two, ← Nat.and_div_two] at h
          have o1 := @Nat.xor_mod_two_eq_one b c
          have a1 := @Nat.and_mod_two_eq_one b c
          omega
    · have h := ih (a / 2) (by omega) (b / 2) (c / 2)
      unfold maj at h ⊢
      rw [← Nat.xor_div_two, ← Nat.xor_div_two, ← Nat.and_div_two, ← Nat.and_div_two, ← Nat.and_div_two, ← Nat.or_div_two, ← Nat.or_div_two] at h
      have o1 := @Nat.xor_mod_two_eq_one a b
      have o2 := @Nat.xor_mod_two_eq_one (a ^^^ b) c
      have a1 := @Nat.and_mod_two_eq_one a b
      have a2 := @Nat.and_mod_two_eq_one a c
      have a3 := @Nat.and_mod_two_eq_one b c
      have r1 := @Nat.or_mod_two_eq_one (a &&& b) (a &&& c)
      have r2 := @Nat.or_mod_two_eq_one (a &&& b ||| a &&& c) (b &&& c)
      omega
theorem xor_bit (a b c k : Nat) : (a ^^^ b ^^^ c) / 2 ^ k % 2 = (a / 2 ^ k % 2 + b / 2 ^ k % 2 + c / 2 ^ k % 2) % 2 := by
  rw [← Nat.shiftRight_eq_div_pow, ← Nat.shiftRight_eq_div_pow, ← Nat.shiftRight_eq_div_pow, ← Nat.shiftRight_eq_div_pow, Nat.shiftRight_xor_distrib, Nat.shiftRight_xor_distrib]
  have o1 := @Nat.xor_mod_two_eq_one (a >>> k) (b >>> k)
  have o2 := @Nat.xor_mod_two_eq_one (a >>> k ^^^ b >>> k) (c >>> k)
  omega
theorem maj_bit (a b c k : Nat) : maj a b c / 2 ^ k % 2 = (a / 2 ^ k % 2 + b / 2 ^ k % 2 + c / 2 ^ k % 2) / 2 := by
  unfold maj
  rw [← Nat.shiftRight_eq_div_pow, ← Nat.shiftRight_eq_div_pow, ← Nat.shiftRight_eq_div_pow, ← Nat.shiftRight_eq_div_pow, Nat.shiftRight_or_distrib, Nat.shiftRight_or_distrib, Nat.shiftRight_and_distrib, Nat.shiftRight_and_distrib, Nat.shiftRight_and_distrib]
  generalize a >>> k = a
  generalize b >>> k = b
  generalize c >>> k = c
  have a1 := @Nat.and_mod_two_eq_one a b
  have a2 := @Nat.and_mod_two_eq_one a c
  have a3 := @Nat.and_mod_two_eq_one b c
  have r1 := @Nat.or_mod_two_eq_one (a &&& b) (a &&& c)
  have r2 := @Nat.or_mod_two_eq_one (a &&& b ||| a &&& c) (b &&& c)
  omega
theorem xor3_lt {a b c w : Nat} (ha : a < 2 ^ w) (hb : b < 2 ^ w) (hc : c < 2 ^ w) : a ^^^ b ^^^ c < 2 ^ w := Nat.xor_lt_two_pow (Nat.xor_lt_two_pow ha hb) hc
theorem carry_bit {m w k : Nat} (h : k + 1 < w) : (2 * m % 2 ^ w) / 2 ^ (k + 1) % 2 = m / 2 ^ k % 2 := by
  have e : (2 * m % 2 ^ w).testBit (k + 1) = (2 * m).testBit (k + 1) := by
    rw [Nat.testBit_mod_two_pow]; simp [h]
  rw [Nat.testBit_eq_decide_div_mod_eq, Nat.testBit_eq_decide_div_mod_eq] at e
  have e2 : 2 * m / 2 ^ (k + 1) = m / 2 ^ k := by
    rw [Nat.pow_succ, Nat.mul_comm (2 ^ k), ← Nat.div_div_eq_div_mul]
    congr 1; omega
  rw [e2] at e
  have e3 := decide_eq_decide.mp e
  omega
theorem carry_even {m w : Nat} (h : 1 ≤ w) : (2 * m % 2 ^ w) % 2 = 0 := by
  obtain ⟨k, rfl⟩ : ∃ k, w = k + 1 := ⟨w - 1, by omega⟩
  rw [Nat.pow_succ, Nat.mul_comm (2 ^ k), Nat.mul_mod_mul_left]
  omega
/-! ### max of a tuple of two ints -/
section
open PySem.Spec PyProof.Rows
theorem cr_maxT2 {X : Cx} (hc : X.calm = true) : CallR X (.builtin "max") (fun vs H Q => ∃ (a : Addr) (i j : Int), vs = [.ref a] ∧ SqT X.K H a [.int i, .int j] ∧ Q (.int (if j > i then j else i)) H) := by
  intro pins sh sg H xs us Q I r hyp
  obtain ⟨l, i, j, rfl, hl, q⟩ := hyp
  rw [Vals.ref1 r]
  obtain ⟨its, rv, hT, _⟩ := I.tuple hl
  obtain ⟨u, w', rfl, ⟨t, rfl⟩, ⟨t', rfl⟩⟩ := vals2 rv
  have hT2 : sh.heap.IsTuple l (intItems #[(i, t), (j, t')]) := by
    obtain ⟨o, h1, h2, n, h3⟩ := hT
    exact ⟨o, h1, h2, n, by simpa [intItems] using h3⟩
  have hlt : l < sh.heap.objs.size := by obtain ⟨_, e, _⟩ := hT; exact Heap.lt_size e
  refine call_max_walk (wpAny_pyIter_tuple hT2 ?_)
  refine ⟨_, [_, l], [_], _, _, _, _, rfl, Walks.tuple (A := X.A.in1) (I.ok.hd hc) _ l (Nat.ne_of_lt hlt) (intItems #[(i, t), (j, t')]),
    ⟨⟨_, Heap.get?_push_size _ rfl, rfl, rfl⟩, hT2.push _⟩, fun z hz => ?_, by simp [intItems], CmpOf.ints_gt (numAt #[(i, t), (j, t')]) (fun _ _ => intItems_at), fun v h' tk hP hk => ?_⟩
  · show z < (sh.heap.push _).objs.size
    rw [Heap.size_push]
    rcases List.mem_cons.mp hz with rfl | hz
    · exact Nat.lt_succ_self _
    · rcases List.mem_cons.mp hz with rfl | hz
      · exact Nat.lt_succ_of_lt hlt
      · cases hz
  · have hold : ∀ z o, sh.heap.get? z = some o → h'.get? z = some o := fun z o e => by
      refine hk z o (fun hm => ?_) (Heap.get?_push_of_some _ e)
      rcases List.mem_cons.mp hm with e1 | hm
      · have := Heap.lt_size e; rw [e1] at this; exact Nat.lt_irrefl _ this
      · cases hm
    refine ⟨.int (if j > i then j else i), H, I.kept hold, ?_, q⟩
    have hP' : (intItems #[(i, t), (j, t')])[argBest (fun a b => decide (numAt #[(i, t), (j, t')] a > numAt #[(i, t), (j, t')] b)) 1]? = some v := by
      have hsz2 : (intItems #[(i, t), (j, t')]).size - 1 = 1 := by simp [intItems]
      rw [← hsz2]; exact hP
    by_cases hba : j > i
    · have e : argBest (fun a b => decide (numAt #[(i, t), (j, t')] a > numAt #[(i, t), (j, t')] b)) 1 = 1 := by simp [argBest, numAt, hba]
      rw [e] at hP'
      rw [if_pos hba]
      have : v = .int j t' := by simpa [intItems] using hP'.symm
      exact ⟨t', this⟩
    · have e : argBest (fun a b => decide (numAt #[(i, t), (j, t')] a > numAt #[(i, t), (j, t')] b)) 1 = 0 := by simp [argBest, numAt, hba]
      rw [e] at hP'
      rw [if_neg hba]
      have : v = .int i t := by simpa [intItems] using hP'.symm
      exact ⟨t, this⟩
end
/-! ### data that stands at places of which B is true -/
mutual
inductive Dt (B : Addr → Prop) (H : Hp) : V → PyData → Prop
  | non : Dt B H .non .none
  | bl (z : Bool) : Dt B H (.bl z) (.bool z)
  | int (i : Int) : Dt B H (.int i) (.int i)
  | str (x : Str) : Dt B H (.str x) (.str x)
  | lst {p : Addr} {xs : List V} {ds : List PyData} : B p → H p = some (.lst xs) → DtAll B H xs ds → Dt B H (.ref p) (.list ds)
  | tup {p : Addr} {xs : List V} {ds : List PyData} : B p → H p = some (.tup xs) → DtAll B H xs ds → Dt B H (.ref p) (.tuple ds)
inductive DtAll (B : Addr → Prop) (H : Hp) : List V → List PyData → Prop
  | nil : DtAll B H [] []
  | cons {v : V} {vs : List V} {d : PyData} {ds : List PyData} : Dt B H v d → DtAll B H vs ds → DtAll B H (v :: vs) (d :: ds)
end
section
variable {B B' : Addr → Prop} {H H' : Hp}
mutual
theorem Dt.mono (k : ∀ p o, B p → H p = some o → B' p ∧ H' p = some o) : ∀ (d : PyData) (v : V), Dt B H v d → Dt B' H' v d
  | .none, _, h => by cases h; exact .non
  | .bool _, _, h => by cases h; exact .bl _
  | .int _, _, h => by cases h; exact .int _
  | .str _, _, h => by cases h; exact .str _
  | .list ds, _, h => by
    cases h with
    | lst b e a => exact .lst (k _ _ b e).1 (k _ _ b e).2 (Dt.monoAll k ds _ a)
  | .tuple ds, _, h => by
    cases h with
    | tup b e a => exact .tup (k _ _ b e).1 (k _ _ b e).2 (Dt.monoAll k ds _ a)
  | .dict _, _, h => by cases h
theorem Dt.monoAll (k : ∀ p o, B p → H p = some o → B' p ∧ H' p = some o) : ∀ (ds : List PyData) (vs : List V), DtAll B H vs ds → DtAll B' H' vs ds
  | [], _, h => by cases h; exact .nil
  | d :: ds, _, h => by
    cases h with
    | cons x y => exact .cons (Dt.mono k d _ x) (Dt.monoAll k ds _ y)
end
mutual
theorem Dt.dp : ∀ (d : PyData) (v : V), Dt B H v d → Dp K H v d
  | .none, _, h => by cases h; exact .non
  | .bool _, _, h => by cases h; exact .bl _
  | .int _, _, h => by cases h; exact .int _
  | .str _, _, h => by cases h; exact .str _
  | .list ds, _, h => by
    cases h with
    | lst b e a => exact .lst (SqL.of e) (Dt.dpAll ds _ a)
  | .tuple ds, _, h => by
    cases h with
    | tup b e a => exact .tup (SqT.of e) (Dt.dpAll ds _ a)
  | .dict _, _, h => by cases h
theorem Dt.dpAll : ∀ (ds : List PyData) (vs : List V), DtAll B H vs ds → DpAll K H vs ds
  | [], _, h => by cases h; exact .nil
  | d :: ds, _, h => by
    cases h with
    | cons x y => exact .cons (Dt.dp d _ x) (Dt.dpAll ds _ y)
end
theorem DtAll.app : ∀ {vs : List V} {ds : List PyData} {us : List V} {es : List PyData}, DtAll B H vs ds → DtAll B H us es → DtAll B H (vs ++ us) (ds ++ es)
  | [], _, _, _, h, g => by cases h; exact g
  | v :: vs, _, _, _, h, g => by
    cases h with
    | cons x y => exact .cons x (DtAll.app y g)
theorem DtAll.ints : ∀ (ns : List Int), DtAll B H (ns.map V.int) (ns.map PyData.int)
  | [] => .nil
  | n :: r => .cons (.int n) (DtAll.ints r)
theorem DtAll.len : ∀ {vs : List V} {ds : List PyData}, DtAll B H vs ds → vs.length = ds.length
  | [], _, h => by cases h; rfl
  | v :: vs, _, h => by
    cases h with
    | cons x y => rw [List.length_cons, List.length_cons, DtAll.len y]
end
theorem Dt.list_inv {B : Addr → Prop} {H : Hp} {v : V} {ds : List PyData} (h : Dt B H v (.list ds)) : ∃ l acc, v = .ref l ∧ B l ∧ H l = some (.lst acc) ∧ DtAll B H acc ds := by
  cases h with
  | lst x y z => exact ⟨_, _, rfl, x, y, z⟩
/-- data, as a fact beside the deck -/
def Da (a : Addr) (v : V) (d : PyData) : Fact a := ⟨fun H => Dt (fun p => p ≠ a) H v d, fun k h => Dt.mono (fun p o b e => ⟨b, k p o b e⟩) _ _ h⟩
/-- new data is no deck -/
theorem Dt.new {a : Addr} {H0 H : Hp} {v : V} {d : PyData} {u : HO} (h : Dt (fun p => H0 p = none) H v d) (ha : H0 a = some u) : Dt (fun p => p ≠ a) H v d :=
  Dt.mono (fun p o b e => And.intro (ne_of_none ha b).symm e) _ _ h
/-! ints, and tuples of ints, in lists -/
def flat : PyData → Bool
  | .int _ => true
  | .bool _ => true
  | .none => true
  | _ => false
theorem flat_ok {d : PyData} (h : flat d = true) : d.canLay0 = true ∧ d.depth = 0 := by
  cases d with
  | int i => exact ⟨by simp only [PyData.canLay0], by simp only [PyData.depth]⟩
  | bool i => exact ⟨by simp only [PyData.canLay0], by simp only [PyData.depth]⟩
  | none => exact ⟨by simp only [PyData.canLay0], by simp only [PyData.depth]⟩
  | str x => cases h
  | list x => cases h
  | tuple x => cases h
  | dict x => cases h
theorem flats_ok : ∀ {ds : List PyData}, (∀ d ∈ ds, flat d = true) → PyData.canLayAll0 ds = true ∧ PyData.depthAll ds = 0
  | [], _ => ⟨by simp only [PyData.canLayAll0], by simp only [PyData.depthAll]⟩
  | d :: ds, h => by
    obtain ⟨h1, h2⟩ := flat_ok (h d (.head _))
    obtain ⟨h3, h4⟩ := flats_ok (ds := ds) fun x m => h x (.tail _ m)
    exact ⟨by simp only [PyData.canLayAll0]; rw [h1, h3]; rfl, by simp only [PyData.depthAll]; rw [h2, h4]; rfl⟩
theorem flats_ints {ns : List Int} : ∀ d ∈ ns.map PyData.int, flat d = true := fun d m => by
  obtain ⟨n, _, rfl⟩ := List.mem_map.mp m
  rfl
theorem shaped_of {d : PyData} (h1 : d.canLay0 = true) (h2 : d.depth ≤ 64) : SeqAt.shaped d = true := by
  unfold SeqAt.shaped
  rw [h1, decide_eq_true h2]; rfl
theorem shaped_flats {ds : List PyData} (h : ∀ d ∈ ds, flat d = true) : SeqAt.shaped (.list ds) = true := by
  obtain ⟨h1, h2⟩ := flats_ok h
  refine shaped_of ?_ ?_
  · simp only [PyData.canLay0]; exact h1
  · simp only [PyData.depth]; omega
theorem shaped_flatsT {ds : List PyData} (h : ∀ d ∈ ds, flat d = true) : SeqAt.shaped (.tuple ds) = true := by
  obtain ⟨h1, h2⟩ := flats_ok h
  refine shaped_of ?_ ?_
  · simp only [PyData.canLay0]; exact h1
  · simp only [PyData.depth]; omega
theorem shaped_ints (ns : List Int) : SeqAt.shaped (.list (ns.map PyData.int)) = true := shaped_flats flats_ints
theorem shaped_intsT (ns : List Int) : SeqAt.shaped (.tuple (ns.map PyData.int)) = true := shaped_flatsT flats_ints
theorem eqv_ints : ∀ (ns ms : List Int), PyData.eqvAll (ns.map PyData.int) (ms.map PyData.int) = decide (ns = ms)
  | [], [] => by simp [PyData.eqvAll]
  | [], _ :: _ => by simp [PyData.eqvAll]
  | _ :: _, [] => by simp [PyData.eqvAll]
  | n :: ns, m :: ms => by
    simp only [List.map_cons, PyData.eqvAll, PyData.eqv]
    rw [eqv_ints ns ms]
    by_cases h : n = m
    · subst h; simp
    · simp [h]
/-- a list of tuples of ints -/
def tupsI (xs : List (List Int)) : PyData := .list (xs.map fun ns => .tuple (ns.map PyData.int))
theorem tups_ok : ∀ (xs : List (List Int)), PyData.canLayAll0 (xs.map fun ns => .tuple (ns.map PyData.int)) = true ∧ PyData.depthAll (xs.map fun ns => .tuple (ns.map PyData.int)) ≤ 1
  | [] => ⟨by simp only [List.map_nil, PyData.canLayAll0], by simp only [List.map_nil, PyData.depthAll]; omega⟩
  | ns :: xs => by
    obtain ⟨h1, h2⟩ := tups_ok xs
    obtain ⟨h3, h4⟩ := flats_ok (flats_ints (ns := ns))
    refine ⟨?_, ?_⟩
    · simp only [List.map_cons, PyData.canLayAll0, PyData.canLay0]
      rw [h1, h3]; rfl
    · simp only [List.map_cons, PyData.depthAll, PyData.depth]
      omega
theorem shaped_tups (xs : List (List Int)) : SeqAt.shaped (tupsI xs) = true := by
  obtain ⟨h1, h2⟩ := tups_ok xs
  unfold tupsI
  refine shaped_of ?_ ?_
  · simp only [PyData.canLay0]; exact h1
  · simp only [PyData.depth]; omega
theorem eqv_tups (xs : List (List Int)) : PyData.eqv (tupsI xs) (tupsI xs) = true := SeqAt.eqv_refl _ (by
  unfold tupsI
  simp only [PyData.canLay0]
  exact (tups_ok xs).1)
theorem neD_same {K : PySem.W.Frag} {H : Hp} {x y : V} {d : PyData} {Q : VK} (h1 : Dp K H x d) (h2 : Dp K H y d) (hs : SeqAt.shaped d = true) (q : Q (.bl false) H) : rNeD K x y H Q :=
  ⟨d, d, h1, h2, hs, hs, by rw [SeqAt.eqv_refl d (SeqAt.canLay_of_shaped hs)]; exact q⟩
theorem eqD_same {K : PySem.W.Frag} {H : Hp} {x y : V} {d : PyData} {Q : VK} (h1 : Dp K H x d) (h2 : Dp K H y d) (hs : SeqAt.shaped d = true) (q : Q (.bl true) H) : rEqD K x y H Q :=
  ⟨d, d, h1, h2, hs, hs, by rw [SeqAt.eqv_refl d (SeqAt.canLay_of_shaped hs)]; exact q⟩
theorem shaped_bool (z : Bool) : SeqAt.shaped (.bool z) = true := shaped_of (by simp only [PyData.canLay0]) (by simp only [PyData.depth]; omega)
theorem neD_bl {K : PySem.W.Frag} {H : Hp} {x y : Bool} {Q : VK} (e : x = y) (q : Q (.bl false) H) : rNeD K (.bl x) (.bl y) H Q := by
  subst e
  exact neD_same (.bl _) (.bl _) (shaped_bool _) q
theorem neD_nil {K : PySem.W.Frag} {H : Hp} {x y : V} {ns : List Int} {Q : VK} (hne : ns ≠ []) (h1 : Dp K H x (.list (ns.map PyData.int))) (h2 : Dp K H y (.list [])) (q : Q (.bl true) H) : rNeD K x y H Q := by
  cases ns with
  | nil => exact absurd rfl hne
  | cons n r => exact ⟨_, _, h1, h2, shaped_ints _, shaped_ints [], by simp only [List.map_cons, PyData.eqv, PyData.eqvAll]; exact q⟩
theorem dp_ints {K : PySem.W.Frag} {H : Hp} {l : Addr} {ns : List Int} (h : H l = some (.lst (ns.map V.int))) : Dp K H (.ref l) (.list (ns.map PyData.int)) := Dt.dp (B := fun _ => True) _ _ (.lst trivial h (DtAll.ints ns))
theorem inV_mem {x : Int} {xs : List Int} (h : x ∈ xs) : inV (.int x) (xs.map V.int) = true := by
  unfold inV
  rw [List.any_map, List.any_eq_true]
  exact ⟨x, h, by simp [eqV]⟩
theorem flat_all (xs : List Int) : (xs.map V.int).all flatV = true := by
  rw [List.all_map, List.all_eq_true]
  intro x _
  rfl
/-! ### which figures serve: the mathematics -/
def absI (r : Int) : Int := if r < 0 then -r else r
def svs (b m f d r : Int) : Bool := decide ((b - 1) * absI (r - f * d) ≤ m * d)
theorem abs_mul {c x : Int} (h : 0 ≤ c) : c * absI x = absI (c * x) := by
  unfold absI
  by_cases h1 : x < 0
  · rw [if_pos h1]
    by_cases h2 : c * x < 0
    · rw [if_pos h2, Int.mul_neg]
    · have := Int.mul_nonpos_of_nonneg_of_nonpos h (show x ≤ 0 by omega)
      rw [if_neg h2, Int.mul_neg]; omega
  · rw [if_neg h1, if_neg]
    have := Int.mul_nonneg h (show 0 ≤ x by omega)
    omega
theorem abs_le {x y : Int} : absI x ≤ y ↔ -y ≤ x ∧ x ≤ y := by
  unfold absI
  split <;> omega
theorem svs_iff {b m f d r : Int} (hb : 2 ≤ b) : svs b m f d r = true ↔ (b - 1) * r - m * d ≤ f * ((b - 1) * d) ∧ f * ((b - 1) * d) ≤ (b - 1) * r + m * d := by
  unfold svs
  rw [decide_eq_true_iff, abs_mul (by omega), abs_le, Int.mul_sub, show (b - 1) * (f * d) = f * ((b - 1) * d) by rw [← Int.mul_assoc, Int.mul_comm (b - 1) f, Int.mul_assoc]]
  omega
/-- the least and the greatest figure that serves -/
def svL (b m d r : Int) : Int := -((m * d - (b - 1) * r) / ((b - 1) * d))
def svU (b m d r : Int) : Int := ((b - 1) * r + m * d) / ((b - 1) * d)
theorem svs_LU {b m f d r : Int} (hb : 2 ≤ b) (hd : 1 ≤ d) : svs b m f d r = true ↔ svL b m d r ≤ f ∧ f ≤ svU b m d r := by
  have hN : 0 < (b - 1) * d := Int.mul_pos (by omega) (by omega)
  rw [svs_iff hb]
  unfold svL svU
  rw [Int.le_ediv_iff_mul_le hN]
  have e : -((m * d - (b - 1) * r) / ((b - 1) * d)) ≤ f ↔ -f ≤ (m * d - (b - 1) * r) / ((b - 1) * d) := by omega
  rw [e, Int.le_ediv_iff_mul_le hN, Int.neg_mul]
  omega
theorem LU {b m d r : Int} (hb : 2 ≤ b) (hm : b ≤ 2 * m) (hd : 1 ≤ d) (h : (b - 1) * absI r ≤ b * m * d) : svL b m d r ≤ svU b m d r ∧ svL b m d r ≤ m ∧ -m ≤ svU b m d r := by
  have hN : 0 < (b - 1) * d := Int.mul_pos (by omega) (by omega)
  rw [abs_mul (by omega), abs_le] at h
  have e1 : b * m * d = m * ((b - 1) * d) + m * d := by
    rw [← Int.mul_assoc, ← Int.add_mul]
    congr 1
    rw [Int.mul_sub, Int.mul_one, Int.mul_comm m b]; omega
  have e2 : (b - 1) * d = b * d - d := by rw [Int.sub_mul, Int.one_mul]
  have e3 : b * d ≤ 2 * (m * d) := by
    have := Int.mul_le_mul_of_nonneg_right hm (show 0 ≤ d by omega)
    rw [Int.mul_assoc] at this; exact this
  rw [e1] at h
  unfold svL svU
  generalize (b - 1) * r = A at *
  generalize hX : m * d = X at *
  generalize hNe : (b - 1) * d = N at *
  have a1 := Int.emod_nonneg (A + X) (b := N) (by omega)
  have a2 := Int.emod_lt_of_pos (A + X) hN
  have a3 := Int.emod_add_mul_ediv (A + X) N
  have b1 := Int.emod_nonneg (X - A) (b := N) (by omega)
  have b2 := Int.emod_lt_of_pos (X - A) hN
  have b3 := Int.emod_add_mul_ediv (X - A) N
  refine ⟨?_, ?_, ?_⟩
  · have c1 : N * ((A + X) / N + (X - A) / N) > -N - 1 + 1 := by
      rw [Int.mul_add]; omega
    have c2 : N * (-1) < N * ((A + X) / N + (X - A) / N) := by rw [Int.mul_neg, Int.mul_one]; omega
    have := Int.lt_of_mul_lt_mul_left c2 (by omega)
    omega
  · have : -m ≤ (X - A) / N := by
      rw [Int.le_ediv_iff_mul_le hN, Int.neg_mul]; omega
    omega
  · rw [Int.le_ediv_iff_mul_le hN, Int.neg_mul]; omega
/-- what is within an interval, of all numbers below n -/
theorem filter_iv {n lo hi : Nat} {p : Nat → Bool} (h1 : lo ≤ hi) (h2 : hi ≤ n) (h : ∀ i, i < n → (p i = true ↔ lo ≤ i ∧ i < hi)) : (List.range n).filter p = List.range' lo (hi - lo) := by
  have e : List.range n = List.range' 0 lo ++ List.range' lo (hi - lo) ++ List.range' hi (n - hi) := by
    have e1 := List.range'_append_1 (s := 0) (m := lo) (n := hi - lo)
    have e2 := List.range'_append_1 (s := 0) (m := hi) (n := n - hi)
    rw [Nat.zero_add] at e1 e2
    rw [e1, show lo + (hi - lo) = hi by omega, e2, List.range_eq_range', show hi + (n - hi) = n by omega]
  rw [e, List.filter_append, List.filter_append]
  have f1 : (List.range' 0 lo).filter p = [] := by
    rw [List.filter_eq_nil_iff]
    intro i hi' hp
    rw [List.mem_range'_1] at hi'
    have := (h i (by omega)).mp hp
    omega
  have f2 : (List.range' hi (n - hi)).filter p = [] := by
    rw [List.filter_eq_nil_iff]
    intro i hi' hp
    rw [List.mem_range'_1] at hi'
    have := (h i (by omega)).mp hp
    omega
  have f3 : (List.range' lo (hi - lo)).filter p = List.range' lo (hi - lo) := by
    rw [List.filter_eq_self]
    intro i hi'
    rw [List.mem_range'_1] at hi'
    exact (h i (by omega)).mpr (by omega)
  rw [f1, f2, f3, List.nil_append, List.append_nil]
/-! ### met cells and good figures: the mathematics -/
def figs (m : Int) : List Int := (List.range (2 * m + 1).toNat).map fun (i : Nat) => -m + (i : Int)
def metB (b m : Int) (t p : Nat) (s T l : Int) : Bool := decide (l * (b - 1) * 2 ^ t < b * m * (T + 1) * 2 ^ p) && decide (-(l + s) * (b - 1) * 2 ^ t < b * m * (T + 1) * 2 ^ p)
/-- E ≤ U times the side of a divisor that is the worse one -/
def sideOk (E U A C : Int) : Prop := E ≤ U * (if 0 ≤ U then A else C)
instance (E U A C : Int) : Decidable (sideOk E U A C) := inferInstanceAs (Decidable (_ ≤ _))
def upB (b m : Int) (t p : Nat) (T e f : Int) : Bool := decide (f = m) || decide (sideOk (e * (b - 1) * 2 ^ t) (f * (b - 1) + m) (T * 2 ^ p) ((T + 1) * 2 ^ p))
def goodB (b m : Int) (t p : Nat) (s T l f : Int) : Bool := upB b m t p T (l + s) f && upB b m t p T (-l) (-f)
def goodL (b m : Int) (t p : Nat) (s T l : Int) : List Int := if metB b m t p s T l then (figs m).filter (goodB b m t p s T l) else figs m
def clampI (m x : Int) : Int := if (if x < m then x else m) > -m then (if x < m then x else m) else -m
def lgeF (b m : Int) (t p : Nat) (T e : Int) : Int := -(-(e * (b - 1) * 2 ^ t - m * (if e > 0 then T else T + 1) * 2 ^ p) / ((if e > 0 then T else T + 1) * (b - 1) * 2 ^ p))
def lge (b m : Int) (t p : Nat) (T e : Int) : Int := clampI m (lgeF b m t p T e)
theorem tw_pos (k : Nat) : (0 : Int) < 2 ^ k := by
  have h := Nat.two_pow_pos k
  have e : (2 : Int) ^ k = ((2 ^ k : Nat) : Int) := by rw [Int.natCast_pow]; rfl
  rw [e]; omega
theorem clamp_le {m x f : Int} (h1 : -m ≤ f) (h2 : f ≤ m) (hm : 0 < m) : clampI m x ≤ f ↔ f = m ∨ x ≤ f := by
  unfold clampI
  constructor
  · intro h
    split at h <;> split at h <;> omega
  · intro h
    split <;> split <;> omega
theorem ceil_le {X N f : Int} (hN : 0 < N) : -(-X / N) ≤ f ↔ X ≤ f * N := by
  have e : -(-X / N) ≤ f ↔ -f ≤ -X / N := by omega
  rw [e, Int.le_ediv_iff_mul_le hN, Int.neg_mul]
  omega
theorem side_pos {E U A C : Int} (hE : 0 < E) (hA : 0 < A) (hC : 0 < C) : sideOk E U A C ↔ E ≤ U * A := by
  unfold sideOk
  by_cases h : 0 ≤ U
  · rw [if_pos h]
  · rw [if_neg h]
    have h1 := Int.mul_neg_of_neg_of_pos (show U < 0 by omega) hA
    have h2 := Int.mul_neg_of_neg_of_pos (show U < 0 by omega) hC
    omega
theorem side_npos {E U A C : Int} (hE : E ≤ 0) (hA : 0 < A) (hC : 0 < C) : sideOk E U A C ↔ E ≤ U * C := by
  unfold sideOk
  by_cases h : 0 ≤ U
  · rw [if_pos h]
    have h1 := Int.mul_nonneg h (Int.le_of_lt hA)
    have h2 := Int.mul_nonneg h (Int.le_of_lt hC)
    omega
  · rw [if_neg h]
theorem lge_iff {b m : Int} {t p : Nat} {T e f : Int} (hb : 2 ≤ b) (hm : 0 < m) (hT : 1 ≤ T) (h1 : -m ≤ f) (h2 : f ≤ m) : lge b m t p T e ≤ f ↔ upB b m t p T e f = true := by
  unfold lge upB lgeF
  rw [clamp_le h1 h2 hm, Bool.or_eq_true, decide_eq_true_iff, decide_eq_true_iff]
  have ht := tw_pos t
  have hp := tw_pos p
  have hA : 0 < T * 2 ^ p := Int.mul_pos (by omega) hp
  have hC : 0 < (T + 1) * 2 ^ p := Int.mul_pos (by omega) hp
  have hk : ∀ D : Int, 1 ≤ D → (-(-(e * (b - 1) * 2 ^ t - m * D * 2 ^ p) / (D * (b - 1) * 2 ^ p)) ≤ f ↔ e * (b - 1) * 2 ^ t ≤ (f * (b - 1) + m) * (D * 2 ^ p)) := fun D hD => by
    rw [ceil_le (Int.mul_pos (Int.mul_pos (by omega) (by omega)) hp)]
    have e1 : f * (D * (b - 1) * 2 ^ p) = f * (b - 1) * (D * 2 ^ p) := by
      rw [Int.mul_comm D (b - 1), Int.mul_assoc, Int.mul_assoc]
    rw [e1, Int.add_mul, ← Int.mul_assoc m]
    omega
  by_cases he : e > 0
  · rw [if_pos he, hk T hT, side_pos (Int.mul_pos (Int.mul_pos he (by omega)) ht) hA hC]
  · rw [if_neg he, hk (T + 1) (by omega), side_npos (Int.mul_nonpos_of_nonpos_of_nonneg (Int.mul_nonpos_of_nonpos_of_nonneg (by omega) (by omega)) (Int.le_of_lt ht)) hA hC]
theorem good_iff {b m : Int} {t p : Nat} {s T l f : Int} (hb : 2 ≤ b) (hm : 0 < m) (hT : 1 ≤ T) (h1 : -m ≤ f) (h2 : f ≤ m) : goodB b m t p s T l f = true ↔ lge b m t p T (l + s) ≤ f ∧ f ≤ -lge b m t p T (-l) := by
  unfold goodB
  rw [Bool.and_eq_true, ← lge_iff hb hm hT h1 h2, ← lge_iff hb hm hT (by omega) (by omega)]
  omega
theorem clamp_bd {m x : Int} (hm : 0 < m) : -m ≤ clampI m x ∧ clampI m x ≤ m := by
  unfold clampI
  split <;> split <;> omega
/-- the law's own look at whether a cell is met -/
def lawMet (b m : Int) (t p : Nat) (s T l : Int) : Bool := if l * 2 ^ t > 0 then decide (l * 2 ^ t * (b - 1) < (T + 1) * 2 ^ p * b * m) else decide ((l + s) * 2 ^ t ≥ 0) || decide (0 - (l + s) * 2 ^ t * (b - 1) < (T + 1) * 2 ^ p * b * m)
theorem met_law {b m : Int} {t p : Nat} {s T l : Int} (hb : 2 ≤ b) (hm : 0 < m) (hT : 1 ≤ T) (hs : 0 ≤ s) : lawMet b m t p s T l = metB b m t p s T l := by
  have ht := tw_pos t
  have hp := tw_pos p
  have hR : 0 < b * m * (T + 1) * 2 ^ p := Int.mul_pos (Int.mul_pos (Int.mul_pos (by omega) hm) (by omega)) hp
  have e1 : (T + 1) * 2 ^ p * b * m = b * m * (T + 1) * 2 ^ p := by
    rw [Int.mul_assoc, Int.mul_comm _ (b * m), Int.mul_assoc (b * m)]
  have e2 : l * 2 ^ t * (b - 1) = l * (b - 1) * 2 ^ t := by rw [Int.mul_assoc, Int.mul_comm (2 ^ t), ← Int.mul_assoc]
  have e3 : 0 - (l + s) * 2 ^ t * (b - 1) = -(l + s) * (b - 1) * 2 ^ t := by
    rw [Int.mul_assoc, Int.mul_comm (2 ^ t), ← Int.mul_assoc, Int.neg_mul, Int.neg_mul]; omega
  unfold lawMet metB
  rw [e1, e2, e3]
  generalize b * m * (T + 1) * 2 ^ p = R at *
  have sg : ∀ x : Int, (0 < x → 0 < x * (b - 1) * 2 ^ t) ∧ (x ≤ 0 → x * (b - 1) * 2 ^ t ≤ 0) := fun x =>
    ⟨fun h => Int.mul_pos (Int.mul_pos h (by omega)) ht, fun h => Int.mul_nonpos_of_nonpos_of_nonneg (Int.mul_nonpos_of_nonpos_of_nonneg h (by omega)) (Int.le_of_lt ht)⟩
  have g1 := sg l
  have g2 := sg (-(l + s))
  have f1 : l * 2 ^ t > 0 ↔ 0 < l := ⟨fun h => Int.pos_of_mul_pos_left h ht, fun h => Int.mul_pos h ht⟩
  have f2 : (l + s) * 2 ^ t ≥ 0 ↔ 0 ≤ l + s := ⟨fun h => by
    by_cases c : 0 ≤ l + s
    · exact c
    · have := Int.mul_neg_of_neg_of_pos (show l + s < 0 by omega) ht
      omega, fun h => Int.mul_nonneg h (Int.le_of_lt ht)⟩
  generalize l * (b - 1) * 2 ^ t = X at *
  generalize -(l + s) * (b - 1) * 2 ^ t = Y at *
  by_cases h : 0 < l
  · rw [if_pos (f1.mpr h), decide_eq_true (p := Y < R) (by have := g2.2 (by omega); omega), Bool.and_true]
  · rw [if_neg (fun z => h (f1.mp z)), decide_eq_true (p := X < R) (by have := g1.2 (by omega); omega), Bool.true_and]
    by_cases h3 : 0 ≤ l + s
    · rw [decide_eq_true (f2.mpr h3), decide_eq_true (p := Y < R) (by have := g2.2 (by omega); omega), Bool.true_or]
    · rw [decide_eq_false (fun z => h3 (f2.mp z)), Bool.false_or]
/-- the program's own -/
theorem met_prog {b m : Int} {t p : Nat} {s T l : Int} (hb : 2 ≤ b) : (decide (-((b * m * (T + 1) * 2 ^ p - 1) / ((b - 1) * 2 ^ t)) - s ≤ l) && decide (l ≤ (b * m * (T + 1) * 2 ^ p - 1) / ((b - 1) * 2 ^ t))) = metB b m t p s T l := by
  have hN : 0 < (b - 1) * 2 ^ t := Int.mul_pos (by omega) (tw_pos t)
  unfold metB
  rw [Int.mul_assoc l, Int.mul_assoc (-(l + s)), Bool.and_comm]
  have c1 : l ≤ (b * m * (T + 1) * 2 ^ p - 1) / ((b - 1) * 2 ^ t) ↔ l * ((b - 1) * 2 ^ t) < b * m * (T + 1) * 2 ^ p := by
    rw [Int.le_ediv_iff_mul_le hN]; omega
  have c2 : -((b * m * (T + 1) * 2 ^ p - 1) / ((b - 1) * 2 ^ t)) - s ≤ l ↔ -(l + s) * ((b - 1) * 2 ^ t) < b * m * (T + 1) * 2 ^ p := by
    have e : -((b * m * (T + 1) * 2 ^ p - 1) / ((b - 1) * 2 ^ t)) - s ≤ l ↔ -(l + s) ≤ (b * m * (T + 1) * 2 ^ p - 1) / ((b - 1) * 2 ^ t) := by omega
    rw [e, Int.le_ediv_iff_mul_le hN]; omega
  rw [decide_eq_decide.mpr c1, decide_eq_decide.mpr c2]
def intsR (a b : Int) : List Int := (List.range (b - a).toNat).map fun (i : Nat) => a + (i : Int)
theorem good_list {b m : Int} {t p : Nat} {s T l : Int} (hb : 2 ≤ b) (hm : 0 < m) (hT : 1 ≤ T) : (figs m).filter (goodB b m t p s T l) = intsR (lge b m t p T (l + s)) (-lge b m t p T (-l) + 1) := by
  have b1 := clamp_bd (x := lgeF b m t p T (l + s)) hm
  have b2 := clamp_bd (x := lgeF b m t p T (-l)) hm
  have hg := fun f h1 h2 => @good_iff b m t p s T l f hb hm hT h1 h2
  unfold lge at *
  generalize clampI m (lgeF b m t p T (l + s)) = L at *
  generalize clampI m (lgeF b m t p T (-l)) = G at *
  unfold figs intsR
  rw [List.filter_map, filter_iv (lo := (L + m).toNat) (hi := max (L + m).toNat (-G + m + 1).toNat) (by omega) (by omega) (fun i hi => ?_)]
  · rw [List.range'_eq_map_range, List.map_map, show max (L + m).toNat (-G + m + 1).toNat - (L + m).toNat = (-G + 1 - L).toNat by omega]
    refine List.map_congr_left fun i _ => ?_
    show -m + (((L + m).toNat + i : Nat) : Int) = L + (i : Int)
    omega
  · show goodB b m t p s T l (-m + (i : Int)) = true ↔ _
    rw [hg _ (by omega) (by omega)]
    omega
theorem figs_rng (m : Int) : figs m = intsR (-m) (m + 1) := by
  unfold figs intsR
  rw [show (m + 1 - -m).toNat = (2 * m + 1).toNat by omega]
/-! ### the script's cells -/
theorem map_at {ns : List Int} {i : Nat} {x : V} (h : (ns.map V.int)[i]? = some x) : ∃ y, x = .int y ∧ ns[i]? = some y := by
  rw [List.getElem?_map] at h
  cases e : ns[i]? with
  | none => rw [e] at h; cases h
  | some y => rw [e] at h; exact ⟨y, by cases h; rfl, rfl⟩
theorem cut_ints (ns : List Int) (lo hi : Option Int) : ∃ cs : List Int, cutV (ns.map V.int) lo hi = cs.map V.int ∧ cs.length ≤ ns.length := by
  refine ⟨(ns.drop (HT.sIx (ns.map V.int).length 0 lo)).take (HT.sIx (ns.map V.int).length (ns.map V.int).length hi - HT.sIx (ns.map V.int).length 0 lo), ?_, ?_⟩
  · unfold cutV
    rw [List.map_take, List.map_drop]
  · rw [List.length_take, List.length_drop]; omega
theorem cat0 (ns : List Int) : ns.map V.int ++ [V.int 0] = (ns ++ [0]).map V.int := by rw [List.map_append]; rfl
theorem head0 (ns : List Int) : ∃ c0 : Int, atI (ns.map V.int ++ [V.int 0]) 0 = some (.int c0) := by
  cases ns with
  | nil => exact ⟨0, rfl⟩
  | cons x r => exact ⟨x, atI_nat (j := 0) rfl⟩
theorem cat_line {ns : List Int} (h : ns.length ≤ 63) : (ns.map V.int).length + [V.int 0].length ≤ sizeLine := by
  rw [List.length_map]
  exact small1000 (by show ns.length + 1 ≤ 1000; omega) |> Nat.le_of_lt
/-- the script, as a fact beside the deck -/
def Scr (K : PySem.W.Frag) (a sa : Addr) (xs : List V) : Fact a := ⟨fun H => ∀ H', Keep a H H' → SqL K H' sa xs, fun k h H'' k' => h H'' (k.trans k')⟩
theorem scr_of {K : PySem.W.Frag} {H0 H1 : Hp} {a sa : Addr} {xs : List V} (h : SqL K H0 sa xs) (ha : H0 a = none) (e : Same H0 H1) : (Scr K a sa xs).P H1 := fun H' k => by
  rcases h with (z | ⟨u, z⟩) | z
  · exact .inl (.inl (k _ _ (ne_of_none z ha) (e _ _ z)))
  · exact .inl (.inr ⟨u, k _ _ (ne_of_none z ha) (e _ _ z)⟩)
  · exact .inr z
theorem S.scr {K : PySem.W.Frag} {a sa : Addr} {n : Nat} {H : Hp} {L : List (Fact a)} {xs : List V} (s : S a n H L) (h : Scr K a sa xs ∈ L) : SqL K H sa xs := s.get h H (Keep.refl a H)
theorem deck_tup_ne {H : Hp} {a p : Addr} {n : Nat} {xs : List V} (d : Deck H a n) (h : H p = some (.tup xs)) : p ≠ a := fun z => by
  obtain ⟨d0, d1, d2, h1, _⟩ := d
  rw [z, h1] at h
  cases h
/-! ### kinds and cells: the program's own -/
def Kd (b m : Int) : Prop := (b = 2 ∨ b = 4 ∨ b = 8 ∨ b = 16) ∧ b / 2 ≤ m ∧ m ≤ b - 1
theorem Kd.bd {b m : Int} (h : Kd b m) : 2 ≤ b ∧ b ≤ 16 ∧ 1 ≤ m ∧ m ≤ 15 ∧ m < b ∧ b ≤ 2 * m ∧ 2 ≤ b * m ∧ b * m ≤ 240 := by
  obtain ⟨h1, h2, h3⟩ := h
  rcases h1 with e | e | e | e <;> subst e <;> refine ⟨?_, ?_, ?_, ?_, ?_, ?_, ?_, ?_⟩ <;> omega
theorem pow_le {n k : Nat} (h : n ≤ k) : (2 : Int) ^ n ≤ 2 ^ k := by
  rw [two_cast, two_cast]
  exact Int.ofNat_le.mpr (Nat.pow_le_pow_right (by decide) h)
theorem new_at {H : Hp} {p : Addr} (h : H p = none) (o : HO) : upd H p o p = some o := upd_same
theorem same_mut {H0 H1 : Hp} {l : Addr} (o : HO) (e : Same H0 H1) (h : H0 l = none) : Same H0 (upd H1 l o) := fun b u z => by
  rw [upd_ne (ne_of_none z h)]
  exact e b u z
theorem same_none {H0 H1 : Hp} {p : Addr} (e : Same H0 H1) (h : H1 p = none) : H0 p = none := by
  cases z : H0 p with
  | none => rfl
  | some o => rw [e p o z] at h; cases h
theorem sameT {K : PySem.W.Frag} {H H' : Hp} {a : Addr} {xs : List V} (e : Same H H') (z : SqT K H a xs) : SqT K H' a xs := by
  rcases z with (z | ⟨u, z⟩) | z
  · exact .inl (.inl (e _ _ z))
  · exact .inl (.inr ⟨u, e _ _ z⟩)
  · exact .inr z
/-! ### met cells and good figures: the program's own -/
theorem div_shl {i c : Int} {k : Nat} (h0 : 0 < c) (h1 : c < 2 ^ 64) (hk : k ≤ 1000) : CDivW i (c * 2 ^ k) := by
  have h2 := two_pos k
  refine wide_div (b := 64 + (k + 1)) (Int.mul_pos h0 h2) (wide_lt (by omega) ?_) (by omega) (by omega)
  rw [two_cast, Int.natAbs_natCast]
  exact Nat.pow_lt_pow_right (by decide) (by omega)
def lastF (b m : Int) (t p : Nat) (u : Int) : Int := (b * m * (u + 1) * 2 ^ p - 1) / ((b - 1) * 2 ^ t)
def sp_met_bounds (K : PySem.W.Frag) : Sp := fun vs H Q _ => ∃ (kp lp : Addr) (b m s u : Int) (t p : Nat), vs = [.ref kp, .ref lp, .int s, .int u] ∧ SqT K H kp [.int b, .int m] ∧ SqT K H lp [.int (t : Int), .int (p : Int)] ∧ Kd b m ∧ t ≤ 100 ∧ p ≤ 100 ∧ 0 ≤ u ∧ u < 2 ^ 40 ∧
  ∀ q, H q = none → Q (.ref q) (upd H q (.tup [.int (-lastF b m t p u - s), .int (lastF b m t p u)]))
theorem ok_met_bounds (T : Txt K mg) : FnOk P w K mg base CX0 1 T.a_met_bounds T.fd_met_bounds ["kind", "looks", "sight", "top"] (sp_met_bounds K) := by
  refine T.F_met_bounds.ok sc_met_bounds (fun vs H Q E h => ?_) (fun cdv A outer s H vs Q E hr h => ?_)
  · obtain ⟨kp, lp, b, m, s, u, t, p, rfl, _⟩ := h
    rfl
  obtain ⟨kp, lp, b, m, s, u, t, p, rfl, hk, hl, hkd, ht, hp, hu0, hu, q⟩ := h
  refine ⟨_, (pss_cons (ps_asg (pv 0) (pg_tup rfl (pgs_cons (pg_name (i := 4) sc_met_bounds.nd rfl (Or.inl rfl)) (pgs_cons (pg_name (i := 5) sc_met_bounds.nd rfl (Or.inl rfl)) pgs_nil))))
      (pss_cons (ps_asg (pv 1) (pg_tup rfl (pgs_cons (pg_name (i := 6) sc_met_bounds.nd rfl (Or.inl rfl)) (pgs_cons (pg_name (i := 7) sc_met_bounds.nd rfl (Or.inl rfl)) pgs_nil))))
      (pss_cons (ps_set (i := 8) sc_met_bounds.nd rfl (Or.inl rfl) (pe_op op_shlN (pe_op op_mul (pe_op op_mul (pv 4) (pv 5)) (pe_op op_add (pv 3) pe_int)) (pv 7)))
      (pss_cons (ps_set (i := 9) sc_met_bounds.nd rfl (Or.inl rfl) (pe_op op_fdivW (pe_op op_sub (pv 8) pe_int) (pe_op op_shlN (pe_op op_sub (pv 4) pe_int) (pv 6))))
      (pss_one (ps_ret (pe_tup (pa_cons (pe_op op_sub (pe_un un_neg (pv 9)) (pv 2)) (pa_cons (pv 9) pa_nil))))))))), ?_⟩
  have bd := hkd.bd
  have hbmT : 0 ≤ b * m * (u + 1) ∧ b * m * (u + 1) ≤ 240 * (u + 1) := ⟨Int.mul_nonneg (by omega) (by omega), Int.mul_le_mul_of_nonneg_right (by omega) (by omega)⟩
  walk_at "rs"
  refine ⟨shl_ok (n := 64) (by omega) (by omega), ?_⟩
  walk_at "rs"
  refine ⟨shl_ok (n := 64) (by omega) (by omega), ?_⟩
  walk_at "rs"
  refine ⟨div_shl (by omega) (by omega) (by omega), ?_⟩
  walk_at "rs"
  exact ⟨by show 2 ≤ sizeLine; decide, q⟩
def sp_is_met (K : PySem.W.Frag) : Sp := fun vs H Q _ => ∃ (kp lp cp : Addr) (b m s u l : Int) (t p : Nat), vs = [.ref kp, .ref lp, .int s, .ref cp] ∧ SqT K H kp [.int b, .int m] ∧ SqT K H lp [.int (t : Int), .int (p : Int)] ∧ SqT K H cp [.int u, .int l] ∧ Kd b m ∧ t ≤ 100 ∧ p ≤ 100 ∧ 0 ≤ u ∧ u < 2 ^ 40 ∧
  ∀ H', Same H H' → Q (.bl (metB b m t p s u l)) H'
theorem ok_is_met (T : Txt K mg) : FnOk P w K mg base CX0 2 T.a_is_met T.fd_is_met ["kind", "looks", "sight", "cell"] (sp_is_met K) := by
  refine T.F_is_met.ok sc_is_met (fun vs H Q E h => ?_) (fun cdv A outer s H vs Q E hr h => ?_)
  · obtain ⟨kp, lp, cp, b, m, s, u, l, t, p, rfl, _⟩ := h
    rfl
  obtain ⟨kp, lp, cp, b, m, s, u, l, t, p, rfl, hk, hl, hc, hkd, ht, hp, hu0, hu, q⟩ := h
  refine ⟨_, (pss_cons (ps_asg (pv 3) (pg_tup rfl (pgs_cons (pg_name (i := 4) sc_is_met.nd rfl (Or.inl rfl)) (pgs_cons (pg_name (i := 5) sc_is_met.nd rfl (Or.inl rfl)) pgs_nil))))
      (pss_cons (ps_asg (pe_call (ok_met_bounds T) (hr.mono (by first | decide | omega)) rfl T.m_met_bounds T.F_met_bounds.kp T.b_met_bounds .nil pass0 (pa_cons (pv 0) (pa_cons (pv 1) (pa_cons (pv 2) (pa_cons (pv 4) pa_nil))))) (pg_tup rfl (pgs_cons (pg_name (i := 6) sc_is_met.nd rfl (Or.inl rfl)) (pgs_cons (pg_name (i := 7) sc_is_met.nd rfl (Or.inl rfl)) pgs_nil))))
      (pss_one (ps_ret (pe_chain op_le op_le (pv 6) (pv 5) (pv 7)))))), ?_⟩
  have bd := hkd.bd
  have e := @met_prog b m t p s u l bd.1
  rw [← e] at q
  walk_at "rs"
  refine ⟨kp, lp, b, m, s, u, t, p, rfl, hk, hl, hkd, ht, hp, hu0, hu, fun r hr0 => ?_⟩
  have s1 := same_new hr0 (.tup [.int (-lastF b m t p u - s), .int (lastF b m t p u)])
  have h2 := new_at hr0 (.tup [.int (-lastF b m t p u - s), .int (lastF b m t p u)])
  walk_at "rs"
  refine ite2 (fun c => ?_) (fun c => ?_)
  · have c1 : -((b * m * (u + 1) * 2 ^ p - 1) / ((b - 1) * 2 ^ t)) - s ≤ l := of_decide_eq_true c
    rw [decide_eq_true c1, Bool.true_and] at q
    walk_at "rs"
    exact q _ s1
  · have c1 : ¬ -((b * m * (u + 1) * 2 ^ p - 1) / ((b - 1) * 2 ^ t)) - s ≤ l := of_decide_eq_false (Bool.eq_false_iff.mpr c)
    rw [decide_eq_false c1, Bool.false_and] at q
    exact q _ s1
def sp_least_great_enough (K : PySem.W.Frag) : Sp := fun vs H Q _ => ∃ (kp lp : Addr) (b m u e : Int) (t p : Nat), vs = [.ref kp, .ref lp, .int u, .int e] ∧ SqT K H kp [.int b, .int m] ∧ SqT K H lp [.int (t : Int), .int (p : Int)] ∧ Kd b m ∧ t ≤ 100 ∧ p ≤ 100 ∧ 1 ≤ u ∧ u < 2 ^ 40 ∧ -(2 ^ 50) < e ∧ e < 2 ^ 50 ∧ Q (.int (lge b m t p u e)) H
theorem ok_least_great_enough (T : Txt K mg) : FnOk P w K mg base CX0 1 T.a_least_great_enough T.fd_least_great_enough ["kind", "looks", "top", "end"] (sp_least_great_enough K) := by
  refine T.F_least_great_enough.ok sc_least_great_enough (fun vs H Q E h => ?_) (fun cdv A outer s H vs Q E hr h => ?_)
  · obtain ⟨kp, lp, b, m, u, e, t, p, rfl, _⟩ := h
    rfl
  obtain ⟨kp, lp, b, m, u, e, t, p, rfl, hk, hl, hkd, ht, hp, hu0, hu, he0, he1, q⟩ := h
  refine ⟨_, (pss_cons (ps_asg (pv 0) (pg_tup rfl (pgs_cons (pg_name (i := 4) sc_least_great_enough.nd rfl (Or.inl rfl)) (pgs_cons (pg_name (i := 5) sc_least_great_enough.nd rfl (Or.inl rfl)) pgs_nil))))
      (pss_cons (ps_asg (pv 1) (pg_tup rfl (pgs_cons (pg_name (i := 6) sc_least_great_enough.nd rfl (Or.inl rfl)) (pgs_cons (pg_name (i := 7) sc_least_great_enough.nd rfl (Or.inl rfl)) pgs_nil))))
      (pss_cons (ps_set (i := 8) sc_least_great_enough.nd rfl (Or.inl rfl) (pe_ifExp (pt_cmpR op_gt (pv 3) pe_int (nomark _)) (pv 2) (pe_op op_add (pv 2) pe_int)))
      (pss_cons (ps_set (i := 9) sc_least_great_enough.nd rfl (Or.inl rfl) (pe_op op_sub (pe_op op_shlN (pe_op op_mul (pv 3) (pe_op op_sub (pv 4) pe_int)) (pv 6)) (pe_op op_shlN (pe_op op_mul (pv 5) (pv 8)) (pv 7))))
      (pss_cons (ps_set (i := 10) sc_least_great_enough.nd rfl (Or.inl rfl) (pe_un un_neg (pe_op op_fdivW (pe_un un_neg (pv 9)) (pe_op op_shlN (pe_op op_mul (pv 8) (pe_op op_sub (pv 4) pe_int)) (pv 7)))))
      (pss_one (ps_ret (pe_callB (call_max2 rfl) (by rfl) T.z_max (by decide +kernel) (pa_cons (pe_un un_neg (pv 5)) (pa_cons (pe_callB (call_min2 rfl) (by rfl) T.z_min (by decide +kernel) (pa_cons (pv 5) (pa_cons (pv 10) pa_nil))) pa_nil)))))))))), ?_⟩
  have bd := hkd.bd
  have hgen : ∀ D : Int, D = (if e > 0 then u else u + 1) → Q (.int (clampI m (-(-(e * (b - 1) * 2 ^ t - m * D * 2 ^ p) / (D * (b - 1) * 2 ^ p))))) H := fun D hD => by rw [hD]; exact q
  have heb : -(2 ^ 60) ≤ e * (b - 1) ∧ e * (b - 1) ≤ 2 ^ 60 := by
    have h1 : e * (b - 1) ≤ 2 ^ 50 * (b - 1) := Int.mul_le_mul_of_nonneg_right (by omega) (by omega)
    have h2 : -(2 ^ 50) * (b - 1) ≤ e * (b - 1) := Int.mul_le_mul_of_nonneg_right (by omega) (by omega)
    omega
  by_cases c : e > 0
  · have h := hgen u (by rw [if_pos c])
    have hD : 0 ≤ m * u ∧ m * u ≤ 15 * u ∧ 0 < u * (b - 1) ∧ u * (b - 1) ≤ u * 15 := ⟨Int.mul_nonneg (by omega) (by omega), Int.mul_le_mul_of_nonneg_right (by omega) (by omega), Int.mul_pos (by omega) (by omega), Int.mul_le_mul_of_nonneg_left (by omega) (by omega)⟩
    walk_at "go"
    refine ⟨shl_ok (n := 64) (by omega) (by omega), ?_⟩
    walk_at "rs"
    refine ⟨shl_ok (n := 64) (by omega) (by omega), ?_⟩
    walk_at "rs"
    refine ⟨shl_ok (n := 64) (by omega) (by omega), ?_⟩
    walk_at "rs"
    refine ⟨div_shl (by omega) (by omega) (by omega), ?_⟩
    walk_at "rs"
    exact h
  · have h := hgen (u + 1) (by rw [if_neg c])
    have hD : 0 ≤ m * (u + 1) ∧ m * (u + 1) ≤ 15 * (u + 1) ∧ 0 < (u + 1) * (b - 1) ∧ (u + 1) * (b - 1) ≤ (u + 1) * 15 := ⟨Int.mul_nonneg (by omega) (by omega), Int.mul_le_mul_of_nonneg_right (by omega) (by omega), Int.mul_pos (by omega) (by omega), Int.mul_le_mul_of_nonneg_left (by omega) (by omega)⟩
    walk_at "go"
    refine ⟨shl_ok (n := 64) (by omega) (by omega), ?_⟩
    walk_at "rs"
    refine ⟨shl_ok (n := 64) (by omega) (by omega), ?_⟩
    walk_at "rs"
    refine ⟨shl_ok (n := 64) (by omega) (by omega), ?_⟩
    walk_at "rs"
    refine ⟨div_shl (by omega) (by omega) (by omega), ?_⟩
    walk_at "rs"
    exact h
def sp_good_bounds (K : PySem.W.Frag) : Sp := fun vs H Q _ => ∃ (kp lp cp : Addr) (b m s u l : Int) (t p : Nat), vs = [.ref kp, .ref lp, .int s, .ref cp] ∧ SqT K H kp [.int b, .int m] ∧ SqT K H lp [.int (t : Int), .int (p : Int)] ∧ SqT K H cp [.int u, .int l] ∧ Kd b m ∧ t ≤ 100 ∧ p ≤ 100 ∧ 1 ≤ u ∧ u < 2 ^ 40 ∧ -(2 ^ 45) < l ∧ l < 2 ^ 45 ∧ 0 ≤ s ∧ s ≤ 2 ∧
  ∀ q, H q = none → Q (.ref q) (upd H q (.tup [.int (lge b m t p u (l + s)), .int (-lge b m t p u (-l))]))
theorem ok_good_bounds (T : Txt K mg) : FnOk P w K mg base CX0 2 T.a_good_bounds T.fd_good_bounds ["kind", "looks", "sight", "cell"] (sp_good_bounds K) := by
  refine T.F_good_bounds.ok sc_good_bounds (fun vs H Q E h => ?_) (fun cdv A outer s H vs Q E hr h => ?_)
  · obtain ⟨kp, lp, cp, b, m, s, u, l, t, p, rfl, _⟩ := h
    rfl
  obtain ⟨kp, lp, cp, b, m, s, u, l, t, p, rfl, hk, hl, hc, hkd, ht, hp, hu0, hu, hl0, hl1, hs0, hs1, q⟩ := h
  refine ⟨_, (pss_cons (ps_asg (pv 3) (pg_tup rfl (pgs_cons (pg_name (i := 4) sc_good_bounds.nd rfl (Or.inl rfl)) (pgs_cons (pg_name (i := 5) sc_good_bounds.nd rfl (Or.inl rfl)) pgs_nil))))
      (pss_one (ps_ret (pe_tup (pa_cons (pe_call (ok_least_great_enough T) (hr.mono (by first | decide | omega)) rfl T.m_least_great_enough T.F_least_great_enough.kp T.b_least_great_enough .nil pass0 (pa_cons (pv 0) (pa_cons (pv 1) (pa_cons (pv 4) (pa_cons (pe_op op_add (pv 5) (pv 2)) pa_nil))))) (pa_cons (pe_un un_neg (pe_call (ok_least_great_enough T) (hr.mono (by first | decide | omega)) rfl T.m_least_great_enough T.F_least_great_enough.kp T.b_least_great_enough .nil pass0 (pa_cons (pv 0) (pa_cons (pv 1) (pa_cons (pv 4) (pa_cons (pe_un un_neg (pv 5)) pa_nil)))))) pa_nil)))))), ?_⟩
  walk_at "rs"
  refine ⟨kp, lp, b, m, u, _, t, p, rfl, hk, hl, hkd, ht, hp, hu0, hu, by omega, by omega, ?_⟩
  walk_at "rs"
  refine ⟨kp, lp, b, m, u, _, t, p, rfl, hk, hl, hkd, ht, hp, hu0, hu, by omega, by omega, ?_⟩
  walk_at "rs"
  exact ⟨by show 2 ≤ sizeLine; decide, q⟩
theorem rgV_ints (a b : Int) : rgV a b = (intsR a b).map V.int := by
  unfold rgV intsR
  rw [List.map_map]
  rfl
def sp_good_figures (K : PySem.W.Frag) : Sp := fun vs H Q _ => ∃ (kp lp cp : Addr) (b m s u l : Int) (t p : Nat), vs = [.ref kp, .ref lp, .int s, .ref cp] ∧ SqT K H kp [.int b, .int m] ∧ SqT K H lp [.int (t : Int), .int (p : Int)] ∧ SqT K H cp [.int u, .int l] ∧ Kd b m ∧ t ≤ 100 ∧ p ≤ 100 ∧ 1 ≤ u ∧ u < 2 ^ 40 ∧ -(2 ^ 45) < l ∧ l < 2 ^ 45 ∧ 0 ≤ s ∧ s ≤ 2 ∧
  ∀ q H', Same H H' → H q = none → H' q = some (.lst ((goodL b m t p s u l).map V.int)) → Q (.ref q) H'
theorem ok_good_figures (T : Txt K mg) : FnOk P w K mg base CX0 3 T.a_good_figures T.fd_good_figures ["kind", "looks", "sight", "cell"] (sp_good_figures K) := by
  refine T.F_good_figures.ok sc_good_figures (fun vs H Q E h => ?_) (fun cdv A outer s H vs Q E hr h => ?_)
  · obtain ⟨kp, lp, cp, b, m, s, u, l, t, p, rfl, _⟩ := h
    rfl
  obtain ⟨kp, lp, cp, b, m, s, u, l, t, p, rfl, hk, hl, hc, hkd, ht, hp, hu0, hu, hl0, hl1, hs0, hs1, q⟩ := h
  refine ⟨_, (pss_cons (ps_if (pt_not (pt_val (pe_call (ok_is_met T) (hr.mono (by first | decide | omega)) rfl T.m_is_met T.F_is_met.kp T.b_is_met .nil pass0 (pa_cons (pv 0) (pa_cons (pv 1) (pa_cons (pv 2) (pa_cons (pv 3) pa_nil))))))) (pss_one (ps_ret (pe_listRg rfl (by rfl) T.z_list (prg_2 (by rfl) T.z_range (pe_un un_neg (pe_ix ix_tup (pv 0) pe_int (fun _ _ => rfl))) (pe_op op_add (pe_ix ix_tup (pv 0) pe_int (fun _ _ => rfl)) pe_int))))) pss_nil)
      (pss_cons (ps_asg (pe_call (ok_good_bounds T) (hr.mono (by first | decide | omega)) rfl T.m_good_bounds T.F_good_bounds.kp T.b_good_bounds .nil pass0 (pa_cons (pv 0) (pa_cons (pv 1) (pa_cons (pv 2) (pa_cons (pv 3) pa_nil))))) (pg_tup rfl (pgs_cons (pg_name (i := 4) sc_good_figures.nd rfl (Or.inl rfl)) (pgs_cons (pg_name (i := 5) sc_good_figures.nd rfl (Or.inl rfl)) pgs_nil))))
      (pss_one (ps_ret (pe_listRg rfl (by rfl) T.z_list (prg_2 (by rfl) T.z_range (pv 4) (pe_op op_add (pv 5) pe_int))))))), ?_⟩
  have bd := hkd.bd
  have b1 : -m ≤ lge b m t p u (l + s) ∧ lge b m t p u (l + s) ≤ m := clamp_bd (by omega)
  have b2 : -m ≤ lge b m t p u (-l) ∧ lge b m t p u (-l) ≤ m := clamp_bd (by omega)
  walk_at "rs"
  refine ⟨kp, lp, cp, b, m, s, u, l, t, p, rfl, hk, hl, hc, hkd, ht, hp, by omega, hu, fun H1 s1 => ?_⟩
  have hk1 := sameT s1 hk
  have hl1' := sameT s1 hl
  have hc1 := sameT s1 hc
  walk_at "rs"
  unfold goodL at q
  refine ite2 (fun c => ?_) (fun c => ?_)
  · have c1 : metB b m t p s u l = false := by simpa using c
    rw [c1, if_neg (by decide), figs_rng, ← rgV_ints] at q
    walk_at "rs"
    exact fun r hr0 => q r _ (s1.trans (same_new hr0 _)) (same_none s1 hr0) upd_same
  · have c1 : metB b m t p s u l = true := by simpa using c
    rw [if_pos c1, good_list bd.1 (by omega) hu0, ← rgV_ints] at q
    walk_at "rs"
    refine ⟨kp, lp, cp, b, m, s, u, l, t, p, rfl, hk1, hl1', hc1, hkd, ht, hp, hu0, hu, hl0, hl1, hs0, hs1, fun r hr0 => ?_⟩
    have h2 := new_at hr0 (.tup [.int (lge b m t p u (l + s)), .int (-lge b m t p u (-l))])
    have s2 := same_new hr0 (.tup [.int (lge b m t p u (l + s)), .int (-lge b m t p u (-l))])
    walk_at "rs"
    exact fun y hy => q y _ (s1.trans (s2.trans (same_new hy _))) (same_none (s1.trans s2) hy) upd_same
/-! ### or, and: both sides reckoned, the ways joined -/
section
variable {X : Cx}
def tOrJ (ta tb : TE) : TE := fun σ H Q => ∃ c d : Bool, (∀ Q' : VK, Q' (.bl c) H → ta σ H Q') ∧ (∀ Q' : VK, Q' (.bl d) H → tb σ H Q') ∧ Q (.bl (c || d)) H
def tAndJ (ta tb : TE) : TE := fun σ H Q => ∃ c d : Bool, (∀ Q' : VK, Q' (.bl c) H → ta σ H Q') ∧ (∀ Q' : VK, Q' (.bl d) H → tb σ H Q') ∧ Q (.bl (c && d)) H
def tOrTJ (ta tb : TT) : TT := fun σ H Q => ∃ c d : Bool, (∀ Q' : Bool → Hp → Prop, Q' c H → ta σ H Q') ∧ (∀ Q' : Bool → Hp → Prop, Q' d H → tb σ H Q') ∧ Q (c || d) H
def tAndTJ (ta tb : TT) : TT := fun σ H Q => ∃ c d : Bool, (∀ Q' : Bool → Hp → Prop, Q' c H → ta σ H Q') ∧ (∀ Q' : Bool → Hp → Prop, Q' d H → tb σ H Q') ∧ Q (c && d) H
theorem pe_orJ {a b : Expr} {rest : List Expr} {pos : Pos} {ta tb : TE} (ha : PE X a ta) (hb : PE X (.BoolOp .Or (b :: rest) pos) tb) : PE X (.BoolOp .Or (a :: b :: rest) pos) (tOrJ ta tb) := ⟨fun pins s σ H Q I h => by
  obtain ⟨c, d, h1, h2, q⟩ := h
  refine (pe_or ha hb).run pins s σ H Q I (h1 _ ⟨c, rfl, ?_⟩)
  cases c with
  | true => exact q
  | false => exact h2 _ q⟩
theorem pe_andJ {a b : Expr} {rest : List Expr} {pos : Pos} {ta tb : TE} (ha : PE X a ta) (hb : PE X (.BoolOp .And (b :: rest) pos) tb) : PE X (.BoolOp .And (a :: b :: rest) pos) (tAndJ ta tb) := ⟨fun pins s σ H Q I h => by
  obtain ⟨c, d, h1, h2, q⟩ := h
  refine (pe_and ha hb).run pins s σ H Q I (h1 _ ⟨c, rfl, ?_⟩)
  cases c with
  | true => exact h2 _ q
  | false => exact q⟩
theorem pw_orJ {a b : Expr} {rest : List Expr} {pos : Pos} {ta tb : TT} (ha : PT X a ta) (hb : PW X (.BoolOp .Or (b :: rest) pos) tb) : PW X (.BoolOp .Or (a :: b :: rest) pos) (tOrTJ ta tb) := ⟨fun wh pins s σ H Q I h => by
  obtain ⟨c, d, h1, h2, q⟩ := h
  refine (pw_or ha hb).run wh pins s σ H Q I (h1 _ ?_)
  cases c with
  | true => exact q
  | false => exact h2 _ q⟩
theorem pw_andJ {a b : Expr} {rest : List Expr} {pos : Pos} {ta tb : TT} (ha : PT X a ta) (hb : PW X (.BoolOp .And (b :: rest) pos) tb) : PW X (.BoolOp .And (a :: b :: rest) pos) (tAndTJ ta tb) := ⟨fun wh pins s σ H Q I h => by
  obtain ⟨c, d, h1, h2, q⟩ := h
  refine (pw_and ha hb).run wh pins s σ H Q I (h1 _ ?_)
  cases c with
  | true => exact h2 _ q
  | false => exact q⟩
/-- a chain a <= b <= c of ints, as one value -/
def tChJ (r r' : R2) (ta tb tc : TE) : TE := fun σ H Q => ∃ c d : Bool, (∀ Q' : VK, Q' (.bl c) H → tOp r ta tb σ H Q') ∧ (∀ Q' : VK, Q' (.bl d) H → tOp r' tb tc σ H Q') ∧ Q (.bl (c && d)) H
end
/-! ### met cells and good figures: the law's own -/
def sp__law_edges (K : PySem.W.Frag) : Sp := fun vs H Q _ => ∃ (lp cp : Addr) (s u l : Int) (t p : Nat), vs = [.ref lp, .int s, .ref cp] ∧ SqT K H lp [.int (t : Int), .int (p : Int)] ∧ SqT K H cp [.int u, .int l] ∧ t ≤ 100 ∧ p ≤ 100 ∧ 0 ≤ u ∧ u < 2 ^ 40 ∧ -(2 ^ 45) < l ∧ l < 2 ^ 45 ∧ 0 ≤ s ∧ s ≤ 2 ∧
  ∀ q, H q = none → Q (.ref q) (upd H q (.tup [.int (u * 2 ^ p), .int ((u + 1) * 2 ^ p), .int (l * 2 ^ t), .int ((l + s) * 2 ^ t)]))
theorem ok__law_edges (T : Txt K mg) : FnOk P w K mg base CX0 1 T.a__law_edges T.fd__law_edges ["looks", "sight", "cell"] (sp__law_edges K) := by
  refine T.F__law_edges.ok sc__law_edges (fun vs H Q E h => ?_) (fun cdv A outer s H vs Q E hr h => ?_)
  · obtain ⟨lp, cp, s, u, l, t, p, rfl, _⟩ := h
    rfl
  obtain ⟨lp, cp, s, u, l, t, p, rfl, hl, hc, ht, hp, hu0, hu, hl0, hl1, hs0, hs1, q⟩ := h
  refine ⟨_, (pss_cons (ps_asg (pv 0) (pg_tup rfl (pgs_cons (pg_name (i := 3) sc__law_edges.nd rfl (Or.inl rfl)) (pgs_cons (pg_name (i := 4) sc__law_edges.nd rfl (Or.inl rfl)) pgs_nil))))
      (pss_cons (ps_asg (pv 2) (pg_tup rfl (pgs_cons (pg_name (i := 5) sc__law_edges.nd rfl (Or.inl rfl)) (pgs_cons (pg_name (i := 6) sc__law_edges.nd rfl (Or.inl rfl)) pgs_nil))))
      (pss_one (ps_ret (pe_tup (pa_cons (pe_op op_shlN (pv 5) (pv 4)) (pa_cons (pe_op op_shlN (pe_op op_add (pv 5) pe_int) (pv 4)) (pa_cons (pe_op op_shlN (pv 6) (pv 3)) (pa_cons (pe_op op_shlN (pe_op op_add (pv 6) (pv 1)) (pv 3)) pa_nil))))))))), ?_⟩
  walk_at "rs"
  refine ⟨shl_ok (n := 64) (by omega) (by omega), ?_⟩
  walk_at "rs"
  refine ⟨shl_ok (n := 64) (by omega) (by omega), ?_⟩
  walk_at "rs"
  refine ⟨shl_ok (n := 64) (by omega) (by omega), ?_⟩
  walk_at "rs"
  refine ⟨shl_ok (n := 64) (by omega) (by omega), ?_⟩
  walk_at "rs"
  exact ⟨by show 4 ≤ sizeLine; decide, q⟩
def sp__law_met (K : PySem.W.Frag) : Sp := fun vs H Q _ => ∃ (kp lp cp : Addr) (b m s u l : Int) (t p : Nat), vs = [.ref kp, .ref lp, .int s, .ref cp] ∧ SqT K H kp [.int b, .int m] ∧ SqT K H lp [.int (t : Int), .int (p : Int)] ∧ SqT K H cp [.int u, .int l] ∧ Kd b m ∧ t ≤ 100 ∧ p ≤ 100 ∧ 1 ≤ u ∧ u < 2 ^ 40 ∧ -(2 ^ 45) < l ∧ l < 2 ^ 45 ∧ 0 ≤ s ∧ s ≤ 2 ∧
  ∀ H', Same H H' → Q (.bl (metB b m t p s u l)) H'
theorem ok__law_met (T : Txt K mg) : FnOk P w K mg base CX0 2 T.a__law_met T.fd__law_met ["kind", "looks", "sight", "cell"] (sp__law_met K) := by
  refine T.F__law_met.ok sc__law_met (fun vs H Q E h => ?_) (fun cdv A outer s H vs Q E hr h => ?_)
  · obtain ⟨kp, lp, cp, b, m, s, u, l, t, p, rfl, _⟩ := h
    rfl
  obtain ⟨kp, lp, cp, b, m, s, u, l, t, p, rfl, hk, hl, hc, hkd, ht, hp, hu0, hu, hl0, hl1, hs0, hs1, q⟩ := h
  refine ⟨_, (pss_cons (ps_asg (pv 0) (pg_tup rfl (pgs_cons (pg_name (i := 4) sc__law_met.nd rfl (Or.inl rfl)) (pgs_cons (pg_name (i := 5) sc__law_met.nd rfl (Or.inl rfl)) pgs_nil))))
      (pss_cons (ps_asg (pe_call (ok__law_edges T) (hr.mono (by first | decide | omega)) rfl T.m__law_edges T.F__law_edges.kp T.b__law_edges .nil pass0 (pa_cons (pv 1) (pa_cons (pv 2) (pa_cons (pv 3) pa_nil)))) (pg_tup rfl (pgs_cons (pg_name (i := 6) sc__law_met.nd rfl (Or.inl rfl)) (pgs_cons (pg_name (i := 7) sc__law_met.nd rfl (Or.inl rfl)) (pgs_cons (pg_name (i := 8) sc__law_met.nd rfl (Or.inl rfl)) (pgs_cons (pg_name (i := 9) sc__law_met.nd rfl (Or.inl rfl)) pgs_nil))))))
      (pss_cons (ps_if (pt_cmpR op_gt (pv 8) pe_int (nomark _)) (pss_one (ps_ret (pe_cmpR op_lt (pe_op op_mul (pv 8) (pe_op op_sub (pv 4) pe_int)) (pe_op op_mul (pe_op op_mul (pv 7) (pv 4)) (pv 5)) (nomark _)))) pss_nil)
      (pss_one (ps_ret (pe_or (pe_cmpR op_ge (pv 9) pe_int (nomark _)) (pe_one (pe_cmpR op_lt (pe_op op_sub pe_int (pe_op op_mul (pv 9) (pe_op op_sub (pv 4) pe_int))) (pe_op op_mul (pe_op op_mul (pv 7) (pv 4)) (pv 5)) (nomark _))))))))), ?_⟩
  have bd := hkd.bd
  walk_at "rs"
  refine ⟨lp, cp, s, u, l, t, p, rfl, hl, hc, ht, hp, by omega, hu, hl0, hl1, hs0, hs1, fun r hr0 => ?_⟩
  have h2 := new_at hr0 (.tup [.int (u * 2 ^ p), .int ((u + 1) * 2 ^ p), .int (l * 2 ^ t), .int ((l + s) * 2 ^ t)])
  have s2 := same_new hr0 (.tup [.int (u * 2 ^ p), .int ((u + 1) * 2 ^ p), .int (l * 2 ^ t), .int ((l + s) * 2 ^ t)])
  have hq := q _ s2
  rw [← met_law bd.1 (by omega) hu0 hs0] at hq
  unfold lawMet at hq
  walk_at "rs"
  refine ite2 (fun c => ?_) (fun c => ?_)
  · have c1 : l * 2 ^ t > 0 := of_decide_eq_true c
    rw [if_pos c1] at hq
    walk_at "rs"
    exact hq
  · have c1 : ¬ l * 2 ^ t > 0 := of_decide_eq_false (Bool.eq_false_iff.mpr c)
    rw [if_neg c1] at hq
    by_cases c2 : (l + s) * 2 ^ t ≥ 0
    · rw [decide_eq_true c2, Bool.true_or] at hq
      walk_at "rs"
      refine iteY c2 ?_
      exact hq
    · rw [decide_eq_false c2, Bool.false_or] at hq
      walk_at "rs"
      refine iteN c2 ?_
      walk_at "rs"
      exact hq
theorem law_up {b m : Int} {t p : Nat} {u e f : Int} : decide (e * 2 ^ t * (b - 1) ≤ (f * (b - 1) + m) * (if f * (b - 1) + m ≥ 0 then u * 2 ^ p else (u + 1) * 2 ^ p)) = decide (sideOk (e * (b - 1) * 2 ^ t) (f * (b - 1) + m) (u * 2 ^ p) ((u + 1) * 2 ^ p)) := by
  rw [Int.mul_assoc e, Int.mul_comm (2 ^ t), ← Int.mul_assoc e]
  rfl
theorem law_lo {b m : Int} {t p : Nat} {u l f : Int} : decide (l * 2 ^ t * (b - 1) ≥ (f * (b - 1) - m) * (if f * (b - 1) - m ≥ 0 then (u + 1) * 2 ^ p else u * 2 ^ p)) = decide (sideOk (-l * (b - 1) * 2 ^ t) (-f * (b - 1) + m) (u * 2 ^ p) ((u + 1) * 2 ^ p)) := by
  have e1 : -f * (b - 1) + m = -(f * (b - 1) - m) := by rw [Int.neg_mul]; omega
  have e2 : -l * (b - 1) * 2 ^ t = -(l * 2 ^ t * (b - 1)) := by
    rw [Int.neg_mul, Int.neg_mul, Int.mul_assoc l, Int.mul_comm (b - 1), ← Int.mul_assoc l]
  refine decide_eq_decide.mpr ?_
  rw [e1, e2]
  generalize f * (b - 1) - m = X
  generalize l * 2 ^ t * (b - 1) = Y
  unfold sideOk
  rw [Int.neg_mul]
  by_cases h : X ≥ 0
  · by_cases h0 : X = 0
    · subst h0; simp
    · rw [if_pos h, if_neg (by omega)]; omega
  · rw [if_neg h, if_pos (by omega)]; omega
theorem pick2 {A C : V} {z : Int} : atI [C, A] (if decide (z ≥ 0) = true then 1 else 0) = some (if z ≥ 0 then A else C) := by
  by_cases h : z ≥ 0
  · rw [if_pos (decide_eq_true h), if_pos h]; rfl
  · rw [if_neg (by rw [decide_eq_false h]; decide), if_neg h]; rfl
theorem int_dec {i j : Int} : decide (V.int i = V.int j) = decide (i = j) := decide_eq_decide.mpr ⟨fun z => by injection z, fun z => by rw [z]⟩
theorem int_if {c : Prop} [Decidable c] {x y : Int} : (if c then V.int x else V.int y) = V.int (if c then x else y) := by split <;> rfl
theorem figs_at {m : Int} {i : Nat} (h : i < (2 * m + 1).toNat) : (figs m)[i]? = some (-m + (i : Int)) := by
  unfold figs
  rw [List.getElem?_map, List.getElem?_range h]
  rfl
theorem figs_len (m : Int) : (figs m).length = (2 * m + 1).toNat := by unfold figs; rw [List.length_map, List.length_range]
theorem take_snoc {α : Type} {xs : List α} {i : Nat} {x : α} (h : xs[i]? = some x) : xs.take (i + 1) = xs.take i ++ [x] := by
  rw [List.take_add_one, h]
  rfl
def sp__law_good (K : PySem.W.Frag) : Sp := fun vs H Q _ => ∃ (kp lp cp : Addr) (b m s u l : Int) (t p : Nat), vs = [.ref kp, .ref lp, .int s, .ref cp] ∧ SqT K H kp [.int b, .int m] ∧ SqT K H lp [.int (t : Int), .int (p : Int)] ∧ SqT K H cp [.int u, .int l] ∧ Kd b m ∧ t ≤ 100 ∧ p ≤ 100 ∧ 1 ≤ u ∧ u < 2 ^ 40 ∧ -(2 ^ 45) < l ∧ l < 2 ^ 45 ∧ 0 ≤ s ∧ s ≤ 2 ∧
  ∀ q H', Same H H' → H q = none → H' q = some (.lst ((goodL b m t p s u l).map V.int)) → Q (.ref q) H'
theorem ok__law_good (T : Txt K mg) : FnOk P w K mg base CX0 3 T.a__law_good T.fd__law_good ["kind", "looks", "sight", "cell"] (sp__law_good K) := by
  refine T.F__law_good.ok sc__law_good (fun vs H Q E h => ?_) (fun cdv A outer s H vs Q E hr h => ?_)
  · obtain ⟨kp, lp, cp, b, m, s, u, l, t, p, rfl, _⟩ := h
    rfl
  obtain ⟨kp, lp, cp, b, m, s, u, l, t, p, rfl, hk, hl, hc, hkd, ht, hp, hu0, hu, hl0, hl1, hs0, hs1, q⟩ := h
  refine ⟨_, (pss_cons (ps_asg (pv 0) (pg_tup rfl (pgs_cons (pg_name (i := 4) sc__law_good.nd rfl (Or.inl rfl)) (pgs_cons (pg_name (i := 5) sc__law_good.nd rfl (Or.inl rfl)) pgs_nil))))
      (pss_cons (ps_asg (pe_call (ok__law_edges T) (hr.mono (by first | decide | omega)) rfl T.m__law_edges T.F__law_edges.kp T.b__law_edges .nil pass0 (pa_cons (pv 1) (pa_cons (pv 2) (pa_cons (pv 3) pa_nil)))) (pg_tup rfl (pgs_cons (pg_name (i := 6) sc__law_good.nd rfl (Or.inl rfl)) (pgs_cons (pg_name (i := 7) sc__law_good.nd rfl (Or.inl rfl)) (pgs_cons (pg_name (i := 8) sc__law_good.nd rfl (Or.inl rfl)) (pgs_cons (pg_name (i := 9) sc__law_good.nd rfl (Or.inl rfl)) pgs_nil))))))
      (pss_cons (ps_set (i := 10) sc__law_good.nd rfl (Or.inl rfl) (pe_lst pa_nil))
      (pss_cons (ps_for PassesOwn.never rfl (pi_range2 (by rfl) T.z_range (pa_cons (pe_op op_sub pe_int (pv 5)) (pa_cons (pe_op op_add (pv 5) pe_int) pa_nil))) (pg_name (i := 11) sc__law_good.nd rfl (Or.inl rfl)) (pss_cons (ps_set (i := 12) sc__law_good.nd rfl (Or.inl rfl) (pe_op op_add (pe_op op_mul (pv 11) (pe_op op_sub (pv 4) pe_int)) (pv 5)))
      (pss_cons (ps_set (i := 13) sc__law_good.nd rfl (Or.inl rfl) (pe_op op_sub (pe_op op_mul (pv 11) (pe_op op_sub (pv 4) pe_int)) (pv 5)))
      (pss_cons (ps_set (i := 14) sc__law_good.nd rfl (Or.inl rfl) (pe_ix ix_list (pe_lst (pa_cons (pv 7) (pa_cons (pv 6) pa_nil))) (pe_callTy call_int1 (by rfl) T.z_int (by decide +kernel) (pa_cons (pe_cmpR op_ge (pv 12) pe_int (nomark _)) pa_nil)) (fun _ _ => rfl)))
      (pss_cons (ps_set (i := 15) sc__law_good.nd rfl (Or.inl rfl) (pe_orJ (pe_cmpR op_eq (pv 11) (pv 5) (nomark _)) (pe_one (pe_cmpR op_le (pe_op op_mul (pv 9) (pe_op op_sub (pv 4) pe_int)) (pe_op op_mul (pv 12) (pv 14)) (nomark _)))))
      (pss_cons (ps_set (i := 14) sc__law_good.nd rfl (Or.inl rfl) (pe_ix ix_list (pe_lst (pa_cons (pv 6) (pa_cons (pv 7) pa_nil))) (pe_callTy call_int1 (by rfl) T.z_int (by decide +kernel) (pa_cons (pe_cmpR op_ge (pv 13) pe_int (nomark _)) pa_nil)) (fun _ _ => rfl)))
      (pss_one (ps_if (PW.pt (pw_andJ (pt_val (pv 15)) (pw_and1 (PW.pt (pw_orJ (pt_cmpR op_eq (pv 11) (pe_op op_sub pe_int (pv 5)) (nomark _)) (pw_or1 (pt_cmpR op_ge (pe_op op_mul (pv 8) (pe_op op_sub (pv 4) pe_int)) (pe_op op_mul (pv 13) (pv 14)) (nomark _)))))))) (pss_one (ps_expr (pe_bm PySem.F.plainAttrs_list PySem.F.slot_list_append PySem.F.type_list_append mt_append (pv 10) (pa_cons (pv 11) pa_nil)))) pss_nil))))))))
      (pss_cons (ps_if (pt_val (pe_call (ok__law_met T) (hr.mono (by first | decide | omega)) rfl T.m__law_met T.F__law_met.kp T.b__law_met .nil pass0 (pa_cons (pv 0) (pa_cons (pv 1) (pa_cons (pv 2) (pa_cons (pv 3) pa_nil)))))) (pss_one (ps_ret (pv 10))) pss_nil)
      (pss_one (ps_ret (pe_listRg rfl (by rfl) T.z_list (prg_2 (by rfl) T.z_range (pe_op op_sub pe_int (pv 5)) (pe_op op_add (pv 5) pe_int)))))))))), ?_⟩
  have bd := hkd.bd
  walk_at "rs"
  refine ⟨lp, cp, s, u, l, t, p, rfl, hl, hc, ht, hp, by omega, hu, hl0, hl1, hs0, hs1, fun r hr0 => ?_⟩
  have h2 := new_at hr0 (.tup [.int (u * 2 ^ p), .int ((u + 1) * 2 ^ p), .int (l * 2 ^ t), .int ((l + s) * 2 ^ t)])
  have s2 := same_new hr0 (.tup [.int (u * 2 ^ p), .int ((u + 1) * 2 ^ p), .int (l * 2 ^ t), .int ((l + s) * 2 ^ t)])
  walk_at "rs"
  refine ⟨by show 0 ≤ sizeLine; decide, fun fl hfl => ?_⟩
  have s3 := s2.trans (same_new hfl (.lst []))
  have hflH := same_none s2 hfl
  walk_at "rs"
  refine for_range (lo := 0 - m) (n := (m + 1 - (0 - m)).toNat) (fun i σ H' => Same H H' ∧ H' fl = some (.lst ((((figs m).take i).filter (goodB b m t p s u l)).map V.int)) ∧ ∃ t11 t12 t13 t14 t15 : Option V, σ = [some (.ref kp), some (.ref lp), some (.int s), some (.ref cp), some (.int b), some (.int m), some (.int (u * 2 ^ p)), some (.int ((u + 1) * 2 ^ p)), some (.int (l * 2 ^ t)), some (.int ((l + s) * 2 ^ t)), some (.ref fl), t11, t12, t13, t14, t15]) ⟨s3, upd_same, _, _, _, _, _, rfl⟩ ?_ ?_
  · rintro i σ H4 hi ⟨s4, h4, t11, t12, t13, t14, t15, rfl⟩
    have hfa := figs_at (m := m) (i := i) (by omega)
    obtain ⟨f, hf⟩ : ∃ f : Int, f = 0 - m + (i : Int) := ⟨_, rfl⟩
    have hf2 : -m + (i : Int) = f := by omega
    rw [hf2] at hfa
    rw [← hf]
    have hfb : -300 ≤ f * (b - 1) ∧ f * (b - 1) ≤ 300 := by
      have h5 : f * (b - 1) ≤ m * (b - 1) := Int.mul_le_mul_of_nonneg_right (by omega) (by omega)
      have h6 : -m * (b - 1) ≤ f * (b - 1) := Int.mul_le_mul_of_nonneg_right (by omega) (by omega)
      have h7 : m * (b - 1) ≤ 15 * (b - 1) := Int.mul_le_mul_of_nonneg_right (by omega) (by omega)
      rw [Int.neg_mul] at h6
      omega
    walk_at "rs"
    refine ⟨by show 2 ≤ sizeLine; decide, fun l1 hl1' => ?_⟩
    have n1 := same_new hl1' (.lst [.int ((u + 1) * 2 ^ p), .int (u * 2 ^ p)])
    walk_at "rs"
    refine .inr ⟨_, rfl, ?_⟩
    refine ⟨l1, _, _, _, rfl, rfl, SqL.of upd_same, pick2, ?_⟩
    rw [int_if]
    walk_at "rs"
    refine ⟨decide (f = m), decide ((l + s) * 2 ^ t * (b - 1) ≤ (f * (b - 1) + m) * (if f * (b - 1) + m ≥ 0 then u * 2 ^ p else (u + 1) * 2 ^ p)), fun Q' h => ?_, fun Q' h => ?_, ?_⟩
    · walk_at "rs"
      rw [int_dec]
      exact h
    · walk_at "rs"
      exact h
    rw [law_up]
    walk_at "rs"
    refine ⟨by show 2 ≤ sizeLine; decide, fun l2 hl2' => ?_⟩
    have n2 := same_new hl2' (.lst [.int (u * 2 ^ p), .int ((u + 1) * 2 ^ p)])
    walk_at "rs"
    refine .inr ⟨_, rfl, ?_⟩
    refine ⟨l2, _, _, _, rfl, rfl, SqL.of upd_same, pick2, ?_⟩
    rw [int_if]
    walk_at "rs"
    refine ⟨upB b m t p u (l + s) f, upB b m t p u (-l) (-f), fun Q' h => ?_, fun Q' h => ?_, ?_⟩
    · walk_at "rs"
      exact h
    · have e : (decide (f = 0 - m) || decide (l * 2 ^ t * (b - 1) ≥ (f * (b - 1) - m) * (if f * (b - 1) - m ≥ 0 then (u + 1) * 2 ^ p else u * 2 ^ p))) = upB b m t p u (-l) (-f) := by
        rw [law_lo]
        unfold upB
        congr 1
        exact decide_eq_decide.mpr (by omega)
      refine ⟨decide (f = 0 - m), decide (l * 2 ^ t * (b - 1) ≥ (f * (b - 1) - m) * (if f * (b - 1) - m ≥ 0 then (u + 1) * 2 ^ p else u * 2 ^ p)), fun Q2 h2 => ?_, fun Q2 h2 => ?_, ?_⟩
      · walk_at "rs"
        rw [int_dec]
        exact h2
      · walk_at "rs"
        exact h2
      · rw [e]
        exact h
    have hX := n2 _ _ (n1 _ _ h4)
    have sX := s4.trans (n1.trans n2)
    refine ite2 (fun c => ?_) (fun c => ?_)
    · walk_at "rs"
      refine ⟨.inl ⟨rfl, _, SqL.of hX⟩, _, rfl, fl, _, _, rfl, rfl, hX, ?_, same_mut _ sX hflH, ?_, _, _, _, _, _, rfl⟩
      · rw [List.length_map]
        have h8 := List.length_filter_le (goodB b m t p s u l) ((figs m).take i)
        rw [List.length_take] at h8
        exact small1000 (by omega)
      · rw [upd_same, take_snoc hfa, List.filter_append, List.map_append, List.filter_cons, if_pos (show goodB b m t p s u l f = true from c)]
        rfl
    · walk_at "rs"
      first
        | exact ⟨sX, by rw [hX, take_snoc hfa, List.filter_append, List.filter_cons, if_neg (show ¬ goodB b m t p s u l f = true from c), List.filter_nil, List.append_nil], _, _, _, _, _, rfl⟩
        | exact ⟨by rw [hX, take_snoc hfa, List.filter_append, List.filter_cons, if_neg (show ¬ goodB b m t p s u l f = true from c), List.filter_nil, List.append_nil], _, _, _, _, _, rfl⟩
  · rintro σ H4 ⟨s4, h4, t11, t12, t13, t14, t15, rfl⟩
    rw [List.take_of_length_le (by rw [figs_len]; omega)] at h4
    walk_at "rs"
    refine ⟨kp, lp, cp, b, m, s, u, l, t, p, rfl, sameT s4 hk, sameT s4 hl, sameT s4 hc, hkd, ht, hp, hu0, hu, hl0, hl1, hs0, hs1, fun H5 s5 => ?_⟩
    unfold goodL at q
    walk_at "rs"
    refine ite2 (fun c => ?_) (fun c => ?_)
    · rw [if_pos c] at q
      walk_at "rs"
      exact q fl H5 (s4.trans s5) hflH (s5 _ _ h4)
    · rw [if_neg c, figs_rng, ← rgV_ints, ← Int.zero_sub] at q
      walk_at "rs"
      exact fun y hy => q y _ (s4.trans (s5.trans (same_new hy _))) (same_none (s4.trans s5) hy) upd_same
def sp__law_great (K : PySem.W.Frag) : Sp := fun vs H Q _ => ∃ (a : Addr) (n f : Nat), vs = [.ref a, .int (f : Int)] ∧ Deck H a n ∧ n ≤ 900000000 ∧ f ≤ 1000 ∧ ∀ (v : Nat) H', v < 10 ^ f → Keep a H H' → Deck H' a (n + 6) → Q (.int (v : Int)) H'
theorem ten_cast (k : Nat) : (10 : Int) ^ k = ((10 ^ k : Nat) : Int) := by rw [Int.natCast_pow]; rfl
theorem ok__law_great (T : Txt K mg) : FnOk P w K mg base CX0 2 T.a__law_great T.fd__law_great ["deck", "figures"] (sp__law_great K) := by
  refine T.F__law_great.ok sc__law_great (fun vs H Q E h => ?_) (fun cdv A outer s H vs Q E hr h => ?_)
  · obtain ⟨a, n, f, rfl, _⟩ := h
    rfl
  obtain ⟨a, n, f, rfl, hd, hn, hf, q⟩ := h
  refine ⟨_, (pss_cons (ps_set (i := 2) sc__law_great.nd rfl (Or.inl rfl) pe_int)
      (pss_cons (ps_for PassesOwn.never rfl (pi_range1 (by rfl) T.z_range (pa_cons (pe_call (ok__law_pick T) (hr.mono (by first | decide | omega)) rfl T.m__law_pick T.F__law_pick.kp T.b__law_pick .nil pass0 (pa_cons (pv 0) (pa_cons (pe_op op_add (pv 1) pe_int) pa_nil))) pa_nil)) (pg_name (i := 3) sc__law_great.nd rfl (Or.inl rfl)) (pss_one (ps_set (i := 2) sc__law_great.nd rfl (Or.inl rfl) (pe_op op_mul (pv 2) pe_int))))
      (pss_cons (ps_set (i := 4) sc__law_great.nd rfl (Or.inl rfl) pe_int)
      (pss_cons (ps_for PassesOwn.never rfl (pi_range1 (by rfl) T.z_range (pa_cons pe_int pa_nil)) (pg_name (i := 3) sc__law_great.nd rfl (Or.inl rfl)) (pss_one (ps_set (i := 4) sc__law_great.nd rfl (Or.inl rfl) (pe_op op_add (pe_op op_mul (pv 4) (pe_op op_pow pe_int pe_int)) (pe_call (ok__law_pick T) (hr.mono (by first | decide | omega)) rfl T.m__law_pick T.F__law_pick.kp T.b__law_pick .nil pass0 (pa_cons (pv 0) (pa_cons (pe_op op_pow pe_int pe_int) pa_nil)))))))
      (pss_one (ps_ret (pe_op op_mod (pv 4) (pv 2)))))))), ?_⟩
  have s0 : S a n H [] := ⟨hd, trivial⟩
  walk_at "rd"
  walk_at "pick"
  intro v1 H1 v10 v11 k1 s1
  walk_at "rd"
  refine for_range0 (n := v1.toNat) (fun i σ H' => H' = H1 ∧ ∃ t, σ = [some (.ref a), some (.int (f : Int)), some (.int ((10 ^ i : Nat) : Int)), t, none]) ⟨rfl, none, rfl⟩ ?_ ?_
  · rintro i σ H2 hi ⟨rfl, t, rfl⟩
    walk_at "rd"
    refine ⟨some (.int (i : Int)), ?_⟩
    have e : ((10 ^ (i + 1) : Nat) : Int) = ((10 ^ i : Nat) : Int) * 10 := by rw [Nat.pow_succ, Int.natCast_mul]; rfl
    rw [e]; rfl
  · rintro σ H2 ⟨rfl, t, rfl⟩
    walk_at "rd"
    refine for_range0 (n := 5) (fun i σ H' => Keep a H H' ∧ Deck H' a (n + 1 + i) ∧ ∃ (y : Nat) (t : Option V), σ = [some (.ref a), some (.int (f : Int)), some (.int ((10 ^ v1.toNat : Nat) : Int)), t, some (.int (y : Int))]) ⟨k1, s1.d, 0, t, rfl⟩ ?_ ?_
    · rintro i σ H3 hi ⟨k3, d3, y, t, rfl⟩
      have s3 : S a _ H3 [] := ⟨d3, trivial⟩
      walk_at "rd"
      walk_at "pick"
      intro v4 H4 v40 v41 k4 s4
      obtain ⟨v4, rfl⟩ := nat_of v40
      walk_at "rd1"
      refine ⟨k3.trans k4, s4.d, y * 10 ^ 12 + v4, some (.int (i : Int)), ?_⟩
      have e : (y : Int) * 10 ^ (12 : Int).toNat + (v4 : Int) = ((y * 10 ^ 12 + v4 : Nat) : Int) := by
        rw [Int.natCast_add, Int.natCast_mul, Int.natCast_pow]; rfl
      rw [← e]
      rfl
    · rintro σ H3 ⟨k3, d3, y, t, rfl⟩
      have h10 : 0 < 10 ^ v1.toNat := Nat.pow_pos (by decide)
      walk_at "rd"
      show Q (.int ((y : Int) % ((10 ^ v1.toNat : Nat) : Int))) H3
      rw [← Int.natCast_emod]
      exact q _ H3 (Nat.lt_of_lt_of_le (Nat.mod_lt _ h10) (Nat.pow_le_pow_right (by decide) (by omega))) k3 d3
theorem pows_at {r : Nat} (h : r ≤ 10) : atI [V.int 1, .int 2, .int 4, .int 8, .int 16, .int 32, .int 64, .int 128, .int 256, .int 512, .int 1024] (r : Int) = some (.int (2 ^ r)) := by
  have : r = 0 ∨ r = 1 ∨ r = 2 ∨ r = 3 ∨ r = 4 ∨ r = 5 ∨ r = 6 ∨ r = 7 ∨ r = 8 ∨ r = 9 ∨ r = 10 := by omega
  rcases this with rfl | rfl | rfl | rfl | rfl | rfl | rfl | rfl | rfl | rfl | rfl <;> rfl
def sp__law_half (K : PySem.W.Frag) : Sp := fun vs H Q _ => ∃ (kp lp : Addr) (b m : Int) (t : V) (r : Nat), vs = [.ref kp, .ref lp] ∧ SqT K H kp [.int b, .int m] ∧ SqT K H lp [t, .int (r : Int)] ∧ Kd b m ∧ r ≤ 10 ∧ ∀ H', Same H H' → Q (.int (b * 2 ^ r + 2)) H'
theorem ok__law_half (T : Txt K mg) : FnOk P w K mg base CX0 1 T.a__law_half T.fd__law_half ["kind", "looks"] (sp__law_half K) := by
  refine T.F__law_half.ok sc__law_half (fun vs H Q E h => ?_) (fun cdv A outer s H vs Q E hr h => ?_)
  · obtain ⟨kp, lp, b, m, t, r, rfl, _⟩ := h
    rfl
  obtain ⟨kp, lp, b, m, t, r, rfl, hk, hl, hkd, hr2, q⟩ := h
  refine ⟨_, (pss_one (ps_ret (pe_op op_add (pe_op op_mul (pe_ix ix_tup (pv 0) pe_int (fun _ _ => rfl)) (pe_ix ix_list (pe_lst (pa_cons pe_int (pa_cons pe_int (pa_cons pe_int (pa_cons pe_int (pa_cons pe_int (pa_cons pe_int (pa_cons pe_int (pa_cons pe_int (pa_cons pe_int (pa_cons pe_int (pa_cons pe_int pa_nil)))))))))))) (pe_ix ix_tup (pv 1) pe_int (fun _ _ => rfl)) (fun _ _ => rfl))) pe_int))), ?_⟩
  have bd := hkd.bd
  walk_at "rd"
  refine ⟨by show 11 ≤ sizeLine; decide, fun l hl2 => ?_⟩
  have s1 := same_new hl2 (.lst [V.int 1, .int 2, .int 4, .int 8, .int 16, .int 32, .int 64, .int 128, .int 256, .int 512, .int 1024])
  have hl3 := sameT s1 hl
  walk_at "rd"
  refine ⟨l, _, _, _, rfl, rfl, SqL.of upd_same, pows_at hr2, ?_⟩
  walk_at "rd"
  exact q _ s1
/-! ### looks and points, as drawn -/
def sp__law_looks (K : PySem.W.Frag) : Sp := fun vs H Q _ => ∃ (a : Addr) (n : Nat), vs = [.ref a] ∧ Deck H a n ∧ n ≤ 900000000 ∧
  ∀ (p : Addr) (t r : Nat) (H' : Hp), Keep a H H' → Deck H' a (n + 3) → H' p = some (.tup [.int (t : Int), .int (r : Int)]) → 1 ≤ t → t ≤ 8 → r ≤ 8 → Q (.ref p) H'
theorem ok__law_looks (T : Txt K mg) : FnOk P w K mg base CX0 2 T.a__law_looks T.fd__law_looks ["deck"] (sp__law_looks K) := by
  refine T.F__law_looks.ok sc__law_looks (fun vs H Q E h => ?_) (fun cdv A outer s H vs Q E hr h => ?_)
  · obtain ⟨a, n, rfl, _⟩ := h
    rfl
  obtain ⟨a, n, rfl, hd, hn, q⟩ := h
  refine ⟨_, (pss_cons (ps_if (pt_cmpR op_eq (pe_call (ok__law_pick T) (hr.mono (by first | decide | omega)) rfl T.m__law_pick T.F__law_pick.kp T.b__law_pick .nil pass0 (pa_cons (pv 0) (pa_cons pe_int pa_nil))) pe_int (nomark _)) (pss_one (ps_ret (pe_tup (pa_cons (pe_op op_add pe_int (pe_call (ok__law_pick T) (hr.mono (by first | decide | omega)) rfl T.m__law_pick T.F__law_pick.kp T.b__law_pick .nil pass0 (pa_cons (pv 0) (pa_cons pe_int pa_nil)))) (pa_cons (pe_call (ok__law_pick T) (hr.mono (by first | decide | omega)) rfl T.m__law_pick T.F__law_pick.kp T.b__law_pick .nil pass0 (pa_cons (pv 0) (pa_cons pe_int pa_nil))) pa_nil))))) pss_nil)
      (pss_one (ps_ret (pe_tup (pa_cons (pe_op op_add pe_int (pe_call (ok__law_pick T) (hr.mono (by first | decide | omega)) rfl T.m__law_pick T.F__law_pick.kp T.b__law_pick .nil pass0 (pa_cons (pv 0) (pa_cons pe_int pa_nil)))) (pa_cons (pe_call (ok__law_pick T) (hr.mono (by first | decide | omega)) rfl T.m__law_pick T.F__law_pick.kp T.b__law_pick .nil pass0 (pa_cons (pv 0) (pa_cons pe_int pa_nil))) pa_nil)))))), ?_⟩
  have s0 : S a n H [] := ⟨hd, trivial⟩
  walk_at "rs"
  walk_at "pick"
  intro v1 H1 v10 v11 k1 s1
  walk_at "rs"
  refine ite2 (fun c => ?_) (fun c => ?_)
  · walk_at "rs"
    walk_at "pick"
    intro v2 H2 v20 v21 k2 s2
    walk_at "rs"
    walk_at "pick"
    intro v3 H3 v30 v31 k3 s3
    obtain ⟨t, ht⟩ := nat_of (v := 1 + v2) (by omega)
    obtain ⟨r, rfl⟩ := nat_of (v := v3) (by omega)
    walk_at "rs"
    refine ⟨by show 2 ≤ sizeLine; decide, fun p hp => ?_⟩
    exact q p t r _ (k1.trans (k2.trans (k3.trans (Keep.new hp)))) (s3.d.same (same_new hp _)) (by rw [upd_same, ← ht]) (by omega) (by omega) (by omega)
  · walk_at "rs"
    walk_at "pick"
    intro v2 H2 v20 v21 k2 s2
    walk_at "rs"
    walk_at "pick"
    intro v3 H3 v30 v31 k3 s3
    obtain ⟨t, ht⟩ := nat_of (v := 1 + v2) (by omega)
    obtain ⟨r, rfl⟩ := nat_of (v := v3) (by omega)
    walk_at "rs"
    refine ⟨by show 2 ≤ sizeLine; decide, fun p hp => ?_⟩
    exact q p t r _ (k1.trans (k2.trans (k3.trans (Keep.new hp)))) (s3.d.same (same_new hp _)) (by rw [upd_same, ← ht]) (by omega) (by omega) (by omega)
theorem fdiv_abs {r : Int} {k : Nat} : (r / 2 ^ k).natAbs ≤ r.natAbs := by
  have h3 := two_pos k
  rcases Int.le_total 0 r with c0 | c0
  · have := Int.ediv_nonneg c0 (Int.le_of_lt h3)
    have := Int.ediv_le_self (2 ^ k) c0
    omega
  · have h8 : r ≤ r / 2 ^ k := by
      rw [Int.le_ediv_iff_mul_le h3]
      have := Int.mul_le_mul_of_nonpos_left (a := r) (b := 2 ^ k) (c := 1) c0 (by omega)
      rw [Int.mul_one] at this
      exact this
    have := Int.ediv_le_ediv h3 c0
    rw [Int.zero_ediv] at this
    omega
theorem unit_mul {r : Int} {k : Nat} (h1 : -(2 ^ 140) < r) (h2 : r < 2 ^ 140) (hk : k ≤ 140) : CMulW (r / 2 ^ k) (2 ^ k) := by
  have e := fdiv_abs (r := r) (k := k)
  refine wide_mul (a := 140) (b := 141) (by omega) ?_ (by decide) (by decide) (by decide)
  rw [two_cast, Int.natAbs_natCast]
  exact Nat.pow_lt_pow_right (by decide) (by omega)
/-- a point -/
structure Pnt (b m : Int) (t p k : Nat) (d r : Int) : Prop where
  tk : t ≤ k
  pk : p ≤ k
  kb : k ≤ 80
  k1 : 1 ≤ k
  lo : 2 ^ (k - 1) ≤ d
  hi : d < 2 ^ k
  rr : (b - 1) * absI r ≤ b * m * d
def sp__law_point (K : PySem.W.Frag) : Sp := fun vs H Q _ => ∃ (a kp lp : Addr) (n : Nat) (b m : Int) (t p : Nat), vs = [.ref a, .ref kp, .ref lp] ∧ S a n H [At a kp (.tup [.int b, .int m]), At a lp (.tup [.int (t : Int), .int (p : Int)])] ∧ n ≤ 900000 ∧ Kd b m ∧ 1 ≤ t ∧ t ≤ 10 ∧ p ≤ 10 ∧
  ∀ (k : Nat) (d r : Int) pp H', Pnt b m t p k d r → H pp = none → Keep a H H' → Deck H' a (n + 40) → H' pp = some (.tup [.int (k : Int), .int d, .int r]) → Q (.ref pp) H'
theorem ok__law_point (T : Txt K mg) : FnOk P w K mg base CX0 3 T.a__law_point T.fd__law_point ["deck", "kind", "looks"] (sp__law_point K) := by
  refine T.F__law_point.ok sc__law_point (fun vs H Q E h => ?_) (fun cdv A outer s H vs Q E hr h => ?_)
  · obtain ⟨a, kp, lp, n, b, m, t, p, rfl, _⟩ := h
    rfl
  obtain ⟨a, kp, lp, n, b, m, t, p, rfl, s0, hn, hkd, ht, ht2, hp, q⟩ := h
  have bd := hkd.bd
  refine ⟨_, (pss_cons (ps_set (i := 3) sc__law_point.nd rfl (Or.inl rfl) (pe_op op_add (pe_callB (cr_maxT2 rfl) (by rfl) T.z_max (by decide +kernel) (pa_cons (pv 2) pa_nil)) (pe_ix ix_list (pe_lst (pa_cons (pe_call (ok__law_pick T) (hr.mono (by first | decide | omega)) rfl T.m__law_pick T.F__law_pick.kp T.b__law_pick .nil pass0 (pa_cons (pv 0) (pa_cons pe_int pa_nil))) (pa_cons (pe_call (ok__law_pick T) (hr.mono (by first | decide | omega)) rfl T.m__law_pick T.F__law_pick.kp T.b__law_pick .nil pass0 (pa_cons (pv 0) (pa_cons pe_int pa_nil))) pa_nil))) (pe_call (ok__law_pick T) (hr.mono (by first | decide | omega)) rfl T.m__law_pick T.F__law_pick.kp T.b__law_pick .nil pass0 (pa_cons (pv 0) (pa_cons pe_int pa_nil))) (fun _ _ => rfl))))
      (pss_cons (ps_set (i := 4) sc__law_point.nd rfl (Or.inl rfl) (pe_op op_oneShl pe_int (pe_op op_sub1N (pv 3) pe_int)))
      (pss_cons (ps_set (i := 5) sc__law_point.nd rfl (Or.inl rfl) (pe_op op_oneShl pe_int (pe_op op_subN (pv 3) (pe_ix ix_tup (pv 2) pe_int (fun _ _ => rfl)))))
      (pss_cons (ps_set (i := 6) sc__law_point.nd rfl (Or.inl rfl) (pe_op op_add (pv 4) (pe_ix ix_list (pe_lst (pa_cons (pe_op op_mod (pe_call (ok__law_great T) (hr.mono (by first | decide | omega)) rfl T.m__law_great T.F__law_great.kp T.b__law_great .nil pass0 (pa_cons (pv 0) (pa_cons pe_int pa_nil))) (pv 4)) (pa_cons pe_int (pa_cons (pe_op op_sub (pv 4) pe_int) pa_nil)))) (pe_call (ok__law_pick T) (hr.mono (by first | decide | omega)) rfl T.m__law_pick T.F__law_pick.kp T.b__law_pick .nil pass0 (pa_cons (pv 0) (pa_cons pe_int pa_nil))) (fun _ _ => rfl))))
      (C8.pss_cut (ps_if (pt_cmpR op_eq (pe_call (ok__law_pick T) (hr.mono (by first | decide | omega)) rfl T.m__law_pick T.F__law_pick.kp T.b__law_pick .nil pass0 (pa_cons (pv 0) (pa_cons pe_int pa_nil))) pe_int (nomark _)) (pss_one (ps_set (i := 6) sc__law_point.nd rfl (Or.inl rfl) (pe_callB (call_max2 rfl) (by rfl) T.z_max (by decide +kernel) (pa_cons (pv 4) (pa_cons (pe_callB (call_min2 rfl) (by rfl) T.z_min (by decide +kernel) (pa_cons (pe_op op_sub (pe_op op_mul pe_int (pv 4)) pe_int) (pa_cons (pe_op op_sub (pe_op op_add (pe_op op_mulW (pe_op op_fdivW (pv 6) (pv 5)) (pv 5)) (pe_call (ok__law_pick T) (hr.mono (by first | decide | omega)) rfl T.m__law_pick T.F__law_pick.kp T.b__law_pick .nil pass0 (pa_cons (pv 0) (pa_cons pe_int pa_nil)))) pe_int) pa_nil))) pa_nil))))) pss_nil)
      (pss_cons (ps_set (i := 7) sc__law_point.nd rfl (Or.inl rfl) (pe_op op_fdiv (pe_op op_mul (pe_op op_mul (pe_ix ix_tup (pv 1) pe_int (fun _ _ => rfl)) (pe_ix ix_tup (pv 1) pe_int (fun _ _ => rfl))) (pv 6)) (pe_op op_sub (pe_ix ix_tup (pv 1) pe_int (fun _ _ => rfl)) pe_int)))
      (pss_cons (ps_set (i := 5) sc__law_point.nd rfl (Or.inl rfl) (pe_op op_oneShl pe_int (pe_op op_subN (pv 3) (pe_ix ix_tup (pv 2) pe_int (fun _ _ => rfl)))))
      (pss_cons (ps_set (i := 8) sc__law_point.nd rfl (Or.inl rfl) (pe_ix ix_list (pe_lst (pa_cons (pe_op op_mod (pe_call (ok__law_great T) (hr.mono (by first | decide | omega)) rfl T.m__law_great T.F__law_great.kp T.b__law_great .nil pass0 (pa_cons (pv 0) (pa_cons pe_int pa_nil))) (pe_op op_add (pv 7) pe_int)) (pa_cons (pe_op op_sub (pv 7) (pe_call (ok__law_pick T) (hr.mono (by first | decide | omega)) rfl T.m__law_pick T.F__law_pick.kp T.b__law_pick .nil pass0 (pa_cons (pv 0) (pa_cons pe_int pa_nil)))) (pa_cons (pe_call (ok__law_pick T) (hr.mono (by first | decide | omega)) rfl T.m__law_pick T.F__law_pick.kp T.b__law_pick .nil pass0 (pa_cons (pv 0) (pa_cons pe_int pa_nil))) pa_nil)))) (pe_call (ok__law_pick T) (hr.mono (by first | decide | omega)) rfl T.m__law_pick T.F__law_pick.kp T.b__law_pick .nil pass0 (pa_cons (pv 0) (pa_cons pe_int pa_nil))) (fun _ _ => rfl)))
      (C8.pss_cut (ps_if (pt_cmpR op_eq (pe_call (ok__law_pick T) (hr.mono (by first | decide | omega)) rfl T.m__law_pick T.F__law_pick.kp T.b__law_pick .nil pass0 (pa_cons (pv 0) (pa_cons pe_int pa_nil))) pe_int (nomark _)) (pss_one (ps_set (i := 8) sc__law_point.nd rfl (Or.inl rfl) (pe_op op_sub (pe_op op_add (pe_op op_mulW (pe_op op_fdivW (pv 8) (pv 5)) (pv 5)) (pe_call (ok__law_pick T) (hr.mono (by first | decide | omega)) rfl T.m__law_pick T.F__law_pick.kp T.b__law_pick .nil pass0 (pa_cons (pv 0) (pa_cons pe_int pa_nil)))) pe_int))) pss_nil)
      (pss_one (ps_ret (pe_tup (pa_cons (pv 3) (pa_cons (pv 6) (pa_cons (pe_op op_mul (pe_callB (call_max2 rfl) (by rfl) T.z_max (by decide +kernel) (pa_cons pe_int (pa_cons (pe_callB (call_min2 rfl) (by rfl) T.z_min (by decide +kernel) (pa_cons (pv 7) (pa_cons (pv 8) pa_nil))) pa_nil))) (pe_ix ix_list (pe_lst (pa_cons pe_int (pa_cons (pe_un un_neg pe_int) pa_nil))) (pe_call (ok__law_pick T) (hr.mono (by first | decide | omega)) rfl T.m__law_pick T.F__law_pick.kp T.b__law_pick .nil pass0 (pa_cons (pv 0) (pa_cons pe_int pa_nil))) (fun _ _ => rfl))) pa_nil))))))))))))))), ?_⟩
  walk_at "rs"
  obtain ⟨mx, hmx, hm1, hm2, hm3⟩ : ∃ mx : Int, (mx = if (p : Int) > (t : Int) then (p : Int) else (t : Int)) ∧ (t : Int) ≤ mx ∧ (p : Int) ≤ mx ∧ mx ≤ 10 := ⟨_, rfl, by split <;> omega, by split <;> omega, by split <;> omega⟩
  refine ⟨lp, _, _, rfl, SqT.of (s0.at_ (.tail _ (.head _))), ?_⟩
  rw [← hmx]
  walk_at "rs"
  walk_at "pick"
  intro v1 H1 v10 v11 k1 s1
  walk_at "rs"
  walk_at "pick"
  intro v2 H2 v20 v21 k2 s2
  walk_at "rs"
  walk_at "choose"
  intro y H3 my k3 s3
  obtain ⟨k, e, hk1, hk2, hk3, hk4⟩ : ∃ k : Nat, (∃ z : Int, y = .int z ∧ mx + z = (k : Int)) ∧ 1 ≤ k ∧ t ≤ k ∧ p ≤ k ∧ k ≤ 80 := by
    simp only [List.mem_cons, List.not_mem_nil, or_false] at my
    rcases my with e | e
    · exact ⟨(mx + v1).toNat, ⟨v1, e, by omega⟩, by omega, by omega, by omega, by omega⟩
    · exact ⟨(mx + v2).toNat, ⟨v2, e, by omega⟩, by omega, by omega, by omega, by omega⟩
  obtain ⟨z, rfl, e⟩ := e
  clear my
  refine add_to e ?_
  have h1 := two_pos (k - 1)
  have h2 := pow_le (n := k - 1) (k := 80) (by omega)
  have h3 := two_pos (k - p)
  have h4 := pow_le (n := k - p) (k := 80) (by omega)
  have h5 := two_even (w := k) hk1
  walk_at "rs"
  refine ⟨a, _, 30, rfl, s3.d, by omega, by omega, fun g H4 hg k4 d4 => ?_⟩
  have s4 := s3.keep k4 d4
  have g1 := Int.emod_nonneg (g : Int) (b := 2 ^ (k - 1)) (by omega)
  have g2 := Int.emod_lt_of_pos (g : Int) h1
  walk_at "rs"
  walk_at "choose"
  intro y H5 my k5 s5
  obtain ⟨d, e, hd1, hd2⟩ : ∃ d : Int, (∃ z : Int, y = .int z ∧ 2 ^ (k - 1) + z = d) ∧ 2 ^ (k - 1) ≤ d ∧ d < 2 ^ k := by
    simp only [List.mem_cons, List.not_mem_nil, or_false] at my
    rcases my with e | e | e
    · exact ⟨_, ⟨_, e, rfl⟩, by omega, by omega⟩
    · exact ⟨_, ⟨_, e, rfl⟩, by omega, by omega⟩
    · exact ⟨_, ⟨_, e, rfl⟩, by omega, by omega⟩
  obtain ⟨z2, rfl, e2⟩ := e
  clear my
  refine add_to e2 ?_
  have kk : Keep a H H5 := k1.trans (k2.trans (k3.trans (k4.trans k5)))
  clear k1 k2 k3 k4 k5 s1 s2 s3 s4 d4 hg g1 g2
  walk_at "rs"
  refine ⟨fun σ' H' => Keep a H H' ∧ S a (n + 20) H' [At a kp (HO.tup [V.int b, V.int m]), At a lp (HO.tup [V.int (t : Int), V.int (p : Int)])] ∧ ∃ d : Int, 2 ^ (k - 1) ≤ d ∧ d < 2 ^ k ∧ σ' = [some (.ref a), some (.ref kp), some (.ref lp), some (.int (k : Int)), some (.int (2 ^ (k - 1))), some (.int (2 ^ (k - t))), some (.int d), none, none], ?_, ?_⟩
  · walk_at "rs"
    walk_at "pick"
    intro v11 H11 v110 v111 k11 s11
    walk_at "rs"
    refine ite2 (fun c => ?_) (fun c => ?_)
    · walk_at "rs"
      refine ⟨div2 (by omega), ?_⟩
      walk_at "rs"
      refine ⟨unit_mul (by omega) (by omega) (by omega), ?_⟩
      walk_at "rs"
      walk_at "pick"
      intro v12 H12 v120 v121 k12 s12
      walk_at "rs"
      refine ⟨kk.trans (k11.trans k12), s12.le (by omega), _, ?_, ?_, rfl⟩
      · split <;> omega
      · generalize d / 2 ^ (k - t) * 2 ^ (k - t) = z
        split
        · split <;> omega
        · omega
    · walk_at "rs"
      exact ⟨kk.trans k11, s11.le (by omega), d, hd1, hd2, rfl⟩
  · rintro σ' H' ⟨kk, s1, d, hd1, hd2, rfl⟩
    walk_at "rs"
    have hR0 : 0 ≤ (b * m * d / (b - 1)) := Int.ediv_nonneg (Int.mul_nonneg (by omega) (by omega)) (by omega)
    have hR1 : (b * m * d / (b - 1)) ≤ 2 ^ 130 := by
      have h5 : b * m * d ≤ 240 * d := Int.mul_le_mul_of_nonneg_right (by omega) (by omega)
      have h6 := Int.ediv_le_self (b - 1) (a := b * m * d) (Int.mul_nonneg (by omega) (by omega))
      have h7 := pow_le (n := k) (k := 80) (by omega)
      omega
    have hR2 : (b - 1) * (b * m * d / (b - 1)) ≤ b * m * d := Int.mul_ediv_self_le (by omega)
    refine ⟨⟨by omega, by omega⟩, ?_⟩
    walk_at "rs"
    refine ⟨a, _, 30, rfl, s1.d, by omega, by omega, fun g H4 hg k4 d4 => ?_⟩
    have s4 := s1.keep k4 d4
    have g1 := Int.emod_nonneg (g : Int) (b := (b * m * d / (b - 1)) + 1) (by omega)
    have g2 := Int.emod_lt_of_pos (g : Int) (b := (b * m * d / (b - 1)) + 1) (by omega)
    walk_at "rs"
    walk_at "pick"
    intro v5 H5 v50 v51 k5 s5
    walk_at "rs"
    walk_at "pick"
    intro v6 H6 v60 v61 k6 s6
    walk_at "rs"
    walk_at "choose"
    intro y H7 my k7 s7
    obtain ⟨r, rfl, hr1, hr2⟩ : ∃ r : Int, y = .int r ∧ -10 ≤ r ∧ r ≤ 2 ^ 130 + 10 := by
      simp only [List.mem_cons, List.not_mem_nil, or_false] at my
      rcases my with e | e | e
      · exact ⟨_, e, by omega, by omega⟩
      · exact ⟨_, e, by omega, by omega⟩
      · exact ⟨_, e, by omega, by omega⟩
    clear my g1 g2 hg d4
    have kk := kk.trans (k4.trans (k5.trans (k6.trans k7)))
    clear k4 k5 k6 k7 s4 s5 s6
    walk_at "rs"
    refine ⟨fun σ' H' => Keep a H H' ∧ S a (n + 37) H' [At a kp (HO.tup [V.int b, V.int m]), At a lp (HO.tup [V.int (t : Int), V.int (p : Int)])] ∧ ∃ r : Int, σ' = [some (.ref a), some (.ref kp), some (.ref lp), some (.int (k : Int)), some (.int (2 ^ (k - 1))), some (.int (2 ^ (k - p))), some (.int d), some (.int (b * m * d / (b - 1))), some (.int r)], ?_, ?_⟩
    · walk_at "rs"
      walk_at "pick"
      intro v11 H11 v110 v111 k11 s11
      walk_at "rs"
      refine ite2 (fun c => ?_) (fun c => ?_)
      · walk_at "rs"
        refine ⟨div2 (by omega), ?_⟩
        walk_at "rs"
        refine ⟨unit_mul (by omega) (by omega) (by omega), ?_⟩
        walk_at "rs"
        walk_at "pick"
        intro v12 H12 v120 v121 k12 s12
        walk_at "rs"
        exact ⟨kk.trans (k11.trans k12), s12.le (by omega), _, rfl⟩
      · walk_at "rs"
        exact ⟨kk.trans k11, s11.le (by omega), r, rfl⟩
    · rintro σ' H' ⟨kk, s8, r, rfl⟩
      walk_at "rs"
      obtain ⟨v, hv, hv0, hv1⟩ : ∃ v : Int, (v = if (if r < (b * m * d / (b - 1)) then r else (b * m * d / (b - 1))) > 0 then (if r < (b * m * d / (b - 1)) then r else (b * m * d / (b - 1))) else 0) ∧ 0 ≤ v ∧ v ≤ (b * m * d / (b - 1)) := ⟨_, rfl, by split <;> split <;> omega, by split <;> split <;> omega⟩
      rw [← hv]
      walk_at "choose"
      intro y H9 my k9 s9
      obtain ⟨y, rfl, hy0⟩ : ∃ z : Int, y = .int z ∧ (z = 1 ∨ z = -1) := by
        simp only [List.mem_cons, List.not_mem_nil, or_false] at my
        rcases my with e | e
        · exact ⟨_, e, by decide⟩
        · exact ⟨_, e, by decide⟩
      walk_at "rs"
      refine ⟨by show 3 ≤ sizeLine; decide, fun pp hpp => ?_⟩
      have k10 := kk.trans k9
      have hpt : Pnt b m t p k d (v * y) := ⟨hk2, hk3, hk4, hk1, hd1, hd2, by
        have e9 : absI (v * y) = v := by
          rcases hy0 with e | e <;> subst e <;> unfold absI
          · rw [Int.mul_one, if_neg (by omega)]
          · rw [Int.mul_neg, Int.mul_one]
            split <;> omega
        rw [e9]
        have := Int.mul_le_mul_of_nonneg_left hv1 (show 0 ≤ b - 1 by omega)
        omega⟩
      exact q k d _ pp _ hpt (k10.none_of s9.d hpp) (k10.trans (Keep.new hpp)) ((s9.d.same (same_new hpp _)).le (by omega)) upd_same
theorem top_bd {k t : Nat} {d : Int} (h1 : 1 ≤ t) (h2 : t ≤ k) (lo : 2 ^ (k - 1) ≤ d) (hi : d < 2 ^ k) : 2 ^ (t - 1) ≤ d / 2 ^ (k - t) ∧ d / 2 ^ (k - t) < 2 ^ t := by
  have hp := two_pos (k - t)
  have e1 : (2 : Int) ^ (k - 1) = 2 ^ (t - 1) * 2 ^ (k - t) := by rw [← Int.pow_add]; congr 1; omega
  have e2 : (2 : Int) ^ k = 2 ^ t * 2 ^ (k - t) := by rw [← Int.pow_add]; congr 1; omega
  rw [Int.le_ediv_iff_mul_le hp, Int.ediv_lt_iff_lt_mul hp]
  omega
def sp__law_cell (K : PySem.W.Frag) : Sp := fun vs H Q _ => ∃ (a kp lp : Addr) (n : Nat) (b m : Int) (t p : Nat), vs = [.ref a, .ref kp, .ref lp] ∧ S a n H [At a kp (.tup [.int b, .int m]), At a lp (.tup [.int (t : Int), .int (p : Int)])] ∧ n ≤ 900000 ∧ Kd b m ∧ 1 ≤ t ∧ t ≤ 10 ∧ p ≤ 10 ∧
  ∀ (u l : Int) cp H', 1 ≤ u → u ≤ 1024 → -20000 ≤ l → l ≤ 20000 → H cp = none → Keep a H H' → H' cp = some (.tup [.int u, .int l]) → Q (.ref cp) H'
theorem ok__law_cell (T : Txt K mg) : FnOk P w K mg base CX0 4 T.a__law_cell T.fd__law_cell ["deck", "kind", "looks"] (sp__law_cell K) := by
  refine T.F__law_cell.ok sc__law_cell (fun vs H Q E h => ?_) (fun cdv A outer s H vs Q E hr h => ?_)
  · obtain ⟨a, kp, lp, n, b, m, t, p, rfl, _⟩ := h
    rfl
  obtain ⟨a, kp, lp, n, b, m, t, p, rfl, s0, hn, hkd, ht, ht2, hp, q⟩ := h
  have bd := hkd.bd
  refine ⟨_, (pss_cons (ps_asg (pe_call (ok__law_point T) (hr.mono (by first | decide | omega)) rfl T.m__law_point T.F__law_point.kp T.b__law_point .nil pass0 (pa_cons (pv 0) (pa_cons (pv 1) (pa_cons (pv 2) pa_nil)))) (pg_tup rfl (pgs_cons (pg_name (i := 3) sc__law_cell.nd rfl (Or.inl rfl)) (pgs_cons (pg_name (i := 4) sc__law_cell.nd rfl (Or.inl rfl)) (pgs_cons (pg_name (i := 5) sc__law_cell.nd rfl (Or.inl rfl)) pgs_nil)))))
      (pss_cons (ps_set (i := 6) sc__law_cell.nd rfl (Or.inl rfl) (pe_call (ok__law_half T) (hr.mono (by first | decide | omega)) rfl T.m__law_half T.F__law_half.kp T.b__law_half .nil pass0 (pa_cons (pv 1) (pa_cons (pv 2) pa_nil))))
      (pss_cons (ps_set (i := 7) sc__law_cell.nd rfl (Or.inl rfl) (pe_op op_fdivW (pv 4) (pe_op op_oneShl pe_int (pe_op op_subN (pv 3) (pe_ix ix_tup (pv 2) pe_int (fun _ _ => rfl))))))
      (pss_cons (ps_set (i := 8) sc__law_cell.nd rfl (Or.inl rfl) (pe_op op_add (pe_op op_fdivW (pv 5) (pe_op op_oneShl pe_int (pe_op op_subN (pv 3) (pe_ix ix_tup (pv 2) pe_int (fun _ _ => rfl))))) (pe_ix ix_list (pe_lst (pa_cons pe_int (pa_cons pe_int (pa_cons (pe_op op_sub (pe_call (ok__law_pick T) (hr.mono (by first | decide | omega)) rfl T.m__law_pick T.F__law_pick.kp T.b__law_pick .nil pass0 (pa_cons (pv 0) (pa_cons pe_int pa_nil))) pe_int) pa_nil)))) (pe_call (ok__law_pick T) (hr.mono (by first | decide | omega)) rfl T.m__law_pick T.F__law_pick.kp T.b__law_pick .nil pass0 (pa_cons (pv 0) (pa_cons pe_int pa_nil))) (fun _ _ => rfl))))
      (C8.pss_cut (ps_if (pt_cmpR op_eq (pe_call (ok__law_pick T) (hr.mono (by first | decide | omega)) rfl T.m__law_pick T.F__law_pick.kp T.b__law_pick .nil pass0 (pa_cons (pv 0) (pa_cons pe_int pa_nil))) pe_int (nomark _)) (pss_one (ps_set (i := 8) sc__law_cell.nd rfl (Or.inl rfl) (pe_op op_sub (pe_call (ok__law_pick T) (hr.mono (by first | decide | omega)) rfl T.m__law_pick T.F__law_pick.kp T.b__law_pick .nil pass0 (pa_cons (pv 0) (pa_cons (pe_op op_mul pe_int (pv 6)) pa_nil))) (pv 6)))) pss_nil)
      (C8.pss_cut (ps_if (pt_cmpR op_eq (pe_call (ok__law_pick T) (hr.mono (by first | decide | omega)) rfl T.m__law_pick T.F__law_pick.kp T.b__law_pick .nil pass0 (pa_cons (pv 0) (pa_cons pe_int pa_nil))) pe_int (nomark _)) (pss_cons (ps_set (i := 9) sc__law_cell.nd rfl (Or.inl rfl) (pe_op op_mul (pe_op op_mul (pe_op op_mul (pe_ix ix_tup (pv 1) pe_int (fun _ _ => rfl)) (pe_ix ix_tup (pv 1) pe_int (fun _ _ => rfl))) (pe_op op_add (pv 7) pe_int)) (pe_op op_oneShl pe_int (pe_ix ix_tup (pv 2) pe_int (fun _ _ => rfl)))))
      (pss_cons (ps_set (i := 9) sc__law_cell.nd rfl (Or.inl rfl) (pe_op op_fdivW (pv 9) (pe_op op_mul (pe_op op_sub (pe_ix ix_tup (pv 1) pe_int (fun _ _ => rfl)) pe_int) (pe_op op_oneShl pe_int (pe_ix ix_tup (pv 2) pe_int (fun _ _ => rfl))))))
      (pss_one (ps_set (i := 8) sc__law_cell.nd rfl (Or.inl rfl) (pe_op op_mul (pe_op op_sub (pe_op op_add (pv 9) (pe_call (ok__law_pick T) (hr.mono (by first | decide | omega)) rfl T.m__law_pick T.F__law_pick.kp T.b__law_pick .nil pass0 (pa_cons (pv 0) (pa_cons pe_int pa_nil)))) pe_int) (pe_ix ix_list (pe_lst (pa_cons pe_int (pa_cons (pe_un un_neg pe_int) pa_nil))) (pe_call (ok__law_pick T) (hr.mono (by first | decide | omega)) rfl T.m__law_pick T.F__law_pick.kp T.b__law_pick .nil pass0 (pa_cons (pv 0) (pa_cons pe_int pa_nil))) (fun _ _ => rfl))))))) pss_nil)
      (pss_one (ps_ret (pe_tup (pa_cons (pv 7) (pa_cons (pe_callB (call_max2 rfl) (by rfl) T.z_max (by decide +kernel) (pa_cons (pe_op op_sub pe_int (pv 6)) (pa_cons (pe_callB (call_min2 rfl) (by rfl) T.z_min (by decide +kernel) (pa_cons (pe_op op_sub (pv 6) pe_int) (pa_cons (pv 8) pa_nil))) pa_nil))) pa_nil))))))))))), ?_⟩
  walk_at "rs"
  refine ⟨a, kp, lp, n, b, m, t, p, rfl, s0, hn, hkd, ht, ht2, hp, fun k d r pp H1 pt hpp k1 d1 h1 => ?_⟩
  have s1 := (s0.keep k1 d1).add (f := At a pp (.tup [.int (k : Int), .int d, .int r])) ⟨deck_tup_ne d1 h1, h1⟩
  have h5 := pt.tk
  have h6 := pt.pk
  have h7 := pt.kb
  have tb := top_bd ht h5 pt.lo pt.hi
  have p1 := two_pos (t - 1)
  have p2 := pow_le (n := t) (k := 10) ht2
  have p3 := two_pos p
  have p4 := pow_le (n := p) (k := 10) hp
  have p5 := two_pos t
  have hh : 2 ≤ b * 2 ^ p ∧ b * 2 ^ p ≤ 16384 := by
    have h8 : b * 2 ^ p ≤ 16 * 2 ^ p := Int.mul_le_mul_of_nonneg_right (by omega) (by omega)
    have h9 : 2 * 2 ^ p ≤ b * 2 ^ p := Int.mul_le_mul_of_nonneg_right (by omega) (by omega)
    omega
  walk_at "rs"
  refine ⟨kp, lp, b, m, _, p, rfl, SqT.of (s1.at_ (by walk_at "mem")), SqT.of (s1.at_ (by walk_at "mem")), hkd, hp, fun H2 e2 => ?_⟩
  have s2 := s1.same e2
  walk_at "rs"
  refine ⟨div2 (by omega), ?_⟩
  walk_at "rs"
  refine ⟨div2 (by omega), ?_⟩
  walk_at "rs"
  walk_at "pick"
  intro v1 H3 v10 v11 k3 s3
  walk_at "rs"
  walk_at "choose"
  intro y H4 my k4 s4
  obtain ⟨y, rfl⟩ : ∃ z : Int, y = .int z := by
    simp only [List.mem_cons, List.not_mem_nil, or_false] at my
    rcases my with e | e | e <;> exact ⟨_, e⟩
  have kk := k1.trans ((Keep.same e2).trans (k3.trans k4))
  clear k1 k3 k4 s3 s2 s1 d1 my
  walk_at "rs"
  refine ⟨fun σ' H' => Keep a H H' ∧ S a (n + 60) H' [At a pp (HO.tup [V.int (k : Int), V.int d, V.int r]), At a kp (HO.tup [V.int b, V.int m]), At a lp (HO.tup [V.int (t : Int), V.int (p : Int)])] ∧ ∃ l : Int, σ' = [some (.ref a), some (.ref kp), some (.ref lp), some (.int (k : Int)), some (.int d), some (.int r), some (.int (b * 2 ^ p + 2)), some (.int (d / 2 ^ (k - t))), some (.int l), none], ?_, ?_⟩
  · walk_at "rs"
    walk_at "pick"
    intro v11 H11 v110 v111 k11 s11
    walk_at "rs"
    refine ite2 (fun c => ?_) (fun c => ?_)
    · walk_at "rs"
      walk_at "pick"
      intro v12 H12 v120 v121 k12 s12
      walk_at "rs"
      exact ⟨kk.trans (k11.trans k12), s12.le (by omega), _, rfl⟩
    · walk_at "rs"
      exact ⟨kk.trans k11, s11.le (by omega), _, rfl⟩
  · rintro σ' H' ⟨kk, s5, l, rfl⟩
    walk_at "rs"
    refine ⟨fun σ' H' => Keep a H H' ∧ S a (n + 80) H' [At a pp (HO.tup [V.int (k : Int), V.int d, V.int r]), At a kp (HO.tup [V.int b, V.int m]), At a lp (HO.tup [V.int (t : Int), V.int (p : Int)])] ∧ ∃ (l : Int) (t9 : Option V), σ' = [some (.ref a), some (.ref kp), some (.ref lp), some (.int (k : Int)), some (.int d), some (.int r), some (.int (b * 2 ^ p + 2)), some (.int (d / 2 ^ (k - t))), some (.int l), t9], ?_, ?_⟩
    · walk_at "rs"
      walk_at "pick"
      intro v11 H11 v110 v111 k11 s11
      walk_at "rs"
      refine ite2 (fun c => ?_) (fun c => ?_)
      · walk_at "rs"
        refine ⟨div_shl (by omega) (by omega) (by omega), ?_⟩
        walk_at "rs"
        walk_at "pick"
        intro v12 H12 v120 v121 k12 s12
        walk_at "rs"
        walk_at "choose"
        intro y H13 my k13 s13
        obtain ⟨y, rfl, hy0, hy1⟩ : ∃ z : Int, y = .int z ∧ -1 ≤ z ∧ z ≤ 1 := by
          simp only [List.mem_cons, List.not_mem_nil, or_false] at my
          rcases my with e | e
          · exact ⟨_, e, by decide, by decide⟩
          · exact ⟨_, e, by decide, by decide⟩
        walk_at "rs"
        exact ⟨kk.trans (k11.trans (k12.trans k13)), s13.le (by omega), _, _, rfl⟩
      · walk_at "rs"
        exact ⟨kk.trans k11, s11.le (by omega), _, _, rfl⟩
    · rintro σ' H' ⟨kk, s6, l, t9, rfl⟩
      walk_at "rs"
      refine ⟨by show 2 ≤ sizeLine; decide, fun cp hcp => ?_⟩
      refine q _ _ cp _ ?_ ?_ ?_ ?_ (kk.none_of s6.d hcp) (kk.trans (Keep.new hcp)) upd_same
      · omega
      · omega
      · split <;> split <;> omega
      · split <;> split <;> omega
def sp_law (K : PySem.W.Frag) : Sp := fun vs H Q _ => ∃ (a : Addr) (ns : List Int), vs = [.ref a] ∧ SqL K H a (ns.map V.int) ∧ ns.length ≤ 63 ∧ (∀ z ∈ ns, Builtin.Int.intBits z ≤ 1048576) ∧ ∀ H', Q (.bl true) H'
theorem ok_law (T : Txt K mg) : FnOk P w K mg base CX0 5 T.a_law T.fd_law ["script"] (sp_law K) := by
  refine T.F_law.ok sc_law (fun vs H Q E h => ?_) (fun cdv A outer s H vs Q E hr h => ?_)
  · obtain ⟨a, ns, rfl, _⟩ := h
    rfl
  obtain ⟨sa, ns, rfl, hS, h63, hbits, q⟩ := h
  refine ⟨_, (pss_cons (ps_set (i := 1) sc_law.nd rfl (Or.inl rfl) (pe_call (ok__law_deck T) (hr.mono (by first | decide | omega)) rfl T.m__law_deck T.F__law_deck.kp T.b__law_deck .nil pass0 (pa_cons (pe_ix ix_list (pe_op op_catR (pv 0) (pe_lst (pa_cons pe_int pa_nil))) pe_int (fun _ _ => rfl)) (pa_cons pe_int pa_nil))))
      (pss_cons (ps_set (i := 2) sc_law.nd rfl (Or.inl rfl) (pe_call (ok__law_kind T) (hr.mono (by first | decide | omega)) rfl T.m__law_kind T.F__law_kind.kp T.b__law_kind .nil pass0 (pa_cons (pv 1) pa_nil)))
      (pss_cons (ps_set (i := 3) sc_law.nd rfl (Or.inl rfl) (pe_call (ok__law_looks T) (hr.mono (by first | decide | omega)) rfl T.m__law_looks T.F__law_looks.kp T.b__law_looks .nil pass0 (pa_cons (pv 1) pa_nil)))
      (pss_cons (ps_set (i := 4) sc_law.nd rfl (Or.inl rfl) (pe_op op_add pe_int (pe_call (ok__law_pick T) (hr.mono (by first | decide | omega)) rfl T.m__law_pick T.F__law_pick.kp T.b__law_pick .nil pass0 (pa_cons (pv 1) (pa_cons pe_int pa_nil)))))
      (pss_cons (ps_for PassesOwn.never rfl (pi_list (pe_op op_catR (pe_slice sl_list (pv 0) (po_some pe_int) (po_some pe_int)) (pe_lst (pa_cons pe_int pa_nil)))) (pg_name (i := 5) sc_law.nd rfl (Or.inl rfl)) (pss_cons (ps_set (i := 5) sc_law.nd rfl (Or.inl rfl) (pe_call (ok__law_cell T) (hr.mono (by first | decide | omega)) rfl T.m__law_cell T.F__law_cell.kp T.b__law_cell .nil pass0 (pa_cons (pe_call (ok__law_deck T) (hr.mono (by first | decide | omega)) rfl T.m__law_deck T.F__law_deck.kp T.b__law_deck .nil pass0 (pa_cons (pv 5) (pa_cons pe_int pa_nil))) (pa_cons (pv 2) (pa_cons (pv 3) pa_nil)))))
      (pss_cons (ps_set (i := 6) sc_law.nd rfl (Or.inl rfl) (pe_call (ok_is_met T) (hr.mono (by first | decide | omega)) rfl T.m_is_met T.F_is_met.kp T.b_is_met .nil pass0 (pa_cons (pv 2) (pa_cons (pv 3) (pa_cons (pv 4) (pa_cons (pv 5) pa_nil))))))
      (pss_cons (ps_if (PW.pt (pw_or (pt_not (pt_val (pe_callB call_isi (by rfl) T.z_isinstance (by decide +kernel) (pa_cons (pv 6) (pa_cons (pe_bltn (v := .ty "bool") (u := .type "bool") (by rfl) T.z_bool (by decide +kernel) rfl) pa_nil))))) (pw_or1 (pt_cmpR op_ne (pv 6) (pe_call (ok__law_met T) (hr.mono (by first | decide | omega)) rfl T.m__law_met T.F__law_met.kp T.b__law_met .nil pass0 (pa_cons (pv 2) (pa_cons (pv 3) (pa_cons (pv 4) (pa_cons (pv 5) pa_nil))))) (nomark _))))) (pss_one (ps_ret pe_bl)) pss_nil)
      (pss_cons (ps_set (i := 7) sc_law.nd rfl (Or.inl rfl) (pe_call (ok__law_good T) (hr.mono (by first | decide | omega)) rfl T.m__law_good T.F__law_good.kp T.b__law_good .nil pass0 (pa_cons (pv 2) (pa_cons (pv 3) (pa_cons (pv 4) (pa_cons (pv 5) pa_nil))))))
      (pss_one (ps_for PassesOwn.never rfl (pi_range1 (by rfl) T.z_range (pa_cons pe_int pa_nil)) (pg_name (i := 8) sc_law.nd rfl (Or.inl rfl)) (pss_cons (ps_set (i := 9) sc_law.nd rfl (Or.inl rfl) (pe_call (ok_good_figures T) (hr.mono (by first | decide | omega)) rfl T.m_good_figures T.F_good_figures.kp T.b_good_figures .nil pass0 (pa_cons (pv 2) (pa_cons (pv 3) (pa_cons (pv 4) (pa_cons (pv 5) pa_nil))))))
      (pss_cons (ps_if (PW.pt (pw_or (pt_not (pt_val (pe_callB call_isi (by rfl) T.z_isinstance (by decide +kernel) (pa_cons (pv 9) (pa_cons (pe_bltn (v := .ty "list") (u := .type "list") (by rfl) T.z_list (by decide +kernel) rfl) pa_nil))))) (pw_or1 (pt_cmpR (op_neD hr.units) (pv 9) (pv 7) (nomark _))))) (pss_one (ps_ret pe_bl)) pss_nil)
      (pss_cons (ps_if (pt_cmpR (op_neD hr.units) (pe_lc (own := [("one", 10)]) (g := (gName 10)) rfl sc_law.nd (pi_list (pv 9)) (blkOk_by (own := [("one", 10)]) (N := ["script", "deck", "kind", "looks", "sight", "cell", "met", "due", "turn", "found", "one"]) (sc := defScope s_law) (by decide +kernel)) (fun _ _ _ _ _ => (pg_name (i := 10) sc_law.nd rfl (Or.inl rfl))) (fun _ _ _ _ _ => (pts_one (pt_val (pe_callB (show CallR _ (.builtin "isinstance") (rIsi K) from call_isi) (by rfl) T.z_isinstance (by decide +kernel) (pa_cons (pv 10) (pa_cons (pe_bltn (v := .ty "bool") (u := .type "bool") (by rfl) T.z_bool (by decide +kernel) rfl) pa_nil)))))) (fun _ _ _ _ _ => (pv 10))) (pe_lst pa_nil) (nomark _)) (pss_one (ps_ret pe_bl)) pss_nil)
      (pss_one (ps_expr (pe_bm PySem.F.plainAttrs_list PySem.F.slot_list_append PySem.F.type_list_append mt_append (pv 9) (pa_cons pe_int pa_nil))))))))))))))
      (pss_one (ps_ret pe_bl))))))), ?_⟩
  walk_at "rd"
  refine ⟨by show 1 ≤ sizeLine; decide, fun z1 hz1 => ?_⟩
  refine ⟨sa, z1, _, _, rfl, rfl, (same_new hz1 _).seq hS, SqL.of upd_same, cat_line h63, fun z2 hz2 => ?_⟩
  obtain ⟨c0, hc0⟩ := head0 ns
  refine ⟨z2, _, 0, _, rfl, rfl, SqL.of upd_same, hc0, ?_⟩
  refine ⟨_, _, 0, rfl, by decide, by decide, fun a H1 ha1 e1 d1 => ?_⟩
  have s1 : S a 0 H1 [Scr K a sa (ns.map V.int)] := ⟨d1, scr_of ((same_new hz2 _).seq ((same_new hz1 _).seq hS)) ha1 e1, trivial⟩
  clear e1 d1 ha1 hz1 hz2 hc0
  walk_at "rs"
  refine ⟨a, 0, rfl, s1.d, by omega, fun kp b m H2 k2 d2 hk2 hb hmb hmm => ?_⟩
  have hkd : Kd b m := ⟨hb, by omega, hmm⟩
  have bd := hkd.bd
  have s2 : S a 2 H2 [At a kp (.tup [.int b, .int m]), Scr K a sa (ns.map V.int)] := (s1.keep k2 d2).add ⟨deck_tup_ne d2 hk2, hk2⟩
  clear k2 d2 hk2 s1
  walk_at "rs"
  refine ⟨a, _, rfl, s2.d, by omega, fun lp t p H3 k3 d3 hl3 ht ht2 hp => ?_⟩
  have s3 := (s2.keep k3 d3).add (f := At a lp (.tup [.int (t : Int), .int (p : Int)])) ⟨deck_tup_ne d3 hl3, hl3⟩
  clear k3 d3 hl3 s2
  walk_at "rs"
  walk_at "pick"
  intro v4 H4 v40 v41 k4 s4
  walk_at "rs"
  obtain ⟨cs, hcs, hcl⟩ := cut_ints ns (some 1) (some 13)
  refine ⟨sa, _, rfl, s4.scr (by walk_at "mem"), fun p1 hp1 => ?_⟩
  rw [hcs]
  refine ⟨by show 1 ≤ sizeLine; decide, fun p2 hp2 => ?_⟩
  have q1 := same_new hp1 (.lst (cs.map V.int))
  have q2 := same_new hp2 (.lst [.int 0])
  refine ⟨p1, p2, cs.map V.int, [.int 0], rfl, rfl, SqL.of (q2 _ _ upd_same), SqL.of upd_same, cat_line (by omega), fun p3 hp3 => ?_⟩
  have q3 := same_new hp3 (.lst (cs.map V.int ++ [.int 0]))
  have qq := q1.trans (q2.trans q3)
  have hk8 := qq _ _ (s4.at_ (p := kp) (by walk_at "mem"))
  have hl8 := qq _ _ (s4.at_ (p := lp) (by walk_at "mem"))
  have h38 := new_at hp3 (.lst (cs.map V.int ++ [.int 0]))
  rw [cat0] at h38 hk8 hl8 ⊢
  refine ⟨p3, rfl, ⟨_, SqL.of h38⟩, for_list (xs := (cs ++ [0]).map V.int) (fun i σ H' => H' p3 = some (.lst ((cs ++ [0]).map V.int)) ∧ H' kp = some (.tup [.int b, .int m]) ∧ H' lp = some (.tup [.int (t : Int), .int (p : Int)]) ∧ ∃ t1 t5 t6 t7 t8 t9 t10 : Option V, σ = [some (.ref sa), t1, some (.ref kp), some (.ref lp), some (.int (1 + v4)), t5, t6, t7, t8, t9, t10])
      ⟨h38, hk8, hl8, _, _, _, _, _, _, _, rfl⟩ (fun i σ H' _ e => SqL.of e.1) ?_ ?_⟩
  · rintro i x σ H9 hx ⟨h9, hk9, hl9, t1, t5, t6, t7, t8, t9, t10, rfl⟩
    obtain ⟨cell, rfl, _⟩ := map_at hx
    clear h38 hk8 hl8 qq q1 q2 q3 s4 s3 k4
    walk_at "rs"
    refine ⟨cell, 70, 70, rfl, by decide, by decide, fun a2 H10 ha2 e10 d10 => ?_⟩
    have s10 : S a2 70 H10 [At a2 kp (.tup [.int b, .int m]), At a2 lp (.tup [.int (t : Int), .int (p : Int)])] := ⟨d10, ⟨ne_of_none hk9 ha2, e10 _ _ hk9⟩, ⟨ne_of_none hl9 ha2, e10 _ _ hl9⟩, trivial⟩
    walk_at "rs"
    refine ⟨a2, kp, lp, 70, b, m, t, p, rfl, s10, by omega, hkd, by omega, by omega, by omega, fun u l cp H11 hu1 hu2 hl1 hl2 hcp k11 h11 => ?_⟩
    have hk11 := k11 _ _ (ne_of_none hk9 ha2) (e10 _ _ hk9)
    have hl11 := k11 _ _ (ne_of_none hl9 ha2) (e10 _ _ hl9)
    have h311 := k11 _ _ (ne_of_none h9 ha2) (e10 _ _ h9)
    clear k11 s10 e10 d10 hk9 hl9 h9
    walk_at "rs"
    refine ⟨kp, lp, cp, b, m, 1 + v4, u, l, t, p, rfl, SqT.of hk11, SqT.of hl11, SqT.of h11, hkd, by omega, by omega, by omega, by omega, fun H12 s12 => ?_⟩
    walk_at "rs"
    refine ⟨kp, lp, cp, b, m, 1 + v4, u, l, t, p, rfl, SqT.of (s12 _ _ hk11), SqT.of (s12 _ _ hl11), SqT.of (s12 _ _ h11), hkd, by omega, by omega, by omega, by omega, by omega, by omega, by omega, by omega, fun H13 s13 => ?_⟩
    have s13 := s12.trans s13
    walk_at "rs"
    refine iteN' rfl ?_
    walk_at "rs"
    refine ⟨kp, lp, cp, b, m, 1 + v4, u, l, t, p, rfl, SqT.of (s13 _ _ hk11), SqT.of (s13 _ _ hl11), SqT.of (s13 _ _ h11), hkd, by omega, by omega, by omega, by omega, by omega, by omega, by omega, by omega, fun du H14 s14 hdu h14 => ?_⟩
    have s14 := s13.trans s14
    have hk14 := s14 _ _ hk11
    have hl14 := s14 _ _ hl11
    have hc14 := s14 _ _ h11
    have h314 := s14 _ _ h311
    clear hk11 hl11 h11 h311 hx
    walk_at "rs"
    refine for_range0 (n := 2) (fun j σ H' => Same H14 H' ∧ ∃ t8 t9 t10 : Option V, σ = [some (.ref sa), t1, some (.ref kp), some (.ref lp), some (.int (1 + v4)), some (.ref cp), some (.bl (metB b m t p (1 + v4) u l)), some (.ref du), t8, t9, t10]) ⟨fun _ _ e => e, _, _, _, rfl⟩ ?_ ?_
    · rintro j σ H15 hj ⟨s15, t8, t9, t10, rfl⟩
      walk_at "rs"
      refine ⟨kp, lp, cp, b, m, 1 + v4, u, l, t, p, rfl, SqT.of (s15 _ _ hk14), SqT.of (s15 _ _ hl14), SqT.of (s15 _ _ hc14), hkd, by omega, by omega, by omega, by omega, by omega, by omega, by omega, by omega, fun fo H16 s16 hfo h16 => ?_⟩
      walk_at "rs"
      refine neD_same (dp_ints h16) (dp_ints (s16 _ _ (s15 _ _ h14))) (shaped_ints _) ?_
      walk_at "go"
      have hgl : (goodL b m t p (1 + v4) u l).length ≤ 100 := by
        have hfl := figs_len m
        unfold goodL
        split
        · have := List.length_filter_le (goodB b m t p (1 + v4) u l) (figs m)
          omega
        · omega
      refine ⟨⟨_, SqL.of h16⟩, fun D hD => lc_list (K := K) (a := fo) (xs := (goodL b m t p (1 + v4) u l).map V.int) (fun i H' => Same H16 H' ∧ H' D = some (.lst [])) ⟨same_new hD _, upd_same⟩ (fun i H' _ e => SqL.of (e.1 _ _ h16)) ?_ ?_⟩
      · rintro i x H17 hx ⟨s17, h17⟩
        obtain ⟨f, rfl, _⟩ := map_at hx
        walk_at "rs"
        refine ⟨_, _, _, _, false, rfl, .ty _, .base (.int f), kit_ty (by decide +kernel), ?_⟩
        walk_at "rs"
        first | exact ⟨s17, h17⟩ | exact h17
      · rintro H17 ⟨s17, h17⟩
        walk_at "rs"
        refine ⟨by show 0 ≤ sizeLine; decide, fun z hz => ?_⟩
        have s18 := same_new hz (.lst [])
        refine neD_same (d := .list []) (.lst (SqL.of (s18 _ _ h17)) .nil) (.lst (SqL.of upd_same) .nil) (shaped_ints []) ?_
        walk_at "go"
        have hX := s18 _ _ (s17 _ _ h16)
        refine ⟨.inl ⟨rfl, _, SqL.of hX⟩, fo, _, _, rfl, rfl, hX, by rw [List.length_map]; exact small1000 (by omega), same_mut _ (s15.trans (s16.trans (s17.trans s18))) (same_none s15 hfo), _, _, _, rfl⟩
    · rintro σ H15 ⟨s15, t8, t9, t10, rfl⟩
      exact ⟨s15 _ _ h314, s15 _ _ hk14, s15 _ _ hl14, _, _, _, _, _, _, _, rfl⟩
  · rintro σ H9 ⟨h9, hk9, hl9, t1, t5, t6, t7, t8, t9, t10, rfl⟩
    exact q _
end
theorem all_mk {l : PySem.W.OpenLaw} {w : World} {K : PySem.W.Frag} {h : Heap} {mg : Str → Option Value} {fa : Addr} (X : K.In h) (G : h.Ns mainGlobals mg) (hfa : mg "law" = some (.ref fa))
    {f0 : Addr} {od0 an0 : Option Addr} {sl0 : Array (Option Value)} {oc0 kV0 dc0 pm0 cd0 ct0 : Value}
    {f1 : Addr} {od1 an1 : Option Addr} {sl1 : Array (Option Value)} {oc1 kV1 dc1 pm1 cd1 ct1 : Value}
    {f2 : Addr} {od2 an2 : Option Addr} {sl2 : Array (Option Value)} {oc2 kV2 dc2 pm2 cd2 ct2 : Value}
    {f3 : Addr} {od3 an3 : Option Addr} {sl3 : Array (Option Value)} {oc3 kV3 dc3 pm3 cd3 ct3 : Value}
    {f4 : Addr} {od4 an4 : Option Addr} {sl4 : Array (Option Value)} {oc4 kV4 dc4 pm4 cd4 ct4 : Value}
    {f5 : Addr} {od5 an5 : Option Addr} {sl5 : Array (Option Value)} {oc5 kV5 dc5 pm5 cd5 ct5 : Value}
    {f6 : Addr} {od6 an6 : Option Addr} {sl6 : Array (Option Value)} {oc6 kV6 dc6 pm6 cd6 ct6 : Value}
    {f7 : Addr} {od7 an7 : Option Addr} {sl7 : Array (Option Value)} {oc7 kV7 dc7 pm7 cd7 ct7 : Value}
    {f8 : Addr} {od8 an8 : Option Addr} {sl8 : Array (Option Value)} {oc8 kV8 dc8 pm8 cd8 ct8 : Value}
    {f9 : Addr} {od9 an9 : Option Addr} {sl9 : Array (Option Value)} {oc9 kV9 dc9 pm9 cd9 ct9 : Value}
    {f10 : Addr} {od10 an10 : Option Addr} {sl10 : Array (Option Value)} {oc10 kV10 dc10 pm10 cd10 ct10 : Value}
    {f11 : Addr} {od11 an11 : Option Addr} {sl11 : Array (Option Value)} {oc11 kV11 dc11 pm11 cd11 ct11 : Value}
    {f12 : Addr} {od12 an12 : Option Addr} {sl12 : Array (Option Value)} {oc12 kV12 dc12 pm12 cd12 ct12 : Value}
    {f13 : Addr} {od13 an13 : Option Addr} {sl13 : Array (Option Value)} {oc13 kV13 dc13 pm13 cd13 ct13 : Value}
    {f14 : Addr} {od14 an14 : Option Addr} {sl14 : Array (Option Value)} {oc14 kV14 dc14 pm14 cd14 ct14 : Value}
    {f15 : Addr} {od15 an15 : Option Addr} {sl15 : Array (Option Value)} {oc15 kV15 dc15 pm15 cd15 ct15 : Value}
    {f16 : Addr} {od16 an16 : Option Addr} {sl16 : Array (Option Value)} {oc16 kV16 dc16 pm16 cd16 ct16 : Value}
    (a0 : PySem.W.nsIn K mainGlobals "met_bounds" = some (some (.ref f0))) (l0 : K.lookup f0 = some ⟨oc0, od0, .func (PySem.W.fnOf "met_bounds" "met_bounds" (defArgs s_met_bounds) (defBody s_met_bounds) (defScope s_met_bounds) .none kV0 dc0 pm0 an0 cd0 ct0), sl0⟩) (c0 : PySem.W.codeIn K cd0 "met_bounds" = true) (k0 : PySem.W.keepIn K (.ref f0) = true)
    (a1 : PySem.W.nsIn K mainGlobals "is_met" = some (some (.ref f1))) (l1 : K.lookup f1 = some ⟨oc1, od1, .func (PySem.W.fnOf "is_met" "is_met" (defArgs s_is_met) (defBody s_is_met) (defScope s_is_met) .none kV1 dc1 pm1 an1 cd1 ct1), sl1⟩) (c1 : PySem.W.codeIn K cd1 "is_met" = true) (k1 : PySem.W.keepIn K (.ref f1) = true)
    (a2 : PySem.W.nsIn K mainGlobals "least_great_enough" = some (some (.ref f2))) (l2 : K.lookup f2 = some ⟨oc2, od2, .func (PySem.W.fnOf "least_great_enough" "least_great_enough" (defArgs s_least_great_enough) (defBody s_least_great_enough) (defScope s_least_great_enough) .none kV2 dc2 pm2 an2 cd2 ct2), sl2⟩) (c2 : PySem.W.codeIn K cd2 "least_great_enough" = true) (k2 : PySem.W.keepIn K (.ref f2) = true)
    (a3 : PySem.W.nsIn K mainGlobals "good_bounds" = some (some (.ref f3))) (l3 : K.lookup f3 = some ⟨oc3, od3, .func (PySem.W.fnOf "good_bounds" "good_bounds" (defArgs s_good_bounds) (defBody s_good_bounds) (defScope s_good_bounds) .none kV3 dc3 pm3 an3 cd3 ct3), sl3⟩) (c3 : PySem.W.codeIn K cd3 "good_bounds" = true) (k3 : PySem.W.keepIn K (.ref f3) = true)
    (a4 : PySem.W.nsIn K mainGlobals "good_figures" = some (some (.ref f4))) (l4 : K.lookup f4 = some ⟨oc4, od4, .func (PySem.W.fnOf "good_figures" "good_figures" (defArgs s_good_figures) (defBody s_good_figures) (defScope s_good_figures) .none kV4 dc4 pm4 an4 cd4 ct4), sl4⟩) (c4 : PySem.W.codeIn K cd4 "good_figures" = true) (k4 : PySem.W.keepIn K (.ref f4) = true)
    (a5 : PySem.W.nsIn K mainGlobals "_law_deck" = some (some (.ref f5))) (l5 : K.lookup f5 = some ⟨oc5, od5, .func (PySem.W.fnOf "_law_deck" "_law_deck" (defArgs s__law_deck) (defBody s__law_deck) (defScope s__law_deck) .none kV5 dc5 pm5 an5 cd5 ct5), sl5⟩) (c5 : PySem.W.codeIn K cd5 "_law_deck" = true) (k5 : PySem.W.keepIn K (.ref f5) = true)
    (a6 : PySem.W.nsIn K mainGlobals "_law_pick" = some (some (.ref f6))) (l6 : K.lookup f6 = some ⟨oc6, od6, .func (PySem.W.fnOf "_law_pick" "_law_pick" (defArgs s__law_pick) (defBody s__law_pick) (defScope s__law_pick) .none kV6 dc6 pm6 an6 cd6 ct6), sl6⟩) (c6 : PySem.W.codeIn K cd6 "_law_pick" = true) (k6 : PySem.W.keepIn K (.ref f6) = true)
    (a7 : PySem.W.nsIn K mainGlobals "_law_kind" = some (some (.ref f7))) (l7 : K.lookup f7 = some ⟨oc7, od7, .func (PySem.W.fnOf "_law_kind" "_law_kind" (defArgs s__law_kind) (defBody s__law_kind) (defScope s__law_kind) .none kV7 dc7 pm7 an7 cd7 ct7), sl7⟩) (c7 : PySem.W.codeIn K cd7 "_law_kind" = true) (k7 : PySem.W.keepIn K (.ref f7) = true)
    (a8 : PySem.W.nsIn K mainGlobals "_law_great" = some (some (.ref f8))) (l8 : K.lookup f8 = some ⟨oc8, od8, .func (PySem.W.fnOf "_law_great" "_law_great" (defArgs s__law_great) (defBody s__law_great) (defScope s__law_great) .none kV8 dc8 pm8 an8 cd8 ct8), sl8⟩) (c8 : PySem.W.codeIn K cd8 "_law_great" = true) (k8 : PySem.W.keepIn K (.ref f8) = true)
    (a9 : PySem.W.nsIn K mainGlobals "_law_edges" = some (some (.ref f9))) (l9 : K.lookup f9 = some ⟨oc9, od9, .func (PySem.W.fnOf "_law_edges" "_law_edges" (defArgs s__law_edges) (defBody s__law_edges) (defScope s__law_edges) .none kV9 dc9 pm9 an9 cd9 ct9), sl9⟩) (c9 : PySem.W.codeIn K cd9 "_law_edges" = true) (k9 : PySem.W.keepIn K (.ref f9) = true)
    (a10 : PySem.W.nsIn K mainGlobals "_law_met" = some (some (.ref f10))) (l10 : K.lookup f10 = some ⟨oc10, od10, .func (PySem.W.fnOf "_law_met" "_law_met" (defArgs s__law_met) (defBody s__law_met) (defScope s__law_met) .none kV10 dc10 pm10 an10 cd10 ct10), sl10⟩) (c10 : PySem.W.codeIn K cd10 "_law_met" = true) (k10 : PySem.W.keepIn K (.ref f10) = true)
    (a11 : PySem.W.nsIn K mainGlobals "_law_good" = some (some (.ref f11))) (l11 : K.lookup f11 = some ⟨oc11, od11, .func (PySem.W.fnOf "_law_good" "_law_good" (defArgs s__law_good) (defBody s__law_good) (defScope s__law_good) .none kV11 dc11 pm11 an11 cd11 ct11), sl11⟩) (c11 : PySem.W.codeIn K cd11 "_law_good" = true) (k11 : PySem.W.keepIn K (.ref f11) = true)
    (a12 : PySem.W.nsIn K mainGlobals "_law_half" = some (some (.ref f12))) (l12 : K.lookup f12 = some ⟨oc12, od12, .func (PySem.W.fnOf "_law_half" "_law_half" (defArgs s__law_half) (defBody s__law_half) (defScope s__law_half) .none kV12 dc12 pm12 an12 cd12 ct12), sl12⟩) (c12 : PySem.W.codeIn K cd12 "_law_half" = true) (k12 : PySem.W.keepIn K (.ref f12) = true)
    (a13 : PySem.W.nsIn K mainGlobals "_law_looks" = some (some (.ref f13))) (l13 : K.lookup f13 = some ⟨oc13, od13, .func (PySem.W.fnOf "_law_looks" "_law_looks" (defArgs s__law_looks) (defBody s__law_looks) (defScope s__law_looks) .none kV13 dc13 pm13 an13 cd13 ct13), sl13⟩) (c13 : PySem.W.codeIn K cd13 "_law_looks" = true) (k13 : PySem.W.keepIn K (.ref f13) = true)
    (a14 : PySem.W.nsIn K mainGlobals "_law_point" = some (some (.ref f14))) (l14 : K.lookup f14 = some ⟨oc14, od14, .func (PySem.W.fnOf "_law_point" "_law_point" (defArgs s__law_point) (defBody s__law_point) (defScope s__law_point) .none kV14 dc14 pm14 an14 cd14 ct14), sl14⟩) (c14 : PySem.W.codeIn K cd14 "_law_point" = true) (k14 : PySem.W.keepIn K (.ref f14) = true)
    (a15 : PySem.W.nsIn K mainGlobals "_law_cell" = some (some (.ref f15))) (l15 : K.lookup f15 = some ⟨oc15, od15, .func (PySem.W.fnOf "_law_cell" "_law_cell" (defArgs s__law_cell) (defBody s__law_cell) (defScope s__law_cell) .none kV15 dc15 pm15 an15 cd15 ct15), sl15⟩) (c15 : PySem.W.codeIn K cd15 "_law_cell" = true) (k15 : PySem.W.keepIn K (.ref f15) = true)
    (a16 : PySem.W.nsIn K mainGlobals "law" = some (some (.ref f16))) (l16 : K.lookup f16 = some ⟨oc16, od16, .func (PySem.W.fnOf "law" "law" (defArgs s_law) (defBody s_law) (defScope s_law) .none kV16 dc16 pm16 an16 cd16 ct16), sl16⟩) (c16 : PySem.W.codeIn K cd16 "law" = true) (k16 : PySem.W.keepIn K (.ref f16) = true)
    (z0 : PySem.W.nsIn K mainGlobals "max" = some none)
    (z1 : PySem.W.nsIn K mainGlobals "min" = some none)
    (z2 : PySem.W.nsIn K mainGlobals "list" = some none)
    (z3 : PySem.W.nsIn K mainGlobals "range" = some none)
    (z4 : PySem.W.nsIn K mainGlobals "int" = some none)
    (z5 : PySem.W.nsIn K mainGlobals "isinstance" = some none)
    (z6 : PySem.W.nsIn K mainGlobals "bool" = some none) :
    ∃ fd : FuncData, (∀ (s : Shared) (v : Value), BindsTo s fd ⟨[v], []⟩ [("script", v)]) ∧ ∀ base : Heap, K.In base → base.Ns mainGlobals mg → FnOk l.prog w K mg base CX0 5 fa fd ["script"] (sp_law K) := by
  have e := hfa.symm.trans (PySem.W.mg_of X G a16)
  cases e
  have F0 := fun_mk (st := s_met_bounds) l0 c0 k0
  have b0 := F0.binds (ps := ["kind", "looks", "sight", "top"]) fun _ _ _ _ _ _ us hl => match us, hl with | [_, _, _, _], _ => rfl
  have F1 := fun_mk (st := s_is_met) l1 c1 k1
  have b1 := F1.binds (ps := ["kind", "looks", "sight", "cell"]) fun _ _ _ _ _ _ us hl => match us, hl with | [_, _, _, _], _ => rfl
  have F2 := fun_mk (st := s_least_great_enough) l2 c2 k2
  have b2 := F2.binds (ps := ["kind", "looks", "top", "end"]) fun _ _ _ _ _ _ us hl => match us, hl with | [_, _, _, _], _ => rfl
  have F3 := fun_mk (st := s_good_bounds) l3 c3 k3
  have b3 := F3.binds (ps := ["kind", "looks", "sight", "cell"]) fun _ _ _ _ _ _ us hl => match us, hl with | [_, _, _, _], _ => rfl
  have F4 := fun_mk (st := s_good_figures) l4 c4 k4
  have b4 := F4.binds (ps := ["kind", "looks", "sight", "cell"]) fun _ _ _ _ _ _ us hl => match us, hl with | [_, _, _, _], _ => rfl
  have F5 := fun_mk (st := s__law_deck) l5 c5 k5
  have b5 := F5.binds (ps := ["cell", "turn"]) fun _ _ _ _ _ _ us hl => match us, hl with | [_, _], _ => rfl
  have F6 := fun_mk (st := s__law_pick) l6 c6 k6
  have b6 := F6.binds (ps := ["deck", "many"]) fun _ _ _ _ _ _ us hl => match us, hl with | [_, _], _ => rfl
  have F7 := fun_mk (st := s__law_kind) l7 c7 k7
  have b7 := F7.binds (ps := ["deck"]) fun _ _ _ _ _ _ us hl => match us, hl with | [_], _ => rfl
  have F8 := fun_mk (st := s__law_great) l8 c8 k8
  have b8 := F8.binds (ps := ["deck", "figures"]) fun _ _ _ _ _ _ us hl => match us, hl with | [_, _], _ => rfl
  have F9 := fun_mk (st := s__law_edges) l9 c9 k9
  have b9 := F9.binds (ps := ["looks", "sight", "cell"]) fun _ _ _ _ _ _ us hl => match us, hl with | [_, _, _], _ => rfl
  have F10 := fun_mk (st := s__law_met) l10 c10 k10
  have b10 := F10.binds (ps := ["kind", "looks", "sight", "cell"]) fun _ _ _ _ _ _ us hl => match us, hl with | [_, _, _, _], _ => rfl
  have F11 := fun_mk (st := s__law_good) l11 c11 k11
  have b11 := F11.binds (ps := ["kind", "looks", "sight", "cell"]) fun _ _ _ _ _ _ us hl => match us, hl with | [_, _, _, _], _ => rfl
  have F12 := fun_mk (st := s__law_half) l12 c12 k12
  have b12 := F12.binds (ps := ["kind", "looks"]) fun _ _ _ _ _ _ us hl => match us, hl with | [_, _], _ => rfl
  have F13 := fun_mk (st := s__law_looks) l13 c13 k13
  have b13 := F13.binds (ps := ["deck"]) fun _ _ _ _ _ _ us hl => match us, hl with | [_], _ => rfl
  have F14 := fun_mk (st := s__law_point) l14 c14 k14
  have b14 := F14.binds (ps := ["deck", "kind", "looks"]) fun _ _ _ _ _ _ us hl => match us, hl with | [_, _, _], _ => rfl
  have F15 := fun_mk (st := s__law_cell) l15 c15 k15
  have b15 := F15.binds (ps := ["deck", "kind", "looks"]) fun _ _ _ _ _ _ us hl => match us, hl with | [_, _, _], _ => rfl
  have F16 := fun_mk (st := s_law) l16 c16 k16
  have b16 := F16.binds (ps := ["script"]) fun _ _ _ _ _ _ us hl => match us, hl with | [_], _ => rfl
  let T : Txt K mg := { a_met_bounds := f0, fd_met_bounds := _, F_met_bounds := F0, m_met_bounds := PySem.W.mg_of X G a0, b_met_bounds := b0, a_is_met := f1, fd_is_met := _, F_is_met := F1, m_is_met := PySem.W.mg_of X G a1, b_is_met := b1, a_least_great_enough := f2, fd_least_great_enough := _, F_least_great_enough := F2, m_least_great_enough := PySem.W.mg_of X G a2, b_least_great_enough := b2, a_good_bounds := f3, fd_good_bounds := _, F_good_bounds := F3, m_good_bounds := PySem.W.mg_of X G a3, b_good_bounds := b3, a_good_figures := f4, fd_good_figures := _, F_good_figures := F4, m_good_figures := PySem.W.mg_of X G a4, b_good_figures := b4, a__law_deck := f5, fd__law_deck := _, F__law_deck := F5, m__law_deck := PySem.W.mg_of X G a5, b__law_deck := b5, a__law_pick := f6, fd__law_pick := _, F__law_pick := F6, m__law_pick := PySem.W.mg_of X G a6, b__law_pick := b6, a__law_kind := f7, fd__law_kind := _, F__law_kind := F7, m__law_kind := PySem.W.mg_of X G a7, b__law_kind := b7, a__law_great := f8, fd__law_great := _, F__law_great := F8, m__law_great := PySem.W.mg_of X G a8, b__law_great := b8, a__law_edges := f9, fd__law_edges := _, F__law_edges := F9, m__law_edges := PySem.W.mg_of X G a9, b__law_edges := b9, a__law_met := f10, fd__law_met := _, F__law_met := F10, m__law_met := PySem.W.mg_of X G a10, b__law_met := b10, a__law_good := f11, fd__law_good := _, F__law_good := F11, m__law_good := PySem.W.mg_of X G a11, b__law_good := b11, a__law_half := f12, fd__law_half := _, F__law_half := F12, m__law_half := PySem.W.mg_of X G a12, b__law_half := b12, a__law_looks := f13, fd__law_looks := _, F__law_looks := F13, m__law_looks := PySem.W.mg_of X G a13, b__law_looks := b13, a__law_point := f14, fd__law_point := _, F__law_point := F14, m__law_point := PySem.W.mg_of X G a14, b__law_point := b14, a__law_cell := f15, fd__law_cell := _, F__law_cell := F15, m__law_cell := PySem.W.mg_of X G a15, b__law_cell := b15, a_law := fa, fd_law := _, F_law := F16, m_law := PySem.W.mg_of X G a16, b_law := b16, z_max := PySem.W.mg_none_of X G z0, z_min := PySem.W.mg_none_of X G z1, z_list := PySem.W.mg_none_of X G z2, z_range := PySem.W.mg_none_of X G z3, z_int := PySem.W.mg_none_of X G z4, z_isinstance := PySem.W.mg_none_of X G z5, z_bool := PySem.W.mg_none_of X G z6 }
  exact ⟨PySem.W.fnOf "law" "law" (defArgs s_law) (defBody s_law) (defScope s_law) .none kV16 dc16 pm16 an16 cd16 ct16, fun s v => .of_eq rfl, fun base _ _ => ok_law T⟩
theorem walk {l : PySem.W.OpenLaw} {q : Program} {loose : List Str} {XP : (Str → Option Value) → Heap → Prop} {YP : World → Heap → Prop} {d : DefRec} {K : Params → PySem.W.Frag} (hn : l.most = some 63) (hdf : d.params.defaults = [])
    (hY : ∀ (w : World) (h : Heap), YP w h → (K w.params).In h)
    (F : ∀ (w : World) (mg : Str → Option Value) (fa : Addr) (h : Heap), (K w.params).In h → h.Ns mainGlobals mg → mg d.name = some (.ref fa) →
      ∃ fd : FuncData, (∀ (s : Shared) (u : Value), BindsTo s fd ⟨[u], []⟩ [("script", u)]) ∧ ∀ base : Heap, (K w.params).In base → base.Ns mainGlobals mg → FnOk l.prog w (K w.params) mg base CX0 5 fa fd ["script"] (sp_law (K w.params))) :
    PySem.W.WalkO q loose XP YP l.row.toRowW d [] (fun f vs => PySem.call f vs) :=
  L2.walk_ofB (n := 63) (k := 5) (x := "script") (CX := fun _ => CX0) (sp := fun w => sp_law (K w.params)) hn (by decide) hdf ⟨rfl, by decide, by decide⟩ hY F (fun _ _ a ns hl hb _ hS => ⟨a, ns, rfl, hS, hl, hb, fun _ => rfl⟩) fun _ _ _ _ _ z => z
end My
open PySem PySem.W PyProof.Rows
set_option maxRecDepth 100000 in
set_option maxHeartbeats 0 in
theorem PySem.Challenge.cw_slackfigures_k06_good_figures_holds : PySem.Challenge.rw_slackfigures_k06_good_figures.Holds := by
  w_on; o_law; k_head; (case hw => w_witness2)
  k_fill
  refine My.walk (l := PySem.Challenge.rw_slackfigures_k06_good_figures) rfl rfl (fun w h Y => PySem.W.kIn_of Y) ?F
  case F =>
    intro w mg fa h KX G hmg
    refine' My.all_mk KX G hmg ?a0 ?l0 ?c0 ?k0 ?a1 ?l1 ?c1 ?k1 ?a2 ?l2 ?c2 ?k2 ?a3 ?l3 ?c3 ?k3 ?a4 ?l4 ?c4 ?k4 ?a5 ?l5 ?c5 ?k5 ?a6 ?l6 ?c6 ?k6 ?a7 ?l7 ?c7 ?k7 ?a8 ?l8 ?c8 ?k8 ?a9 ?l9 ?c9 ?k9 ?a10 ?l10 ?c10 ?k10 ?a11 ?l11 ?c11 ?k11 ?a12 ?l12 ?c12 ?k12 ?a13 ?l13 ?c13 ?k13 ?a14 ?l14 ?c14 ?k14 ?a15 ?l15 ?c15 ?k15 ?a16 ?l16 ?c16 ?k16 ?z0 ?z1 ?z2 ?z3 ?z4 ?z5 ?z6
    (case a0 => k_is)
    (case l0 => k_is)
    (case c0 => k_is)
    (case k0 => k_is)
    (case a1 => k_is)
    (case l1 => k_is)
    (case c1 => k_is)
    (case k1 => k_is)
    (case a2 => k_is)
    (case l2 => k_is)
    (case c2 => k_is)
    (case k2 => k_is)
    (case a3 => k_is)
    (case l3 => k_is)
    (case c3 => k_is)
    (case k3 => k_is)
    (case a4 => k_is)
    (case l4 => k_is)
    (case c4 => k_is)
    (case k4 => k_is)
    (case a5 => k_is)
    (case l5 => k_is)
    (case c5 => k_is)
    (case k5 => k_is)
    (case a6 => k_is)
    (case l6 => k_is)
    (case c6 => k_is)
    (case k6 => k_is)
    (case a7 => k_is)
    (case l7 => k_is)
    (case c7 => k_is)
    (case k7 => k_is)
    (case a8 => k_is)
    (case l8 => k_is)
    (case c8 => k_is)
    (case k8 => k_is)
    (case a9 => k_is)
    (case l9 => k_is)
    (case c9 => k_is)
    (case k9 => k_is)
    (case a10 => k_is)
    (case l10 => k_is)
    (case c10 => k_is)
    (case k10 => k_is)
    (case a11 => k_is)
    (case l11 => k_is)
    (case c11 => k_is)
    (case k11 => k_is)
    (case a12 => k_is)
    (case l12 => k_is)
    (case c12 => k_is)
    (case k12 => k_is)
    (case a13 => k_is)
    (case l13 => k_is)
    (case c13 => k_is)
    (case k13 => k_is)
    (case a14 => k_is)
    (case l14 => k_is)
    (case c14 => k_is)
    (case k14 => k_is)
    (case a15 => k_is)
    (case l15 => k_is)
    (case c15 => k_is)
    (case k15 => k_is)
    (case a16 => k_is)
    (case l16 => k_is)
    (case c16 => k_is)
    (case k16 => k_is)
    (case z0 => k_is)
    (case z1 => k_is)
    (case z2 => k_is)
    (case z3 => k_is)
    (case z4 => k_is)
    (case z5 => k_is)
    (case z6 => k_is)
