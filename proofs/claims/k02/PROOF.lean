import PyProof.Rows.All
import Wide.All
import OpenK.AllK
import Wide.FinOn
import HandS.ForMost
import HandS.EndBits
import HandS.Wide
import HandS.WideBits
import HandS.IsInst
import HandS.Style
import HandS.Codes
import HandS.Conv
import KE.KDictWalk
import PySem.Challenge.RW_slackfigures_k02_rows_of_a_worth
set_option Elab.async false
set_option linter.all false
set_option maxRecDepth 100000
set_option maxHeartbeats 4000000
namespace My
open PySem L2
def top (i : Nat) : Stmt := PySem.Challenge.pw_slackfigures_k02_rows_of_a_worth.main.body.getD i (.Pass ⟨0, 0, 0, 0⟩)
abbrev s_how_many : Stmt := top 1
abbrev s_one_figure_less : Stmt := top 2
abbrev s_without_last : Stmt := top 3
abbrev s__law_deck : Stmt := top 5
abbrev s__law_pick : Stmt := top 6
abbrev s__law_kind : Stmt := top 7
abbrev s__law_great : Stmt := top 8
abbrev s__law_whole : Stmt := top 9
abbrev s__law_counts : Stmt := top 10
abbrev s__law_sum : Stmt := top 11
abbrev s_law : Stmt := top 12
theorem sc_how_many : FnScope ["kind", "count", "number", "ways", "taken"] ["kind", "count", "number"] (defScope s_how_many) := ⟨rfl, rfl, rfl, by decide +kernel, rfl, by decide +kernel, by decide +kernel⟩
theorem sc_one_figure_less : FnScope ["kind", "ways", "fewer", "number", "left"] ["kind", "ways"] (defScope s_one_figure_less) := ⟨rfl, rfl, rfl, by decide +kernel, rfl, by decide +kernel, by decide +kernel⟩
theorem sc_without_last : FnScope ["kind", "number", "base", "most", "ends", "figure"] ["kind", "number"] (defScope s_without_last) := ⟨rfl, rfl, rfl, by decide +kernel, rfl, by decide +kernel, by decide +kernel⟩
theorem sc__law_deck : FnScope ["cell", "turn"] ["cell", "turn"] (defScope s__law_deck) := ⟨rfl, rfl, rfl, by decide +kernel, rfl, by decide +kernel, by decide +kernel⟩
theorem sc__law_pick : FnScope ["deck", "many", "found", "number"] ["deck", "many"] (defScope s__law_pick) := ⟨rfl, rfl, rfl, by decide +kernel, rfl, by decide +kernel, by decide +kernel⟩
theorem sc__law_kind : FnScope ["deck", "base"] ["deck"] (defScope s__law_kind) := ⟨rfl, rfl, rfl, by decide +kernel, rfl, by decide +kernel, by decide +kernel⟩
theorem sc__law_great : FnScope ["deck", "figures", "size", "turn", "found"] ["deck", "figures"] (defScope s__law_great) := ⟨rfl, rfl, rfl, by decide +kernel, rfl, by decide +kernel, by decide +kernel⟩
theorem sc__law_whole : FnScope ["thing"] ["thing"] (defScope s__law_whole) := ⟨rfl, rfl, rfl, by decide +kernel, rfl, by decide +kernel, by decide +kernel⟩
theorem sc__law_counts : FnScope ["kind", "count", "counts", "turn", "later", "number", "figure", "there"] ["kind", "count"] (defScope s__law_counts) := ⟨rfl, rfl, rfl, by decide +kernel, rfl, by decide +kernel, by decide +kernel⟩
theorem sc__law_sum : FnScope ["kind", "count", "number", "total", "figure"] ["kind", "count", "number"] (defScope s__law_sum) := ⟨rfl, rfl, rfl, by decide +kernel, rfl, by decide +kernel, by decide +kernel⟩
theorem sc_law : FnScope ["script", "deck", "kind", "count", "rows", "most", "counts", "reach", "number", "found", "cell", "size", "turn"] ["script"] (defScope s_law) := ⟨rfl, rfl, rfl, by decide +kernel, rfl, by decide +kernel, by decide +kernel⟩
/-- what the top has left -/
structure Txt (K : PySem.W.Frag) (mg : Str → Option Value) where
  a_how_many : Addr
  fd_how_many : FuncData
  F_how_many : Fun K "how_many" "how_many" s_how_many a_how_many fd_how_many
  m_how_many : mg "how_many" = some (.ref a_how_many)
  b_how_many : Binds K fd_how_many ["kind", "count", "number"] []
  a_one_figure_less : Addr
  fd_one_figure_less : FuncData
  F_one_figure_less : Fun K "one_figure_less" "one_figure_less" s_one_figure_less a_one_figure_less fd_one_figure_less
  m_one_figure_less : mg "one_figure_less" = some (.ref a_one_figure_less)
  b_one_figure_less : Binds K fd_one_figure_less ["kind", "ways"] []
  a_without_last : Addr
  fd_without_last : FuncData
  F_without_last : Fun K "without_last" "without_last" s_without_last a_without_last fd_without_last
  m_without_last : mg "without_last" = some (.ref a_without_last)
  b_without_last : Binds K fd_without_last ["kind", "number"] []
  a__law_deck : Addr
  fd__law_deck : FuncData
  F__law_deck : Fun K "_law_deck" "_law_deck" s__law_deck a__law_deck fd__law_deck
  m__law_deck : mg "_law_deck" = some (.ref a__law_deck)
  b__law_deck : Binds K fd__law_deck ["cell", "turn"] []
  a__law_pick : Addr
  fd__law_pick : FuncData
  F__law_pick : Fun K "_law_pick" "_law_pick" s__law_pick a__law_pick fd__law_pick
  m__law_pick : mg "_law_pick" = some (.ref a__law_pick)
  b__law_pick : Binds K fd__law_pick ["deck", "many"] []
  a__law_kind : Addr
  fd__law_kind : FuncData
  F__law_kind : Fun K "_law_kind" "_law_kind" s__law_kind a__law_kind fd__law_kind
  m__law_kind : mg "_law_kind" = some (.ref a__law_kind)
  b__law_kind : Binds K fd__law_kind ["deck"] []
  a__law_great : Addr
  fd__law_great : FuncData
  F__law_great : Fun K "_law_great" "_law_great" s__law_great a__law_great fd__law_great
  m__law_great : mg "_law_great" = some (.ref a__law_great)
  b__law_great : Binds K fd__law_great ["deck", "figures"] []
  a__law_whole : Addr
  fd__law_whole : FuncData
  F__law_whole : Fun K "_law_whole" "_law_whole" s__law_whole a__law_whole fd__law_whole
  m__law_whole : mg "_law_whole" = some (.ref a__law_whole)
  b__law_whole : Binds K fd__law_whole ["thing"] []
  a__law_counts : Addr
  fd__law_counts : FuncData
  F__law_counts : Fun K "_law_counts" "_law_counts" s__law_counts a__law_counts fd__law_counts
  m__law_counts : mg "_law_counts" = some (.ref a__law_counts)
  b__law_counts : Binds K fd__law_counts ["kind", "count"] []
  a__law_sum : Addr
  fd__law_sum : FuncData
  F__law_sum : Fun K "_law_sum" "_law_sum" s__law_sum a__law_sum fd__law_sum
  m__law_sum : mg "_law_sum" = some (.ref a__law_sum)
  b__law_sum : Binds K fd__law_sum ["kind", "count", "number"] []
  a_law : Addr
  fd_law : FuncData
  F_law : Fun K "law" "law" s_law a_law fd_law
  m_law : mg "law" = some (.ref a_law)
  b_law : Binds K fd_law ["script"] []
  z_range : mg "range" = none
  z_isinstance : mg "isinstance" = none
  z_int : mg "int" = none
  z_bool : mg "bool" = none
  z_max : mg "max" = none
section
variable {P : Program} {w : World} {K : PySem.W.Frag} {mg : Str → Option Value} {base : Heap}
local macro_rules | `(tactic| walk_at "rd1") => `(tactic| first
  | refine ⟨_, rfl, ?_⟩
  | refine ⟨_, _, rfl, rfl, ?_⟩
  | refine ⟨_, _, _, _, rfl, rfl, SqL.of (by assumption), rfl, ?_⟩
  | refine ⟨_, _, _, _, rfl, rfl, SqT.of (by assumption), rfl, ?_⟩
  | refine ⟨_, _, _, _, rfl, rfl, by assumption, rfl, ?_⟩
  | refine ⟨_, _, rfl, .inl (SqL.of (by assumption)), ?_⟩
  | refine ⟨_, _, rfl, ?_⟩
  | refine ⟨_, _, rfl, .inr (SqT.of (by assumption)), ?_⟩
  | refine ⟨(show (0 : Int) < _ by first | assumption | decide | omega), ?_⟩
  | refine ⟨(rfl : scal _ _ = true), ?_⟩
  | refine ⟨⟨by decide, by decide⟩, ?_⟩
  | refine ⟨⟨by decide, by decide, by decide⟩, ?_⟩
  | refine ⟨Or.inl ⟨by decide, by decide⟩, ?_⟩
  | refine ⟨Or.inr ⟨by decide, by decide⟩, ?_⟩
  | fail "rd")
local macro_rules | `(tactic| walk_at "rd") => `(tactic| (walk_at "rd1"; repeat walk_at "rd1"))
/-! ### heaps -/
/-- what stood at another place than a stands as it was -/
def Keep (a : Addr) (H H' : Hp) : Prop := ∀ b o, b ≠ a → H b = some o → H' b = some o
theorem Keep.refl (a : Addr) (H : Hp) : Keep a H H := fun _ _ _ h => h
theorem Keep.trans {a : Addr} {H H1 H2 : Hp} (x : Keep a H H1) (y : Keep a H1 H2) : Keep a H H2 := fun b o n h => y b o n (x b o n h)
theorem Keep.upd {a : Addr} {H : Hp} {o : HO} : Keep a H (upd H a o) := fun b u n h => by
  rw [upd_ne n]
  exact h
theorem Keep.new {a p : Addr} {H : Hp} {o : HO} (h : H p = none) : Keep a H (L2.upd H p o) := fun b u _ e => by
  rw [upd_ne (ne_of_none e h)]
  exact e
theorem Keep.same {a : Addr} {H H' : Hp} (h : Same H H') : Keep a H H' := fun b o _ e => h b o e
theorem same_new {H : Hp} {p : Addr} (h : H p = none) (o : HO) : Same H (upd H p o) := fun b u q => by
  rw [upd_ne (ne_of_none q h)]
  exact q
/-! ### + of lists that are read (the script among them) -/
section
open PySem.Spec PyProof.Rows
def rCatR (K : PySem.W.Frag) : R2 := fun x y H Q => ∃ l b us zs, x = .ref l ∧ y = .ref b ∧ SqL K H l us ∧ SqL K H b zs ∧ us.length + zs.length ≤ sizeLine ∧ ∀ p, H p = none → Q (.ref p) (upd H p (.lst (us ++ zs)))
theorem op_catR {X : Cx} : OpR X (binaryOp .Add) (rCatR X.K) := by
  intro pins sh sg H x y v u Q I rx ry hyp
  obtain ⟨l, b, us, zs, rfl, rfl, hl, hb, hz, q⟩ := hyp
  cases rx
  cases ry
  obtain ⟨i1, r1, p1, _⟩ := I.list hl
  obtain ⟨i2, r2, p2, _⟩ := I.list hb
  have n1 := r1.length
  have n2 := r2.length
  obtain ⟨⟨c1, d1, t1, s1⟩, g1, e1, m1, f1⟩ := p1.isList
  obtain ⟨⟨c2, d2, t2, s2⟩, g2, e2, m2, f2⟩ := p2.isList
  simp only at e1 f1 e2 f2
  subst e1 f1 e2 f2
  refine concat_meets ⟨_, g1, rfl⟩ ⟨_, g2, rfl⟩ noFill_list_add seq_list_add PySem.F.slot_list_add PySem.F.entry_list_add (PySem.F.args_list_add_2 _ _)
    (list_addW l b i1.toArray i2.toArray m1 m2 d1 d2 s1 s2 (by simp only [List.size_toArray]; omega)) ⟨g1, g2, ?_⟩
  rw [show i1.toArray ++ i2.toArray = (i1 ++ i2).toArray by simp]
  exact ⟨.ref _, _, I.lnew (t' := sh.toks) (r1.append r2) (by rw [List.length_append]; exact hz), rfl, q _ I.fresh⟩
end
/-! ### the deck -/
def Deck (H : Hp) (a : Addr) (n : Nat) : Prop := ∃ d0 d1 d2 : Int, H a = some (.lst [.int d0, .int d1, .int d2]) ∧ 0 ≤ d0 ∧ 0 ≤ d1 ∧ d1 < 2147483648 ∧ 0 ≤ d2 ∧ d2 ≤ n
theorem Deck.le {H : Hp} {a : Addr} {n m : Nat} (h : Deck H a n) (e : n ≤ m) : Deck H a m := by
  obtain ⟨d0, d1, d2, h1, h2, h3, h4, h5, h6⟩ := h
  exact ⟨d0, d1, d2, h1, h2, h3, h4, h5, by omega⟩
theorem Deck.same {H H' : Hp} {a : Addr} {n : Nat} (h : Deck H a n) (e : Same H H') : Deck H' a n := by
  obtain ⟨d0, d1, d2, h1, r⟩ := h
  exact ⟨d0, d1, d2, e _ _ h1, r⟩
theorem Deck.some {H : Hp} {a : Addr} {n : Nat} (h : Deck H a n) : ∃ o, H a = some o := by
  obtain ⟨d0, d1, d2, h1, r⟩ := h
  exact ⟨_, h1⟩
theorem Deck.ne {H : Hp} {a p : Addr} {n : Nat} (h : Deck H a n) (e : H p = none) : p ≠ a := by
  obtain ⟨d0, d1, d2, h1, r⟩ := h
  exact fun z => by rw [z, h1] at e; cases e
def sp__law_deck (K : PySem.W.Frag) : Sp := fun vs H Q _ => ∃ (c t : Int) (n : Nat), vs = [.int c, .int t] ∧ 0 ≤ t ∧ t ≤ n ∧
  ∀ p H', H p = none → Same H H' → Deck H' p n → Q (.ref p) H'
def sp__law_pick (K : PySem.W.Frag) : Sp := fun vs H Q _ => ∃ (a : Addr) (many : Int) (n : Nat), vs = [.ref a, .int many] ∧ Deck H a n ∧ n ≤ 1000000000 ∧ 0 < many ∧ many.natAbs.log2 < 9000 ∧
  ∀ v H', 0 ≤ v → v < many → Keep a H H' → Deck H' a (n + 1) → Q (.int v) H'
theorem ok__law_deck (T : Txt K mg) : FnOk P w K mg base CX0 1 T.a__law_deck T.fd__law_deck ["cell", "turn"] (sp__law_deck K) := by
  refine T.F__law_deck.ok sc__law_deck (fun vs H Q E h => ?_) (fun cdv A outer s H vs Q E hr h => ?_)
  · obtain ⟨c, t, n, rfl, _⟩ := h
    rfl
  obtain ⟨c, t, n, rfl, ht, htn, q⟩ := h
  refine ⟨_, (pss_cons (ps_if (pt_cmpR op_ge (pv 0) (pe_op op_pow pe_int pe_int) (nomark _)) (pss_one (ps_ret (pe_lst (pa_cons (pe_op op_sub (pv 0) (pe_op op_pow pe_int pe_int)) (pa_cons (pe_op op_mod (pv 0) pe_int) (pa_cons (pv 1) pa_nil)))))) pss_nil)
      (pss_one (ps_ret (pe_lst (pa_cons pe_int (pa_cons (pe_op op_mod (pv 0) pe_int) (pa_cons (pv 1) pa_nil))))))), ?_⟩
  walk_at "rd"
  have e18 : (10 : Int) ^ (18 : Int).toNat = 1000000000000000000 := by decide +kernel
  refine ite2 (fun c' => ?_) (fun _ => ?_)
  · have c1 : (10 : Int) ^ (18 : Int).toNat ≤ c := of_decide_eq_true c'
    walk_at "rd"
    refine ⟨by show 3 ≤ sizeLine; decide, fun p hp => ?_⟩
    refine q p _ hp (same_new hp _) ⟨_, _, _, upd_same, ?_, ?_, ?_, ht, htn⟩ <;> omega
  · walk_at "rd"
    refine ⟨by show 3 ≤ sizeLine; decide, fun p hp => ?_⟩
    refine q p _ hp (same_new hp _) ⟨_, _, _, upd_same, ?_, ?_, ?_, ht, htn⟩ <;> omega
theorem ok__law_pick (T : Txt K mg) : FnOk P w K mg base CX0 1 T.a__law_pick T.fd__law_pick ["deck", "many"] (sp__law_pick K) := by
  refine T.F__law_pick.ok sc__law_pick (fun vs H Q E h => ?_) (fun cdv A outer s H vs Q E hr h => ?_)
  · obtain ⟨a, many, n, rfl, _⟩ := h
    rfl
  obtain ⟨a, many, n, rfl, ⟨d0, d1, d2, hd, h0, h1, h1', h2, h2'⟩, hn, hm, hm', q⟩ := h
  refine ⟨_, (pss_cons (ps_if (pt_cmpR op_gt (pe_ix ix_list (pv 0) pe_int (fun _ _ => rfl)) pe_int (nomark _)) (pss_cons (ps_set (i := 2) sc__law_pick.nd rfl (Or.inl rfl) (pe_op op_mod (pe_ix ix_list (pv 0) pe_int (fun _ _ => rfl)) (pv 1)))
      (pss_cons (ps_asg (pe_op op_fdivW (pe_ix ix_list (pv 0) pe_int (fun _ _ => rfl)) (pv 1)) (pg_sub (pv 0) pe_int set_list))
      (pss_one (ps_ret (pv 2))))) pss_nil)
      (pss_cons (ps_asg (pe_op op_add (pe_ix ix_list (pv 0) pe_int (fun _ _ => rfl)) pe_int) (pg_sub (pv 0) pe_int set_list))
      (pss_cons (ps_set (i := 3) sc__law_pick.nd rfl (Or.inl rfl) (pe_op op_mod (pe_op op_pow (pe_op op_add (pe_ix ix_list (pv 0) pe_int (fun _ _ => rfl)) (pe_op op_mul pe_int (pe_ix ix_list (pv 0) pe_int (fun _ _ => rfl)))) pe_int) pe_int))
      (pss_cons (ps_set (i := 2) sc__law_pick.nd rfl (Or.inl rfl) (pe_op op_fdivW (pe_op op_mod (pe_op op_pow (pe_op op_add (pv 3) (pe_op op_mul pe_int (pe_ix ix_list (pv 0) pe_int (fun _ _ => rfl)))) pe_int) pe_int) pe_int))
      (pss_cons (ps_if (pt_cmpR op_gt (pv 1) pe_int (nomark _)) (pss_one (ps_ret (pe_op op_mod (pe_op op_add (pe_op op_mul (pv 2) pe_int) (pv 3)) (pv 1)))) pss_nil)
      (pss_one (ps_ret (pe_op op_mod (pv 2) (pv 1))))))))), ?_⟩
  walk_at "rd"
  refine ite2 (fun c => ?_) (fun c => ?_)
  · walk_at "rd"
    refine ⟨⟨hm, hm'⟩, ?_⟩
    walk_at "rd"
    exact q _ _ (Int.emod_nonneg _ (by omega)) (Int.emod_lt_of_pos _ hm) Keep.upd ⟨_, _, _, upd_same, Int.ediv_nonneg h0 (by omega), h1, h1', h2, by omega⟩
  · walk_at "rd"
    have hd2 : (upd H a (.lst ([V.int d0, .int d1, .int d2].set 2 (.int (d2 + 1))))) a = some (.lst [.int d0, .int d1, .int (d2 + 1)]) := upd_same
    walk_at "rd"
    refine ⟨⟨by decide, by decide, by omega⟩, ?_⟩
    walk_at "rd"
    refine ⟨⟨by decide, by decide, by omega⟩, ?_⟩
    walk_at "rd"
    refine ite2 (fun c2 => ?_) (fun c2 => ?_)
    · walk_at "rd"
      exact q _ _ (Int.emod_nonneg _ (by omega)) (Int.emod_lt_of_pos _ hm) Keep.upd ⟨_, _, _, upd_same, h0, h1, h1', by omega, by omega⟩
    · walk_at "rd"
      exact q _ _ (Int.emod_nonneg _ (by omega)) (Int.emod_lt_of_pos _ hm) Keep.upd ⟨_, _, _, upd_same, h0, h1, h1', by omega, by omega⟩
/-! ### a written list at a drawn place -/
theorem at_some {α : Type} {xs : List α} {i : Int} (h0 : 0 ≤ i) (h1 : i < xs.length) : ∃ y, atI xs i = some y ∧ y ∈ xs := by
  obtain ⟨k, rfl⟩ := Int.eq_ofNat_of_zero_le h0
  have hk : k < xs.length := by omega
  exact ⟨xs[k], atI_nat (List.getElem?_eq_getElem hk), List.getElem_mem hk⟩
theorem lt_pow {z : Int} (h0 : 0 ≤ z) (h : z < 2 ^ 63) : z.natAbs.log2 < 9000 := by
  by_cases e : z.natAbs = 0
  · rw [e]; decide
  · have h1 : z.natAbs < 2 ^ 63 := by omega
    have h2 := (Nat.log2_lt e).mpr h1
    omega
def sp__law_kind (K : PySem.W.Frag) : Sp := fun vs H Q _ => ∃ (a : Addr) (n : Nat), vs = [.ref a] ∧ Deck H a n ∧ n ≤ 900000000 ∧
  ∀ (p : Addr) (b m : Int) (H' : Hp), Keep a H H' → Deck H' a (n + 2) → H' p = some (.tup [.int b, .int m]) → (b = 2 ∨ b = 4 ∨ b = 8 ∨ b = 16) → b / 2 ≤ m → m ≤ b - 1 → Q (.ref p) H'
theorem ok__law_kind (T : Txt K mg) : FnOk P w K mg base CX0 2 T.a__law_kind T.fd__law_kind ["deck"] (sp__law_kind K) := by
  refine T.F__law_kind.ok sc__law_kind (fun vs H Q E h => ?_) (fun cdv A outer s H vs Q E hr h => ?_)
  · obtain ⟨a, n, rfl, _⟩ := h
    rfl
  obtain ⟨a, n, rfl, hd, hn, q⟩ := h
  refine ⟨_, (pss_cons (ps_set (i := 1) sc__law_kind.nd rfl (Or.inl rfl) (pe_ix ix_list (pe_lst (pa_cons pe_int (pa_cons pe_int (pa_cons pe_int (pa_cons pe_int (pa_cons pe_int pa_nil)))))) (pe_call (ok__law_pick T) (hr.mono (by first | decide | omega)) rfl T.m__law_pick T.F__law_pick.kp T.b__law_pick .nil pass0 (pa_cons (pv 0) (pa_cons pe_int pa_nil))) (fun _ _ => rfl)))
      (pss_one (ps_ret (pe_tup (pa_cons (pv 1) (pa_cons (pe_op op_add (pe_op op_fdiv (pv 1) pe_int) (pe_call (ok__law_pick T) (hr.mono (by first | decide | omega)) rfl T.m__law_pick T.F__law_pick.kp T.b__law_pick .nil pass0 (pa_cons (pv 0) (pa_cons (pe_op op_sub (pv 1) (pe_op op_fdiv (pv 1) pe_int)) pa_nil)))) pa_nil)))))), ?_⟩
  refine ⟨by show 5 ≤ sizeLine; decide, fun l hl => ?_⟩
  walk_at "rd"
  refine ⟨a, 5, n, rfl, hd.same (same_new hl _), by omega, by decide, lt_pow (by decide) (by decide), fun v H1 v0 v1 k1 d1 => ?_⟩
  have hl1 : H1 l = some (.lst [.int 2, .int 4, .int 4, .int 8, .int 16]) := k1 _ _ (hd.ne hl) upd_same
  obtain ⟨y, hy, my⟩ := at_some (xs := [V.int 2, .int 4, .int 4, .int 8, .int 16]) v0 (by show v < 5; omega)
  refine ⟨l, _, v, y, rfl, rfl, SqL.of hl1, hy, ?_⟩
  have hb : ∃ b : Int, y = .int b ∧ (b = 2 ∨ b = 4 ∨ b = 8 ∨ b = 16) := by
    simp only [List.mem_cons, List.not_mem_nil, or_false] at my
    rcases my with e | e | e | e | e <;> exact ⟨_, e, by decide⟩
  obtain ⟨b, rfl, hb⟩ := hb
  walk_at "rd"
  refine ⟨a, b - b / 2, n + 1, rfl, d1, by omega, by omega, lt_pow (by omega) (by omega), fun v2 H2 w0 w1 k2 d2 => ?_⟩
  walk_at "rd"
  refine ⟨by show 2 ≤ sizeLine; decide, fun p hp => ?_⟩
  refine q p b (b / 2 + v2) _ ?_ (d2.same (same_new hp _)) upd_same hb (by omega) (by omega)
  exact (Keep.new (a := a) hl).trans (k1.trans (k2.trans (Keep.new hp)))
/-! ### the mathematics of rows counted by their worths -/
def figs (m : Int) : List Int := (List.range (2 * m + 1).toNat).map fun (i : Nat) => -m + (i : Int)
def lefts (b m n : Int) : List Int := ((figs m).filter fun f => decide ((n - f) % b = 0)).map fun f => (n - f) / b
abbrev Tally := List (Int × Int)
def getI (ws : Tally) (k : Int) : Int := ((ws.find? fun p => decide (p.1 = k)).map (·.2)).getD 0
def putI (ws : Tally) (k v : Int) : Tally := if (ws.any fun p => decide (p.1 = k)) = true then ws.map (fun p => if p.1 = k then (p.1, v) else p) else ws ++ [(k, v)]
def addI (ws : Tally) (k x : Int) : Tally := putI ws k (getI ws k + x)
def keysI (ws : Tally) : List Int := ws.map (·.1)
def sumI (ws : Tally) (g : Int → Int) : Int := (ws.map fun p => p.2 * g p.1).sum
def bindI (h : Int → List Int) (ws : Tally) (acc : Tally) : Tally := ws.foldl (fun acc p => (h p.1).foldl (fun acc l => addI acc l p.2) acc) acc
def cnt (b m : Int) : Nat → Int → Int
  | 0, n => if n = 0 then 1 else 0
  | c + 1, n => ((lefts b m n).map (cnt b m c)).sum
theorem figs_len (m : Int) : (figs m).length = (2 * m + 1).toNat := by
  unfold figs
  rw [List.length_map, List.length_range]
theorem figs_at {m : Int} {i : Nat} (h : i < (2 * m + 1).toNat) : (figs m)[i]? = some (-m + (i : Int)) := by
  unfold figs
  rw [List.getElem?_map, List.getElem?_range h]
  rfl
theorem figs_mem {m f : Int} (h : f ∈ figs m) : -m ≤ f ∧ f ≤ m := by
  unfold figs at h
  obtain ⟨i, hi, rfl⟩ := List.mem_map.mp h
  have := List.mem_range.mp hi
  omega
theorem lefts_mem {b m n l : Int} (h : l ∈ lefts b m n) : ∃ f, -m ≤ f ∧ f ≤ m ∧ (n - f) % b = 0 ∧ l = (n - f) / b := by
  unfold lefts at h
  obtain ⟨f, hf, rfl⟩ := List.mem_map.mp h
  obtain ⟨h1, h2⟩ := List.mem_filter.mp hf
  have h3 := figs_mem h1
  exact ⟨f, h3.1, h3.2, of_decide_eq_true h2, rfl⟩
theorem lefts_len (b m n : Int) : (lefts b m n).length ≤ (2 * m + 1).toNat := by
  unfold lefts
  rw [List.length_map, ← figs_len m]
  exact List.length_filter_le _ _
theorem add_nil (k x : Int) : addI [] k x = [(k, x)] := by
  unfold addI putI getI
  simp
theorem any_keys (ws : Tally) (k : Int) : (ws.any fun p => decide (p.1 = k)) = decide (k ∈ keysI ws) := by
  induction ws with
  | nil => rfl
  | cons p r ih =>
    rw [List.any_cons, ih]
    by_cases h : p.1 = k
    · rw [decide_eq_true h, decide_eq_true (show k ∈ keysI (p :: r) from by unfold keysI; rw [List.map_cons, h]; exact List.mem_cons_self)]
      rfl
    · rw [decide_eq_false h, Bool.false_or]
      have e : (k ∈ keysI (p :: r)) ↔ k ∈ keysI r := by
        unfold keysI
        rw [List.map_cons, List.mem_cons]
        exact ⟨fun z => z.resolve_left fun q => h q.symm, Or.inr⟩
      exact (decide_eq_decide.mpr e).symm
theorem add_ne {p : Int × Int} {r : Tally} {k x : Int} (h : p.1 ≠ k) : addI (p :: r) k x = p :: addI r k x := by
  unfold addI putI
  have e1 : getI (p :: r) k = getI r k := by
    unfold getI
    rw [List.find?_cons, decide_eq_false h]
  rw [e1, List.any_cons, decide_eq_false h, Bool.false_or]
  by_cases z : (r.any fun p => decide (p.1 = k)) = true
  · rw [if_pos z, if_pos z, List.map_cons, if_neg h]
  · rw [if_neg z, if_neg z]
    rfl
theorem add_eq {p : Int × Int} {r : Tally} {k x : Int} (h : p.1 = k) (n : ¬ k ∈ keysI r) : addI (p :: r) k x = (k, p.2 + x) :: r := by
  unfold addI putI
  have e1 : getI (p :: r) k = p.2 := by
    unfold getI
    rw [List.find?_cons, decide_eq_true h]
    rfl
  rw [e1, List.any_cons, decide_eq_true h, Bool.true_or, if_pos rfl, List.map_cons, if_pos h, h]
  congr 1
  have e2 : ∀ q ∈ r, (fun p_1 : Int × Int => if p_1.1 = k then (p_1.1, p.2 + x) else p_1) q = (id : Int × Int → Int × Int) q := fun q hq => if_neg fun z => n (by rw [← z]; exact List.mem_map_of_mem hq)
  rw [List.map_congr_left e2, List.map_id]
theorem keys_cons (p : Int × Int) (r : Tally) : keysI (p :: r) = p.1 :: keysI r := rfl
theorem sum_cons (p : Int × Int) (r : Tally) (g : Int → Int) : sumI (p :: r) g = p.2 * g p.1 + sumI r g := by
  unfold sumI
  rw [List.map_cons, List.sum_cons]
theorem add_keys : ∀ {ws : Tally} {k x y : Int}, (keysI ws).Nodup → y ∈ keysI (addI ws k x) → y ∈ keysI ws ∨ y = k
  | [], k, x, y, _, h => by
    rw [add_nil] at h
    exact .inr (by simpa [keysI] using h)
  | p :: r, k, x, y, hn, h => by
    rw [keys_cons] at hn
    have hn' := List.nodup_cons.mp hn
    by_cases e : p.1 = k
    · rw [add_eq e (by rw [← e]; exact hn'.1), keys_cons] at h
      rw [keys_cons, e]
      exact .inl h
    · rw [add_ne e, keys_cons] at h
      rw [keys_cons]
      rcases List.mem_cons.mp h with z | z
      · exact .inl (by rw [z]; exact List.mem_cons_self)
      · rcases add_keys hn'.2 z with z | z
        · exact .inl (List.mem_cons_of_mem _ z)
        · exact .inr z
theorem add_nodup : ∀ {ws : Tally} {k x : Int}, (keysI ws).Nodup → (keysI (addI ws k x)).Nodup
  | [], k, x, _ => by
    rw [add_nil]
    simp [keysI]
  | p :: r, k, x, hn => by
    rw [keys_cons] at hn
    have hn' := List.nodup_cons.mp hn
    by_cases e : p.1 = k
    · rw [add_eq e (by rw [← e]; exact hn'.1), keys_cons, ← e]
      exact hn
    · rw [add_ne e, keys_cons]
      refine List.nodup_cons.mpr ⟨fun z => ?_, add_nodup hn'.2⟩
      rcases add_keys hn'.2 z with z | z
      · exact hn'.1 z
      · exact e z
theorem add_sum : ∀ {ws : Tally} {k x : Int} {g : Int → Int}, (keysI ws).Nodup → sumI (addI ws k x) g = sumI ws g + x * g k
  | [], k, x, g, _ => by
    rw [add_nil, sum_cons]
    unfold sumI
    simp
  | p :: r, k, x, g, hn => by
    rw [keys_cons] at hn
    have hn' := List.nodup_cons.mp hn
    by_cases e : p.1 = k
    · rw [add_eq e (by rw [← e]; exact hn'.1), sum_cons, sum_cons, e]
      show (p.2 + x) * g k + sumI r g = p.2 * g k + sumI r g + x * g k
      rw [Int.add_mul]
      omega
    · rw [add_ne e, sum_cons, sum_cons, add_sum hn'.2]
      omega
theorem add_len (ws : Tally) (k x : Int) : (addI ws k x).length ≤ ws.length + 1 := by
  unfold addI putI
  split
  · rw [List.length_map]
    omega
  · rw [List.length_append]
    exact Nat.le_refl _
theorem adds_all (x : Int) (g : Int → Int) : ∀ (ls : List Int) (acc : Tally), (keysI acc).Nodup →
    (keysI (ls.foldl (fun acc l => addI acc l x) acc)).Nodup ∧ sumI (ls.foldl (fun acc l => addI acc l x) acc) g = sumI acc g + x * (ls.map g).sum ∧ (∀ y, y ∈ keysI (ls.foldl (fun acc l => addI acc l x) acc) → y ∈ keysI acc ∨ y ∈ ls) ∧ (ls.foldl (fun acc l => addI acc l x) acc).length ≤ acc.length + ls.length
  | [], acc, h => ⟨h, by simp, fun y z => .inl z, Nat.le_refl _⟩
  | l :: r, acc, h => by
    obtain ⟨h1, h2, h3, h4⟩ := adds_all x g r (addI acc l x) (add_nodup h)
    refine ⟨h1, ?_, fun y z => ?_, ?_⟩
    · rw [List.foldl_cons, h2, add_sum h, List.map_cons, List.sum_cons, Int.mul_add]
      omega
    · rcases h3 y z with z | z
      · rcases add_keys h z with z | z
        · exact .inl z
        · exact .inr (by rw [z]; exact List.mem_cons_self)
      · exact .inr (List.mem_cons_of_mem _ z)
    · have := add_len acc l x
      rw [List.foldl_cons, List.length_cons]
      omega
theorem bind_all (h : Int → List Int) (g : Int → Int) : ∀ (ws acc : Tally), (keysI acc).Nodup →
    (keysI (bindI h ws acc)).Nodup ∧ sumI (bindI h ws acc) g = sumI acc g + sumI ws (fun n => ((h n).map g).sum) ∧ (∀ y, y ∈ keysI (bindI h ws acc) → y ∈ keysI acc ∨ ∃ k ∈ keysI ws, y ∈ h k)
  | [], acc, hn => ⟨hn, by unfold bindI sumI; simp, fun y z => .inl z⟩
  | p :: r, acc, hn => by
    obtain ⟨a1, a2, a3, _⟩ := adds_all p.2 g (h p.1) acc hn
    obtain ⟨b1, b2, b3⟩ := bind_all h g r _ a1
    have e : bindI h (p :: r) acc = bindI h r ((h p.1).foldl (fun acc l => addI acc l p.2) acc) := rfl
    rw [e]
    refine ⟨b1, ?_, fun y z => ?_⟩
    · rw [b2, a2, sum_cons]
      omega
    · rcases b3 y z with z | ⟨k, hk, z⟩
      · rcases a3 y z with z | z
        · exact .inl z
        · exact .inr ⟨p.1, by rw [keys_cons]; exact List.mem_cons_self, z⟩
      · exact .inr ⟨k, by rw [keys_cons]; exact List.mem_cons_of_mem _ hk, z⟩
theorem bind_snoc (h : Int → List Int) (ws : Tally) (p : Int × Int) (acc : Tally) : bindI h (ws ++ [p]) acc = (h p.1).foldl (fun acc l => addI acc l p.2) (bindI h ws acc) := by
  unfold bindI
  rw [List.foldl_append]
  rfl
/-! the number at one key -/
theorem get_sum (n : Int) : ∀ {ws : Tally}, (keysI ws).Nodup → sumI ws (fun k => if k = n then 1 else 0) = getI ws n
  | [], _ => rfl
  | p :: r, hn => by
    rw [keys_cons] at hn
    have hn' := List.nodup_cons.mp hn
    rw [sum_cons, get_sum n hn'.2]
    unfold getI
    by_cases e : p.1 = n
    · have z : r.find? (fun p => decide (p.1 = n)) = none := List.find?_eq_none.mpr fun q hq c => hn'.1 (by rw [e, ← of_decide_eq_true c]; exact List.mem_map_of_mem hq)
      rw [if_pos e, List.find?_cons, decide_eq_true e, z]
      show p.2 * 1 + 0 = p.2
      omega
    · rw [if_neg e, List.find?_cons, decide_eq_false e, Int.mul_zero, Int.zero_add]
/-! ### figures taken off at the end -/
def lessI (b m : Int) : Nat → Tally → Tally
  | 0, ws => ws
  | c + 1, ws => bindI (lefts b m) (lessI b m c ws) []
theorem less_ok (b m n : Int) : ∀ i : Nat, (keysI (lessI b m i [(n, 1)])).Nodup ∧ ∀ j : Nat, sumI (lessI b m i [(n, 1)]) (cnt b m j) = cnt b m (i + j) n
  | 0 => by
    refine ⟨by simp [lessI, keysI], fun j => ?_⟩
    show sumI [(n, 1)] (cnt b m j) = _
    rw [sum_cons, Nat.zero_add]
    show 1 * cnt b m j n + 0 = cnt b m j n
    omega
  | i + 1 => by
    obtain ⟨h1, h2⟩ := less_ok b m n i
    have q := fun g => bind_all (lefts b m) g (lessI b m i [(n, 1)]) [] (by simp [keysI])
    refine ⟨(q (fun _ => 0)).1, fun j => ?_⟩
    have e := (q (cnt b m j)).2.1
    show sumI (bindI (lefts b m) (lessI b m i [(n, 1)]) []) (cnt b m j) = _
    rw [e]
    have e2 : sumI (lessI b m i [(n, 1)]) (fun n => ((lefts b m n).map (cnt b m j)).sum) = cnt b m (i + (j + 1)) n := h2 (j + 1)
    rw [e2]
    show 0 + _ = _
    rw [Int.zero_add, show i + (j + 1) = i + 1 + j by omega]
theorem less_get (b m n : Int) (c : Nat) : getI (lessI b m c [(n, 1)]) 0 = cnt b m c n := by
  obtain ⟨h1, h2⟩ := less_ok b m n c
  have e := h2 0
  rw [Nat.add_zero] at e
  rw [← e, ← get_sum 0 h1]
  rfl
def Two (ws : Tally) : Prop := ∃ q : Int, ∀ k ∈ keysI ws, k = q ∨ k = q + 1
theorem two_len {ws : Tally} (hn : (keysI ws).Nodup) (h : Two ws) : ws.length ≤ 2 := by
  obtain ⟨q, hq⟩ := h
  match ws, hn, hq with
  | [], _, _ => simp
  | [_], _, _ => simp
  | [_, _], _, _ => simp
  | x :: y :: z :: r, hn, hq =>
    simp only [keys_cons, List.nodup_cons, List.mem_cons, not_or] at hn
    have h1 := hq x.1 (by simp [keysI])
    have h2 := hq y.1 (by simp [keysI])
    have h3 := hq z.1 (by simp [keysI])
    have := hn.1.1
    have := hn.1.2.1
    have := hn.2.1.1
    omega
theorem less_two {b m n : Int} (hb : b = 2 ∨ b = 4 ∨ b = 8 ∨ b = 16) (hm : m ≤ b - 1) : ∀ i : Nat, Two (lessI b m i [(n, 1)])
  | 0 => ⟨n, fun k hk => .inl (by simpa [lessI, keysI] using hk)⟩
  | i + 1 => by
    obtain ⟨q, hq⟩ := less_two (n := n) hb hm i
    refine ⟨q / b, fun y hy => ?_⟩
    rcases (bind_all (lefts b m) (fun _ => 0) (lessI b m i [(n, 1)]) [] (by simp [keysI])).2.2 y hy with z | ⟨k, hk, z⟩
    · simp [keysI] at z
    obtain ⟨f, f0, f1, f2, rfl⟩ := lefts_mem z
    have hk2 := hq k hk
    rcases hb with e | e | e | e <;> subst e <;> omega
theorem less_len {b m n : Int} (hb : b = 2 ∨ b = 4 ∨ b = 8 ∨ b = 16) (hm : m ≤ b - 1) (i : Nat) : (lessI b m i [(n, 1)]).length ≤ 2 :=
  two_len (less_ok b m n i).1 (less_two hb hm i)
/-! ### rows grown figure by figure -/
def heads (b m k : Int) : List Int := (figs m).map fun f => k * b + f
def growI (b m : Int) : Nat → Tally
  | 0 => [(0, 1)]
  | c + 1 => bindI (heads b m) (growI b m c) []
theorem sum_add (ws : Tally) (g h : Int → Int) : sumI ws (fun k => g k + h k) = sumI ws g + sumI ws h := by
  induction ws with
  | nil => rfl
  | cons p r ih =>
    rw [sum_cons, sum_cons, sum_cons, ih, Int.mul_add]
    omega
theorem sum_zero (ws : Tally) : sumI ws (fun _ => 0) = 0 := by
  induction ws with
  | nil => rfl
  | cons p r ih =>
    rw [sum_cons, ih]
    omega
theorem sum_sum (ws : Tally) (h : Int → Int → Int) : ∀ ls : List Int, sumI ws (fun k => (ls.map fun l => h l k).sum) = (ls.map fun l => sumI ws (h l)).sum
  | [] => sum_zero ws
  | l :: r => by
    rw [List.map_cons, List.sum_cons, ← sum_sum ws h r, ← sum_add]
    rfl
def ind (n k : Int) : Int := if k = n then 1 else 0
theorem heads_lefts {b : Int} (hb : 0 < b) (n k : Int) : ∀ fs : List Int, ((fs.map fun f => k * b + f).map (ind n)).sum = (((fs.filter fun f => decide ((n - f) % b = 0)).map fun f => (n - f) / b).map fun l => ind l k).sum
  | [] => rfl
  | f :: r => by
    have ih := heads_lefts hb n k r
    rw [List.map_cons, List.map_cons, List.sum_cons, ih]
    by_cases e : (n - f) % b = 0
    · rw [List.filter_cons, if_pos (decide_eq_true e), List.map_cons, List.map_cons, List.sum_cons]
      congr 1
      have e2 : n - f = (n - f) / b * b := by
        have := Int.emod_add_mul_ediv (n - f) b
        rw [e, Int.zero_add, Int.mul_comm] at this
        exact this.symm
      unfold ind
      by_cases z : k = (n - f) / b
      · rw [if_pos z, if_pos (by rw [z]; omega)]
      · rw [if_neg z, if_neg fun q => z ?_]
        have q2 : k * b = (n - f) / b * b := by omega
        exact Int.eq_of_mul_eq_mul_right (by omega) q2
    · rw [List.filter_cons, if_neg (by rw [decide_eq_false e]; exact Bool.false_ne_true)]
      have : ind n (k * b + f) = 0 := by
        unfold ind
        rw [if_neg fun q => e ?_]
        rw [show n - f = k * b by omega]
        exact Int.mul_emod_left k b
      rw [this, Int.zero_add]
theorem grow_ok {b : Int} (m : Int) (hb : 0 < b) : ∀ c : Nat, (keysI (growI b m c)).Nodup ∧ ∀ n, sumI (growI b m c) (ind n) = cnt b m c n
  | 0 => by
    refine ⟨by simp [growI, keysI], fun n => ?_⟩
    show sumI [(0, 1)] (ind n) = if n = 0 then 1 else 0
    rw [sum_cons]
    show 1 * ind n 0 + 0 = _
    unfold ind
    by_cases z : n = 0
    · rw [if_pos z, if_pos z.symm]
      omega
    · rw [if_neg z, if_neg fun q => z q.symm]
      omega
  | c + 1 => by
    obtain ⟨h1, h2⟩ := grow_ok m hb c
    have q := fun g => bind_all (heads b m) g (growI b m c) [] (by simp [keysI])
    refine ⟨(q (fun _ => 0)).1, fun n => ?_⟩
    show sumI (bindI (heads b m) (growI b m c) []) (ind n) = ((lefts b m n).map (cnt b m c)).sum
    rw [(q (ind n)).2.1]
    have e : sumI (growI b m c) (fun k => ((heads b m k).map (ind n)).sum) = sumI (growI b m c) (fun k => ((lefts b m n).map fun l => ind l k).sum) := by
      congr 1
      funext k
      exact heads_lefts hb n k (figs m)
    rw [e, sum_sum]
    show 0 + _ = _
    rw [Int.zero_add]
    congr 1
    exact List.map_congr_left fun l _ => h2 l
theorem grow_get {b : Int} (m : Int) (hb : 0 < b) (c : Nat) (n : Int) : getI (growI b m c) n = cnt b m c n := by
  obtain ⟨h1, h2⟩ := grow_ok m hb c
  rw [← h2 n, ← get_sum n h1]
  rfl
theorem grow_keys {b m : Int} (hb : b = 2 ∨ b = 4 ∨ b = 8 ∨ b = 16) (hm0 : 0 ≤ m) (hm : m ≤ b - 1) : ∀ (c : Nat) (k : Int), k ∈ keysI (growI b m c) → -(17 : Int) ^ c < k ∧ k < (17 : Int) ^ c
  | 0, k, h => by
    have e : k = 0 := by simpa [growI, keysI] using h
    rw [e]
    decide
  | c + 1, k, h => by
    rcases (bind_all (heads b m) (fun _ => 0) (growI b m c) [] (by simp [keysI])).2.2 k h with z | ⟨j, hj, z⟩
    · simp [keysI] at z
    have ih := grow_keys hb hm0 hm c j hj
    unfold heads at z
    obtain ⟨f, hf, rfl⟩ := List.mem_map.mp z
    have h3 := figs_mem hf
    have e : (17 : Int) ^ (c + 1) = 17 * 17 ^ c := by rw [Int.pow_succ, Int.mul_comm]
    rw [e]
    have p : (0 : Int) < 17 ^ c := Int.pow_pos (by decide)
    generalize (17 : Int) ^ c = t at *
    rcases hb with e | e | e | e <;> subst e <;> omega
theorem grow_len {b m : Int} : ∀ c : Nat, (growI b m c).length ≤ ((2 * m + 1).toNat) ^ c
  | 0 => by simp [growI]
  | c + 1 => by
    have ih := grow_len (b := b) (m := m) c
    have q : ∀ (ws acc : Tally), (bindI (heads b m) ws acc).length ≤ acc.length + ws.length * (2 * m + 1).toNat := by
      intro ws
      induction ws with
      | nil => intro acc; simp [bindI]
      | cons p r ih2 =>
        intro acc
        have e : bindI (heads b m) (p :: r) acc = bindI (heads b m) r ((heads b m p.1).foldl (fun acc l => addI acc l p.2) acc) := rfl
        have a : ∀ (ls : List Int) (acc : Tally), (ls.foldl (fun acc l => addI acc l p.2) acc).length ≤ acc.length + ls.length := by
          intro ls
          induction ls with
          | nil => intro acc; simp
          | cons l r ih3 =>
            intro acc
            rw [List.foldl_cons, List.length_cons]
            have := ih3 (addI acc l p.2)
            have := add_len acc l p.2
            omega
        have a1 := a (heads b m p.1) acc
        have a2 := ih2 ((heads b m p.1).foldl (fun acc l => addI acc l p.2) acc)
        have a3 : (heads b m p.1).length = (2 * m + 1).toNat := by unfold heads; rw [List.length_map, figs_len]
        rw [e, List.length_cons, Nat.add_mul, Nat.one_mul]
        omega
    have q1 := q (growI b m c) []
    show (bindI (heads b m) (growI b m c) []).length ≤ _
    rw [Nat.pow_succ]
    have := Nat.mul_le_mul_right (2 * m + 1).toNat ih
    simp only [List.length_nil] at q1
    omega
/-! ### the other sign -/
theorem sum_rev (ls : List Int) : ls.reverse.sum = ls.sum := by
  induction ls with
  | nil => rfl
  | cons x r ih =>
    rw [List.reverse_cons, List.sum_append, ih, List.sum_cons, List.sum_cons, List.sum_nil]
    omega
theorem figs_neg {m : Int} (h : 0 ≤ m) : (figs m).reverse = (figs m).map fun f => -f := by
  apply List.ext_getElem?
  intro i
  by_cases hi : i < (2 * m + 1).toNat
  · rw [List.getElem?_reverse (by rw [figs_len]; exact hi), figs_len, figs_at (by omega), List.getElem?_map, figs_at hi]
    show some (-m + ((((2 * m + 1).toNat - 1 - i : Nat)) : Int)) = some (-(-m + (i : Int)))
    congr 1
    omega
  · rw [List.getElem?_eq_none (by rw [List.length_reverse, figs_len]; omega), List.getElem?_eq_none (by rw [List.length_map, figs_len]; omega)]
theorem filter_sum (b n : Int) (g : Int → Int) : ∀ fs : List Int, (((fs.filter fun f => decide ((n - f) % b = 0)).map fun f => (n - f) / b).map g).sum = (fs.map fun f => if (n - f) % b = 0 then g ((n - f) / b) else 0).sum
  | [] => rfl
  | f :: r => by
    rw [List.map_cons, List.sum_cons, ← filter_sum b n g r]
    by_cases e : (n - f) % b = 0
    · rw [List.filter_cons, if_pos (decide_eq_true e), if_pos e, List.map_cons, List.map_cons, List.sum_cons]
    · rw [List.filter_cons, if_neg (by rw [decide_eq_false e]; exact Bool.false_ne_true), if_neg e, Int.zero_add]
theorem neg_parts {b x : Int} (hb : b = 2 ∨ b = 4 ∨ b = 8 ∨ b = 16) : ((-x) % b = 0 ↔ x % b = 0) ∧ (x % b = 0 → (-x) / b = -(x / b)) := by
  rcases hb with e | e | e | e <;> subst e <;> constructor <;> omega
theorem cnt_neg {b m : Int} (hb : b = 2 ∨ b = 4 ∨ b = 8 ∨ b = 16) (hm : 0 ≤ m) : ∀ (c : Nat) (n : Int), cnt b m c (-n) = cnt b m c n
  | 0, n => by
    show (if -n = 0 then (1 : Int) else 0) = if n = 0 then 1 else 0
    by_cases z : n = 0
    · rw [if_pos z, if_pos (by omega)]
    · rw [if_neg z, if_neg (by omega)]
  | c + 1, n => by
    show ((lefts b m (-n)).map (cnt b m c)).sum = ((lefts b m n).map (cnt b m c)).sum
    unfold lefts
    rw [filter_sum, filter_sum, ← sum_rev, ← List.map_reverse, figs_neg hm, List.map_map]
    congr 1
    refine List.map_congr_left fun f _ => ?_
    show (if (-n - -f) % b = 0 then cnt b m c ((-n - -f) / b) else 0) = _
    have p := neg_parts (x := n - f) hb
    rw [show -n - -f = -(n - f) by omega]
    by_cases z : (n - f) % b = 0
    · rw [if_pos z, if_pos (p.1.mpr z), p.2 z, cnt_neg hb hm c]
    · rw [if_neg z, if_neg fun q => z (p.1.mp q)]
section
open PySem.Spec PyProof.Rows
/-! ### the greatest key of a dict with whole numbers as keys -/
def encI (ws : Tally) : List (Key × V) := ws.map fun p => (Sum.inl p.1, V.int p.2)
def rMaxK : List V → Hp → VK → Prop := fun xs H Q => ∃ (d : Addr) (ws : Tally), xs = [.ref d] ∧ H d = some (.dK (encI ws)) ∧ 0 < ws.length ∧ ∀ m, m ∈ keysI ws → Q (.int m) H
theorem cr_maxK {X : Cx} (hc : X.calm = true) : CallR X (.builtin "max") rMaxK := by
  intro pins sh sg H xs us Q I r hyp
  obtain ⟨d, ws, rfl, hd, hne, q⟩ := hyp
  rw [Vals.ref1 r]
  obtain ⟨z, lo, vs, rk, hD⟩ := (show ObjOk X.prog X.w H sh.heap d (.dK (encI ws)) from I.hok d _ hd)
  obtain ⟨ep, hat⟩ := hD.dictAt
  obtain ⟨o, es, ho, hx, hdt, rest⟩ := id hat
  have hl : (encI ws).length = vs.length := Paired.length rk
  have hlw : (encI ws).length = ws.length := List.length_map _
  have hes : es.size = vs.length := by
    have := rest.2.1.length
    rw [Array.length_toList] at this
    omega
  refine call_max_walk ?_
  refine iter_keys lo ho hx hdt ?_
  have ha : d < sh.heap.objs.size := Heap.lt_size ho
  have kk := KV.keys rk
  refine ⟨sh.heap.objs.size, [sh.heap.objs.size, d], [sh.heap.objs.size], vs.length, fun i v => ∃ t, v = .int ((keysI ws).getD i 0) t, fun i h => h.IsKeyIter sh.heap.objs.size d i vs.length ep ∧ h.DictAt (mixKind X.prog X.w) d vs ep, fun i j => decide ((keysI ws).getD i 0 > (keysI ws).getD j 0), rfl, ?_, ⟨?_, ?_⟩, ?_, by omega, CmpOf.ints_gt (fun i => (keysI ws).getD i 0) (fun i v z => z), ?_⟩
  · refine (Walks.dictKeys (show X.A.in1.handled = none from I.ok.hd hc) _ d (Nat.ne_of_lt ha) vs ep).mono_item fun i v hi ⟨k, x, hk, hv⟩ => ?_
    have e1 : ((encI ws).map (·.1))[i]? = some k := by
      rw [kk, List.getElem?_map, hk]
      rfl
    have e2 : ((encI ws).map (·.1)) = (keysI ws).map Sum.inl := by
      unfold encI keysI
      rw [List.map_map, List.map_map]
      rfl
    rw [e2, List.getElem?_map] at e1
    cases e3 : (keysI ws)[i]? with
    | none => rw [e3] at e1; cases e1
    | some y =>
      rw [e3] at e1
      have e4 : Sum.inl y = k := Option.some.inj e1
      have rv := keyIs_rel (k := k) (v := v) hv
      rw [← e4] at rv
      obtain ⟨t, ht⟩ := (show ∃ t, v = Value.int y t from rv)
      exact ⟨t, by rw [List.getD_eq_getElem?_getD, e3]; exact ht⟩
  · rw [← hes]
    exact ⟨_, Heap.get?_push_size _ rfl, rfl, rfl⟩
  · exact hat.at' fun ob e => Heap.get?_push_of_some _ e
  · intro b hb
    show b < (sh.heap.push _).objs.size
    rw [size_push']
    rcases List.mem_cons.mp hb with z | z
    · rw [z]
      exact Nat.lt_succ_self _
    · rw [List.mem_singleton.mp z]
      exact Nat.lt_succ_of_lt ha
  · rintro v h' tk ⟨t, rfl⟩ hk
    obtain ⟨m1, _⟩ := argBest_gt (fun i => (keysI ws).getD i 0) (vs.length - 1)
    have hk2 : ∀ b ob, sh.heap.get? b = some ob → h'.get? b = some ob := fun b ob e => hk b ob (fun z => by rw [List.mem_singleton.mp z] at e; exact absurd (Heap.lt_size e) (Nat.lt_irrefl _)) (Heap.get?_push_of_some _ e)
    refine ⟨.int _, H, I.kept (t' := tk) hk2, ⟨t, rfl⟩, q _ (PySem.getD_mem ?_)⟩
    have : (keysI ws).length = ws.length := List.length_map _
    have m1' : argBest (fun i j => decide ((keysI ws).getD i 0 > (keysI ws).getD j 0)) (vs.length - 1) ≤ vs.length - 1 := m1
    omega
end
/-! ### things of any kind -/
inductive Th (B : Addr → Prop) (H : Hp) : V → Prop where
  | int (i : Int) : Th B H (.int i)
  | bl (b : Bool) : Th B H (.bl b)
  | non : Th B H .non
  | str (z : Str) : Th B H (.str z)
  | lst (p : Addr) (xs : List V) (n : B p) (h : H p = some (.lst xs)) (t : ∀ x ∈ xs, Th B H x) : Th B H (.ref p)
  | tup (p : Addr) (xs : List V) (n : B p) (h : H p = some (.tup xs)) (t : ∀ x ∈ xs, Th B H x) : Th B H (.ref p)
theorem Th.keep {B B' : Addr → Prop} {H H' : Hp} {v : V} (k : ∀ p o, B p → H p = some o → H' p = some o) (e : ∀ p, B p → B' p) (h : Th B H v) : Th B' H' v := by
  induction h with
  | int i => exact .int i
  | bl b => exact .bl b
  | non => exact .non
  | str z => exact .str z
  | lst p xs n h t ih => exact .lst p xs (e p n) (k _ _ n h) ih
  | tup p xs n h t ih => exact .tup p xs (e p n) (k _ _ n h) ih
def isI : V → Bool
  | .int _ => true
  | _ => false
def sp_isI (K : PySem.W.Frag) : Sp := fun vs H Q _ => ∃ (B : Addr → Prop) (v : V), vs = [v] ∧ Th B H v ∧ Q (.bl (isI v)) H
theorem ok__law_whole (T : Txt K mg) : FnOk P w K mg base CX0 1 T.a__law_whole T.fd__law_whole ["thing"] (sp_isI K) := by
  refine T.F__law_whole.ok sc__law_whole (fun vs H Q E h => ?_) (fun cdv A outer s H vs Q E hr h => ?_)
  · obtain ⟨B, v, rfl, _⟩ := h
    rfl
  obtain ⟨B, v, rfl, ht, q⟩ := h
  refine ⟨_, (pss_one (ps_ret (pe_and (pe_callB call_isi (by rfl) T.z_isinstance (by decide +kernel) (pa_cons (pv 0) (pa_cons (pe_bltn (v := .ty "int") (u := .type "int") (by rfl) T.z_int (by decide +kernel) rfl) pa_nil))) (pe_one (pe_not (pe_callB call_isi (by rfl) T.z_isinstance (by decide +kernel) (pa_cons (pv 0) (pa_cons (pe_bltn (v := .ty "bool") (u := .type "bool") (by rfl) T.z_bool (by decide +kernel) rfl) pa_nil)))))))), ?_⟩
  cases ht with
  | int i => exact ⟨_, rfl, _, _, _, _, true, rfl, .ty _, .base (.int i), kit_ty (by decide +kernel), _, rfl, iteT ⟨_, rfl, _, _, _, _, false, rfl, .ty _, .base (.int i), kit_ty (by decide +kernel), _, rfl, q⟩⟩
  | bl b => exact ⟨_, rfl, _, _, _, _, true, rfl, .ty _, .base (.bl b), kit_ty (by decide +kernel), _, rfl, iteT ⟨_, rfl, _, _, _, _, true, rfl, .ty _, .base (.bl b), kit_ty (by decide +kernel), _, rfl, q⟩⟩
  | non => exact ⟨_, rfl, _, _, _, _, false, rfl, .ty _, .base .non, kit_ty (by decide +kernel), _, rfl, iteF q⟩
  | str z => exact ⟨_, rfl, _, _, _, _, false, rfl, .ty _, .base (.str z), kit_ty (by decide +kernel), _, rfl, iteF q⟩
  | lst p xs n h t => exact ⟨_, rfl, _, _, _, _, false, rfl, .ty _, .base (.lst h), kit_ty (by decide +kernel), _, rfl, iteF q⟩
  | tup p xs n h t => exact ⟨_, rfl, _, _, _, _, false, rfl, .ty _, .base (.tup h), kit_ty (by decide +kernel), _, rfl, iteF q⟩
theorem enc_len (ws : Tally) : (encI ws).length = ws.length := List.length_map _
theorem enc_any (ws : Tally) (k : Int) : ((encI ws).any fun kv => decide (kv.1 = (Sum.inl k : Key))) = ws.any fun p => decide (p.1 = k) := by
  unfold encI
  rw [List.any_map]
  congr 1
  funext p
  show decide ((Sum.inl p.1 : Key) = Sum.inl k) = decide (p.1 = k)
  exact decide_eq_decide.mpr ⟨fun z => Sum.inl.inj z, fun z => by rw [z]⟩
theorem enc_put (ws : Tally) (k v : Int) : putK (encI ws) (Sum.inl k : Key) (.int v) = encI (putI ws k v) := by
  unfold putK putI
  rw [enc_any]
  by_cases z : (ws.any fun p => decide (p.1 = k)) = true
  · rw [if_pos z, if_pos z]
    unfold encI
    rw [List.map_map, List.map_map]
    refine List.map_congr_left fun p _ => ?_
    show (if (Sum.inl p.1 : Key) = Sum.inl k then _ else _) = ((Sum.inl (if p.1 = k then (p.1, v) else p).1 : Key), V.int (if p.1 = k then (p.1, v) else p).2)
    by_cases e : p.1 = k
    · rw [if_pos e, if_pos (by rw [e])]
    · rw [if_neg e, if_neg fun q => e (Sum.inl.inj q)]
  · rw [if_neg z, if_neg z]
    unfold encI
    rw [List.map_append]
    rfl
theorem enc_find (k : Int) : ∀ ws : Tally, valV (encI ws) (Sum.inl k : Key) = (ws.find? fun p => decide (p.1 = k)).map fun p => V.int p.2
  | [] => rfl
  | p :: r => by
    have ih := enc_find k r
    have e0 : encI (p :: r) = ((Sum.inl p.1 : Key), V.int p.2) :: encI r := rfl
    rw [e0, List.find?_cons]
    by_cases e : p.1 = k
    · rw [valV_pos (show ((Sum.inl p.1 : Key), V.int p.2).1 = Sum.inl k by rw [← e]), decide_eq_true e]
      rfl
    · rw [valV_neg (fun q => e (Sum.inl.inj q)), decide_eq_false e, ih]
theorem enc_get (ws : Tally) (k : Int) : (valV (encI ws) (Sum.inl k : Key)).getD (.int 0) = .int (getI ws k) := by
  rw [enc_find]
  unfold getI
  cases ws.find? fun p => decide (p.1 = k) <;> rfl
theorem enc_at {ws : Tally} (hn : (keysI ws).Nodup) : ∀ {i : Nat} {p : Int × Int}, ws[i]? = some p → valV (encI ws) (Sum.inl p.1 : Key) = some (.int p.2) := by
  induction ws with
  | nil => intro i p h; simp at h
  | cons x r ih =>
    intro i p h
    rw [keys_cons] at hn
    have hn' := List.nodup_cons.mp hn
    have e0 : encI (x :: r) = ((Sum.inl x.1 : Key), V.int x.2) :: encI r := rfl
    rw [e0]
    cases i with
    | zero =>
      have e : x = p := Option.some.inj h
      rw [← e]
      exact valV_pos rfl
    | succ j =>
      have h' : r[j]? = some p := h
      have hm : p.1 ∈ keysI r := List.mem_map_of_mem (List.mem_of_getElem? h')
      rw [valV_neg (fun q => hn'.1 (by rw [show x.1 = p.1 from Sum.inl.inj q]; exact hm))]
      exact ih hn'.2 h'
/-- a kind at k -/
def KindAt (K : PySem.W.Frag) (H : Hp) (k : Addr) (b m : Int) : Prop := H k = some (.tup [.int b, .int m]) ∧ (b = 2 ∨ b = 4 ∨ b = 8 ∨ b = 16) ∧ 0 ≤ m ∧ m ≤ b - 1
theorem upd_upd {H : Hp} {a : Addr} {o o' : HO} : upd (upd H a o) a o' = upd H a o' := by
  funext x
  unfold upd
  by_cases e : x = a
  · rw [if_pos e, if_pos e]
  · rw [if_neg e, if_neg e, if_neg e]
theorem take_snoc {α : Type} {ns : List α} {i : Nat} {x : α} (h : ns[i]? = some x) : ns.take (i + 1) = ns.take i ++ [x] := by
  rw [List.take_add_one, h]
  rfl
theorem map_at {ns : List Int} {i : Nat} {x : V} (h : (ns.map V.int)[i]? = some x) : ∃ y, x = .int y ∧ ns[i]? = some y := by
  rw [List.getElem?_map] at h
  cases e : ns[i]? with
  | none => rw [e] at h; cases h
  | some y => rw [e] at h; exact ⟨y, (Option.some.inj h).symm, rfl⟩
/-- a for over the keys of a locked dict -/
theorem for_keys {d : Addr} {ob : Obj} {kvs : List (Key × V)} {g : TG} {tb : TS} {D : Ends} {st : L2.St} {H : Hp} (Pv : Nat → L2.St → Hp → Prop) (h0 : Pv 0 st H)
    (hl : ∀ i st H, i ≤ kvs.length → Pv i st H → H d = some (.frz ob (.dK kvs)))
    (hs : ∀ i k v st H, kvs[i]? = some (k, v) → Pv i st H → g (kV k) st H fun st2 H2 => tb { D with nx := Pv (i + 1), ct := Pv (i + 1), bk := D.nx } st2 H2)
    (hd : ∀ st H, Pv kvs.length st H → D.nx st H) :
    ∃ W : Nat → Nat → L2.St → Hp → Prop, (∃ m, W 0 m st H) ∧ ∀ i m st H, W i m st H →
      ((Itk d ob kvs).stop i H ∧ D.nx st H) ∨ ((Itk d ob kvs).go i H ∧ ∃ N : L2.St → Hp → Prop, (∀ st' H', N st' H' → ∃ m', m' < m ∧ W (i + 1) m' st' H') ∧ ∀ x H', (Itk d ob kvs).yld i H x H' → g x st H' fun st2 H2 => tb { D with nx := N, ct := N, bk := D.nx } st2 H2) := by
  refine ⟨fun i m st H => m = kvs.length - i ∧ i ≤ kvs.length ∧ Pv i st H, ⟨kvs.length, rfl, Nat.zero_le _, h0⟩, ?_⟩
  rintro i m st H ⟨rfl, hi, pv⟩
  have at' := hl i st H hi pv
  rcases Nat.lt_or_ge i kvs.length with lt | ge
  · refine Or.inr ⟨⟨at', lt⟩, Pv (i + 1), fun st' H' pv' => ⟨kvs.length - (i + 1), by omega, rfl, lt, pv'⟩, ?_⟩
    rintro x H' ⟨rfl, k, v, hkv, rfl⟩
    exact hs i k v st _ hkv pv
  · have e : i = kvs.length := by omega
    subst e
    exact Or.inl ⟨⟨at', Nat.le_refl _⟩, hd st H pv⟩
def sp_without_last (K : PySem.W.Frag) : Sp := fun vs H Q _ => ∃ (k : Addr) (b m n : Int), vs = [.ref k, .int n] ∧ KindAt K H k b m ∧
  ∀ p H', H p = none → Same H H' → H' p = some (.lst ((lefts b m n).map V.int)) → Q (.ref p) H'
theorem ok_without_last (T : Txt K mg) : FnOk P w K mg base CX0 1 T.a_without_last T.fd_without_last ["kind", "number"] (sp_without_last K) := by
  refine T.F_without_last.ok sc_without_last (fun vs H Q E h => ?_) (fun cdv A outer s H vs Q E hr h => ?_)
  · obtain ⟨k, b, m, n, rfl, _⟩ := h
    rfl
  obtain ⟨k, b, m, n, rfl, ⟨hk, hb, hm0, hm⟩, q⟩ := h
  refine ⟨_, (pss_cons (ps_asg (pv 0) (pg_tup rfl (pgs_cons (pg_name (i := 2) sc_without_last.nd rfl (Or.inr rfl)) (pgs_cons (pg_name (i := 3) sc_without_last.nd rfl (Or.inl rfl)) pgs_nil))))
      (pss_cons (ps_setLc (i := 4) (own := [("figure", 5)]) (g := (gName 5)) rfl sc_without_last.nd rfl rfl (sw_true rfl rfl rfl (by decide +kernel)) (pi_range2 (by rfl) T.z_range (pa_cons (pe_un un_neg (pv 3)) (pa_cons (pe_op op_add (pv 3) pe_int) pa_nil))) (blkOk_by (own := [("figure", 5)]) (N := ["kind", "number", "base", "most", "ends", "figure"]) (sc := defScope s_without_last) (by decide +kernel)) (fun _ _ _ _ _ => (pg_name (i := 5) sc_without_last.nd rfl (Or.inl rfl))) (fun _ _ _ _ _ => (pts_one (pt_cmpR op_eq (pe_op op_mod (pe_op op_sub (pv 1) (pv 5)) (pv 2)) pe_int (nomark _)))) (fun _ _ _ _ _ => (pv 5)))
      (pss_one (ps_ret (pe_lc (own := [("figure", 5)]) (g := (gName 5)) (tt := tYes) rfl sc_without_last.nd (pi_list (pv 4)) (blkOk_by (own := [("figure", 5)]) (N := ["kind", "number", "base", "most", "ends", "figure"]) (sc := defScope s_without_last) (by decide +kernel)) (fun _ _ _ _ _ => (pg_name (i := 5) sc_without_last.nd rfl (Or.inl rfl))) (fun _ _ _ _ _ => pts_nil) (fun _ _ _ _ _ => (pe_op op_fdiv (pe_op op_sub (pv 1) (pv 5)) (pv 2)))))))), ?_⟩
  refine ⟨_, rfl, k, _, rfl, SqT.of hk, rfl, _, _, rfl, _, _, rfl, rfl, ?_⟩
  walk_at "rd"
  have en : (m + 1 - -m).toNat = (2 * m + 1).toNat := by omega
  refine ⟨⟨by omega, by omega, by omega, by omega⟩, fun D hD => lc_range (lo := -m) (n := (m + 1 - -m).toNat) (fun i H' => H' = upd H D (.lst ((((figs m).take i).filter fun f => decide ((n - f) % b = 0)).map V.int))) rfl ?_ ?_⟩
  · rintro i H' hi rfl
    rw [en] at hi
    have hf := figs_at hi
    refine ⟨rfl, ?_⟩
    walk_at "rd"
    refine ite2 (fun c => ?_) (fun c => ?_)
    · have c1 : V.int ((n - (-m + (i : Int))) % b) = V.int 0 := of_decide_eq_true c
      have c2 : (n - (-m + (i : Int))) % b = 0 := by injection c1
      refine ⟨_, rfl, _, upd_same, ?_, ?_⟩
      · rw [List.length_map]
        refine small1000 (Nat.le_trans (List.length_filter_le _ _) ?_)
        rw [List.length_take, figs_len]
        omega
      · show upd _ D _ = upd H D _
        rw [upd_upd, take_snoc hf, List.filter_append, List.map_append, List.filter_cons, if_pos (decide_eq_true c2)]
        rfl
    · have c1 := of_decide_eq_false (Bool.eq_false_iff.mpr c)
      have c2 : ¬ (n - (-m + (i : Int))) % b = 0 := fun z => c1 (by show V.int ((n - (-m + (i : Int))) % b) = V.int 0; rw [z])
      show upd H D _ = upd H D _
      rw [take_snoc hf, List.filter_append, List.map_append, List.filter_cons, if_neg (by rw [decide_eq_false c2]; exact Bool.false_ne_true)]
      simp
  · rintro H' rfl
    rw [en, ← figs_len, List.take_length]
    have s1 := same_new hD (.lst (((figs m).filter fun f => decide ((n - f) % b = 0)).map V.int))
    generalize hE : (figs m).filter (fun f => decide ((n - f) % b = 0)) = es at *
    have hel : es.length ≤ 31 := by
      rw [← hE]
      refine Nat.le_trans (List.length_filter_le _ _) ?_
      rw [figs_len]
      omega
    walk_at "rd"
    refine ⟨⟨_, SqL.of upd_same⟩, fun D2 hD2 => lc_list (K := K) (a := D) (xs := es.map V.int) (fun i H' => Same (upd H D (.lst (es.map V.int))) H' ∧ H' D2 = some (.lst (((es.take i).map fun f => (n - f) / b).map V.int))) ⟨same_new hD2 _, upd_same⟩ (fun i H' _ e => SqL.of (e.1 _ _ upd_same)) ?_ ?_⟩
    · rintro i x H' hx ⟨s2, h2⟩
      obtain ⟨f, rfl, hf⟩ := map_at hx
      refine ⟨rfl, ?_⟩
      unfold tYes
      refine iteT ?_
      walk_at "rd"
      refine ⟨⟨by omega, by omega⟩, _, h2, ?_, ?_, ?_⟩
      · rw [List.length_map, List.length_map, List.length_take]
        exact small1000 (by omega)
      · intro a o ha
        rw [upd_ne (ne_of_none ha hD2)]
        exact s2 a o ha
      · show upd H' D2 _ D2 = _
        rw [upd_same, take_snoc hf, List.map_append, List.map_append]
        rfl
    · rintro H' ⟨s2, h2⟩
      rw [List.length_map, List.take_length] at h2
      refine q D2 H' (s1.free hD2) (s1.trans s2) ?_
      rw [h2, ← hE]
      rfl
def sp_one_figure_less (K : PySem.W.Frag) : Sp := fun vs H Q _ => ∃ (k d : Addr) (b m : Int) (ws : Tally), vs = [.ref k, .ref d] ∧ KindAt K H k b m ∧ H d = some (.dK (encI ws)) ∧ (keysI ws).Nodup ∧ ws.length ≤ 2 ∧
  ∀ p H', H p = none → Same H H' → H' p = some (.dK (encI (bindI (lefts b m) ws []))) → Q (.ref p) H'
theorem ok_one_figure_less (T : Txt K mg) : FnOk P w K mg base CX0 2 T.a_one_figure_less T.fd_one_figure_less ["kind", "ways"] (sp_one_figure_less K) := by
  refine T.F_one_figure_less.ok sc_one_figure_less (fun vs H Q E h => ?_) (fun cdv A outer s H vs Q E hr h => ?_)
  · obtain ⟨k, d, b, m, ws, rfl, _⟩ := h
    rfl
  obtain ⟨k, d, b, m, ws, rfl, hk, hd, hn, hl, q⟩ := h
  refine ⟨_, (pss_cons (ps_set (i := 2) sc_one_figure_less.nd rfl (Or.inl rfl) pe_dnewK)
      (pss_cons (ps_lock (ps_for PassesOwn.never rfl (pi_keys (pv 1)) (pg_name (i := 3) sc_one_figure_less.nd rfl (Or.inl rfl)) (pss_one (ps_for PassesOwn.never rfl (pi_list (pe_call (ok_without_last T) (hr.mono (by first | decide | omega)) rfl T.m_without_last T.F_without_last.kp T.b_without_last .nil pass0 (pa_cons (pv 0) (pa_cons (pv 3) pa_nil)))) (pg_name (i := 4) sc_one_figure_less.nd rfl (Or.inl rfl)) (pss_one (ps_dput (hu_of hr) (pv 2) (pv 4) (pe_op op_add (pe_dget2 (hu_of hr) (pv 2) (pv 4) pe_int ⟨rfl, rfl, rfl, rfl⟩) (pe_dget (hu_of hr) (pv 1) (pv 3) (fun _ _ => rfl))) rfl))))))
      (pss_one (ps_ret (pv 2))))), ?_⟩
  intro f hf
  have nfd : d ≠ f := ne_of_none hd hf
  refine ⟨d, .dK (encI ws), by rw [upd_ne nfd]; exact hd, trivial, fun od => ?_⟩
  have hkd : k ≠ d := fun z => by
    have := hk.1
    rw [z, hd] at this
    cases this
  have hkf : k ≠ f := ne_of_none hk.1 hf
  have hll : ∀ n, (lefts b m n).length ≤ 31 := fun n => by
    have := lefts_len b m n
    have := hk.2.1
    have := hk.2.2
    omega
  walk_at "rd"
  refine ⟨d, od, rfl, .inl ⟨encI ws, upd_same, ?_⟩⟩
  refine for_keys (fun i σ H' => H' d = some (.frz od (.dK (encI ws))) ∧ H' f = some (.dK (encI (bindI (lefts b m) (ws.take i) []))) ∧ (keysI (bindI (lefts b m) (ws.take i) [])).Nodup ∧ (bindI (lefts b m) (ws.take i) []).length ≤ i * 31 ∧ (∀ a o, a ≠ d → H a = some o → H' a = some o) ∧ ∃ t3 t4, σ = [some (.ref k), some (.ref d), some (.ref f), t3, t4]) ?_ (fun i σ H' _ e => e.1) ?_ ?_
  · refine ⟨upd_same, by rw [upd_ne (fun z => nfd z.symm), upd_same]; rfl, by simp [bindI, keysI], Nat.le_refl _, fun a o n e => ?_, none, none, rfl⟩
    rw [upd_ne n, upd_ne (ne_of_none e hf)]
    exact e
  · rintro i key v σ H1 hi ⟨h1d, h1f, h1n, h1l, h1k, t3, t4, rfl⟩
    obtain ⟨p, hp, rfl, rfl⟩ : ∃ p : Int × Int, ws[i]? = some p ∧ key = Sum.inl p.1 ∧ v = V.int p.2 := by
      unfold encI at hi
      rw [List.getElem?_map] at hi
      cases e : ws[i]? with
      | none => rw [e] at hi; cases hi
      | some p =>
        rw [e] at hi
        have e2 := Option.some.inj hi
        exact ⟨p, rfl, (congrArg Prod.fst e2).symm, (congrArg Prod.snd e2).symm⟩
    have hi2 : i < 2 := by
      have := (List.getElem?_eq_some_iff.mp hp).1
      omega
    generalize hacc : bindI (lefts b m) (ws.take i) [] = acc at *
    walk_at "rd"
    refine ⟨k, b, m, p.1, rfl, ⟨h1k _ _ hkd hk.1, hk.2⟩, fun lp H2 hlp s2 h2 => ?_⟩
    walk_at "rd"
    refine ⟨⟨_, SqL.of h2⟩, for_list (xs := (lefts b m p.1).map V.int) (fun j σ H' => H' d = some (.frz od (.dK (encI ws))) ∧ H' lp = some (.lst ((lefts b m p.1).map V.int)) ∧ H' f = some (.dK (encI (((lefts b m p.1).take j).foldl (fun a l => addI a l p.2) acc))) ∧ (keysI (((lefts b m p.1).take j).foldl (fun a l => addI a l p.2) acc)).Nodup ∧ (((lefts b m p.1).take j).foldl (fun a l => addI a l p.2) acc).length ≤ i * 31 + j ∧ (∀ a o, a ≠ d → H a = some o → H' a = some o) ∧ ∃ t5, σ = [some (.ref k), some (.ref d), some (.ref f), some (.int p.1), t5]) ?_ (fun j σ H' _ e => SqL.of e.2.1) ?_ ?_⟩
    · exact ⟨s2 _ _ h1d, h2, s2 _ _ h1f, h1n, h1l, fun a o n e => s2 _ _ (h1k a o n e), t4, rfl⟩
    · rintro j x σ H3 hx ⟨h3d, h3l, h3f, h3n, h3b, h3k, t5, rfl⟩
      obtain ⟨l, rfl, hl'⟩ := map_at hx
      have hj : j < 31 := by
        have := (List.getElem?_eq_some_iff.mp hl').1
        have := hll p.1
        omega
      generalize hacc2 : ((lefts b m p.1).take j).foldl (fun a l => addI a l p.2) acc = acc2 at *
      have e2 : ((lefts b m p.1).take (j + 1)).foldl (fun a l => addI a l p.2) acc = addI acc2 l p.2 := by
        rw [take_snoc hl', List.foldl_append, hacc2]
        rfl
      refine ⟨_, rfl, f, rfl, .inl ⟨_, .inl h3f⟩, _, rfl, _, DGet.k (k := .inl l) h3f, ?_⟩
      refine ⟨_, rfl, _, rfl, d, .int p.2, rfl, .inl ⟨encI ws, .inl p.1, .inr ⟨od, h3d⟩, rfl, (enc_at hn hp).symm⟩, getI acc2 l, p.2, enc_get acc2 l, rfl, ?_⟩
      refine ⟨_, rfl, _, rfl, f, _, rfl, DPut.k (k := .inl l) h3f (by rw [enc_len]; exact small1000 (by omega)), ?_⟩
      rw [e2]
      have nfl : lp ≠ f := fun z => by
        rw [z] at h3l
        rw [h3l] at h3f
        cases h3f
      refine ⟨by rw [upd_ne nfd]; exact h3d, by rw [upd_ne nfl]; exact h3l, ?_, add_nodup h3n, ?_, fun a o n e => ?_, some (.int l), rfl⟩
      · rw [upd_same, enc_put]
        rfl
      · have := add_len acc2 l p.2
        omega
      · rw [upd_ne (ne_of_none e hf)]
        exact h3k a o n e
    · rintro σ H3 ⟨h3d, h3l, h3f, h3n, h3b, h3k, t5, rfl⟩
      rw [List.length_map, List.take_length] at h3f h3n h3b
      have e2 : bindI (lefts b m) (ws.take (i + 1)) [] = (lefts b m p.1).foldl (fun a l => addI a l p.2) acc := by
        rw [take_snoc hp, bind_snoc, hacc]
      rw [← e2] at h3f h3n h3b
      refine ⟨h3d, h3f, h3n, ?_, h3k, some (.int p.1), t5, rfl⟩
      have := hll p.1
      omega
  · rintro σ H1 ⟨h1d, h1f, h1n, h1l, h1k, t3, t4, rfl⟩
    rw [enc_len, List.take_length] at h1f
    refine ⟨h1d, _, rfl, ?_⟩
    refine q f _ hf (fun a o e => ?_) (by rw [upd_ne (fun z => nfd z.symm)]; exact h1f)
    by_cases z : a = d
    · rw [z, upd_same, ← hd, ← z]
      exact e
    · rw [upd_ne z]
      exact h1k a o z e
def sp_how_many (K : PySem.W.Frag) : Sp := fun vs H Q _ => ∃ (k : Addr) (b m n : Int) (c : Nat), vs = [.ref k, .int c, .int n] ∧ KindAt K H k b m ∧ c ≤ 1000 ∧ ∀ H', Same H H' → Q (.int (cnt b m c n)) H'
theorem ok_how_many (T : Txt K mg) : FnOk P w K mg base CX0 3 T.a_how_many T.fd_how_many ["kind", "count", "number"] (sp_how_many K) := by
  refine T.F_how_many.ok sc_how_many (fun vs H Q E h => ?_) (fun cdv A outer s H vs Q E hr h => ?_)
  · obtain ⟨k, b, m, n, c, rfl, _⟩ := h
    rfl
  obtain ⟨k, b, m, n, c, rfl, hk, hc, q⟩ := h
  refine ⟨_, (pss_cons (ps_set (i := 3) sc_how_many.nd rfl (Or.inl rfl) (pe_disp (pps_cons (pv 2) pe_int pps_nil) (by rfl) (by rfl) (fun z => by cases z) (by decide)))
      (pss_cons (ps_for PassesOwn.never rfl (pi_range1 (by rfl) T.z_range (pa_cons (pv 1) pa_nil)) (pg_name (i := 4) sc_how_many.nd rfl (Or.inl rfl)) (pss_one (ps_set (i := 3) sc_how_many.nd rfl (Or.inl rfl) (pe_call (ok_one_figure_less T) (hr.mono (by first | decide | omega)) rfl T.m_one_figure_less T.F_one_figure_less.kp T.b_one_figure_less .nil pass0 (pa_cons (pv 0) (pa_cons (pv 3) pa_nil))))))
      (pss_one (ps_ret (pe_dget2 (hu_of hr) (pv 3) pe_int pe_int ⟨rfl, rfl, rfl, rfl⟩))))), ?_⟩
  intro d hd
  walk_at "rd"
  refine ⟨upd_same, [(.inl n, .int 1)], rfl, by show 1 ≤ 15; decide, ?_⟩
  have h0 : (upd (upd H d (.dK [])) d (.dK (mergeK [] [(Sum.inl n, V.int 1)]))) d = some (.dK (encI (lessI b m 0 [(n, 1)]))) := upd_same
  have s0 : Same H (upd (upd H d (.dK [])) d (.dK (mergeK [] [(Sum.inl n, V.int 1)]))) := fun a o e => by
    rw [upd_ne (ne_of_none e hd), upd_ne (ne_of_none e hd)]
    exact e
  walk_at "rd"
  refine ⟨by omega, by omega, for_range (lo := 0) (n := (c : Int).toNat) (fun i σ H' => Same H H' ∧ ∃ dd t, H' dd = some (.dK (encI (lessI b m i [(n, 1)]))) ∧ σ = [some (.ref k), some (.int c), some (.int n), some (.ref dd), t]) ⟨s0, d, none, h0, rfl⟩ ?_ ?_⟩
  · rintro i σ H1 hi ⟨s1, dd, t, h1, rfl⟩
    walk_at "rd"
    refine ⟨k, dd, b, m, _, rfl, ⟨s1 _ _ hk.1, hk.2⟩, h1, (less_ok b m n i).1, less_len hk.2.1 hk.2.2.2 i, fun p H2 _ s2 h2 => ?_⟩
    exact ⟨s1.trans s2, p, some (.int (0 + i)), h2, rfl⟩
  · rintro σ H1 ⟨s1, dd, t, h1, rfl⟩
    rw [Int.toNat_natCast] at h1
    refine ⟨_, rfl, dd, rfl, .inl ⟨_, .inl h1⟩, _, DGet.k (k := .inl 0) h1, ?_⟩
    rw [enc_get, less_get]
    exact q _ s1
theorem sz {n : Nat} (h : n ≤ 100000) : n < sizeLine := Nat.lt_of_le_of_lt h (by decide)
def sp__law_sum (K : PySem.W.Frag) : Sp := fun vs H Q _ => ∃ (k : Addr) (b m n : Int) (c : Nat), vs = [.ref k, .int ((c : Int) + 1), .int n] ∧ KindAt K H k b m ∧ c ≤ 1000 ∧ ∀ H', Same H H' → Q (.int (cnt b m (c + 1) n)) H'
theorem ok__law_sum (T : Txt K mg) : FnOk P w K mg base CX0 4 T.a__law_sum T.fd__law_sum ["kind", "count", "number"] (sp__law_sum K) := by
  refine T.F__law_sum.ok sc__law_sum (fun vs H Q E h => ?_) (fun cdv A outer s H vs Q E hr h => ?_)
  · obtain ⟨k, b, m, n, c, rfl, _⟩ := h
    rfl
  obtain ⟨k, b, m, n, c, rfl, hk, hc, q⟩ := h
  obtain ⟨hk1, hb, hm0, hm⟩ := id hk
  refine ⟨_, (pss_cons (ps_set (i := 3) sc__law_sum.nd rfl (Or.inl rfl) pe_int)
      (pss_cons (ps_for PassesOwn.never rfl (pi_range2 (by rfl) T.z_range (pa_cons (pe_op op_sub pe_int (pe_ix ix_tup (pv 0) pe_int (fun _ _ => rfl))) (pa_cons (pe_op op_add (pe_ix ix_tup (pv 0) pe_int (fun _ _ => rfl)) pe_int) pa_nil))) (pg_name (i := 4) sc__law_sum.nd rfl (Or.inl rfl)) (pss_one (ps_if (pt_cmpR op_eq (pe_op op_mod (pe_op op_sub (pv 2) (pv 4)) (pe_ix ix_tup (pv 0) pe_int (fun _ _ => rfl))) pe_int (nomark _)) (pss_one (ps_set (i := 3) sc__law_sum.nd rfl (Or.inl rfl) (pe_op op_add (pv 3) (pe_call (ok_how_many T) (hr.mono (by first | decide | omega)) rfl T.m_how_many T.F_how_many.kp T.b_how_many .nil pass0 (pa_cons (pv 0) (pa_cons (pe_op op_sub (pv 1) pe_int) (pa_cons (pe_op op_fdiv (pe_op op_sub (pv 2) (pv 4)) (pe_ix ix_tup (pv 0) pe_int (fun _ _ => rfl))) pa_nil))))))) pss_nil)))
      (pss_one (ps_ret (pv 3))))), ?_⟩
  walk_at "rd"
  have en : (m + 1 - (0 - m)).toNat = (2 * m + 1).toNat := by omega
  refine ⟨⟨by omega, by omega, by omega, by omega⟩, for_range (lo := 0 - m) (n := (m + 1 - (0 - m)).toNat) (fun i σ H' => Same H H' ∧ ∃ t, σ = [some (.ref k), some (.int ((c : Int) + 1)), some (.int n), some (.int (((((figs m).take i).filter fun f => decide ((n - f) % b = 0)).map fun f => (n - f) / b).map (cnt b m c)).sum), t]) ⟨Same.refl H, none, rfl⟩ ?_ ?_⟩
  · rintro i σ H1 hi ⟨s1, t, rfl⟩
    rw [en] at hi
    have hf := figs_at hi
    have ef : 0 - m + (i : Int) = -m + (i : Int) := by omega
    rw [ef]
    have hk2 := s1 _ _ hk1
    walk_at "rd"
    refine ite2 (fun z => ?_) (fun z => ?_)
    · have z1 : V.int ((n - (-m + (i : Int))) % b) = V.int 0 := of_decide_eq_true z
      have z2 : (n - (-m + (i : Int))) % b = 0 := by injection z1
      walk_at "rd"
      refine ⟨⟨by omega, by omega⟩, ?_⟩
      refine ⟨k, b, m, (n - (-m + (i : Int))) / b, c, ?_, ⟨hk2, hb, hm0, hm⟩, hc, fun H2 s2 => ?_⟩
      · exact congrArg (fun t : Int => [V.ref k, V.int t, V.int ((n - (-m + (i : Int))) / b)]) (show (c : Int) + 1 - 1 = (c : Int) by omega)
      walk_at "rd"
      refine ⟨s1.trans s2, some (.int (-m + i)), ?_⟩
      rw [take_snoc hf, List.filter_append, List.map_append, List.map_append, List.sum_append, List.filter_cons, if_pos (decide_eq_true z2)]
      simp
    · have z1 := of_decide_eq_false (Bool.eq_false_iff.mpr z)
      have z2 : ¬ (n - (-m + (i : Int))) % b = 0 := fun y => z1 (by show V.int ((n - (-m + (i : Int))) % b) = V.int 0; rw [y])
      refine ⟨s1, some (.int (-m + i)), ?_⟩
      rw [take_snoc hf, List.filter_append, List.map_append, List.map_append, List.sum_append, List.filter_cons, if_neg (by rw [decide_eq_false z2]; exact Bool.false_ne_true)]
      simp
  · rintro σ H1 ⟨s1, t, rfl⟩
    walk_at "rd"
    rw [en, ← figs_len, List.take_length]
    exact q _ s1
def sp__law_great (K : PySem.W.Frag) : Sp := fun vs H Q _ => ∃ (a : Addr) (n : Nat), vs = [.ref a, .int 60] ∧ Deck H a n ∧ n ≤ 900000000 ∧ ∀ v H', Keep a H H' → Deck H' a (n + 6) → Q (.int v) H'
theorem ok__law_great (T : Txt K mg) : FnOk P w K mg base CX0 2 T.a__law_great T.fd__law_great ["deck", "figures"] (sp__law_great K) := by
  refine T.F__law_great.ok sc__law_great (fun vs H Q E h => ?_) (fun cdv A outer s H vs Q E hr h => ?_)
  · obtain ⟨a, n, rfl, _⟩ := h
    rfl
  obtain ⟨a, n, rfl, hd, hn, q⟩ := h
  refine ⟨_, (pss_cons (ps_set (i := 2) sc__law_great.nd rfl (Or.inl rfl) pe_int)
      (pss_cons (ps_for PassesOwn.never rfl (pi_range1 (by rfl) T.z_range (pa_cons (pe_call (ok__law_pick T) (hr.mono (by first | decide | omega)) rfl T.m__law_pick T.F__law_pick.kp T.b__law_pick .nil pass0 (pa_cons (pv 0) (pa_cons (pe_op op_add (pv 1) pe_int) pa_nil))) pa_nil)) (pg_name (i := 3) sc__law_great.nd rfl (Or.inl rfl)) (pss_one (ps_set (i := 2) sc__law_great.nd rfl (Or.inl rfl) (pe_op op_mul (pv 2) pe_int))))
      (pss_cons (ps_set (i := 4) sc__law_great.nd rfl (Or.inl rfl) pe_int)
      (pss_cons (ps_for PassesOwn.never rfl (pi_range1 (by rfl) T.z_range (pa_cons pe_int pa_nil)) (pg_name (i := 3) sc__law_great.nd rfl (Or.inl rfl)) (pss_one (ps_set (i := 4) sc__law_great.nd rfl (Or.inl rfl) (pe_op op_add (pe_op op_mul (pv 4) (pe_op op_pow pe_int pe_int)) (pe_call (ok__law_pick T) (hr.mono (by first | decide | omega)) rfl T.m__law_pick T.F__law_pick.kp T.b__law_pick .nil pass0 (pa_cons (pv 0) (pa_cons (pe_op op_pow pe_int pe_int) pa_nil)))))))
      (pss_one (ps_ret (pe_op op_mod (pv 4) (pv 2)))))))), ?_⟩
  walk_at "rd"
  refine ⟨a, 61, n, rfl, hd, by omega, by decide, lt_pow (by decide) (by decide), fun v1 H1 v10 v11 k1 d1 => ?_⟩
  walk_at "rd"
  refine ⟨by omega, by omega, for_range (lo := 0) (n := v1.toNat) (fun i σ H' => H' = H1 ∧ ∃ z t, 0 < z ∧ σ = [some (.ref a), some (.int 60), some (.int z), t, none]) ⟨rfl, 1, none, by decide, rfl⟩ ?_ ?_⟩
  · rintro i σ H2 hi ⟨rfl, z, t, hz, rfl⟩
    walk_at "rd"
    exact ⟨rfl, z * 10, some (.int (0 + i)), by omega, rfl⟩
  · rintro σ H2 ⟨rfl, z, t, hz, rfl⟩
    walk_at "rd"
    refine ⟨by decide, by decide, for_range (lo := 0) (n := 5) (fun i σ H' => Keep a H2 H' ∧ Deck H' a (n + 1 + i) ∧ ∃ y t, σ = [some (.ref a), some (.int 60), some (.int z), t, some (.int y)]) ⟨Keep.refl _ _, d1, 0, t, rfl⟩ ?_ ?_⟩
    · rintro i σ H3 hi ⟨k3, d3, y, t, rfl⟩
      walk_at "rd"
      refine ⟨a, 10 ^ (12 : Int).toNat, _, rfl, d3, by omega, by decide +kernel, lt_pow (by decide +kernel) (by decide +kernel), fun v4 H4 _ _ k4 d4 => ?_⟩
      walk_at "rd"
      exact ⟨k3.trans k4, d4, _, some (.int (0 + i)), rfl⟩
    · rintro σ H3 ⟨k3, d3, y, t, rfl⟩
      walk_at "rd"
      exact q _ _ (k1.trans k3) d3
theorem heads_at {b m k : Int} {j : Nat} (h : j < (2 * m + 1).toNat) : (heads b m k)[j]? = some (k * b + (-m + (j : Int))) := by
  unfold heads
  rw [List.getElem?_map, figs_at h]
  rfl
theorem heads_len (b m k : Int) : (heads b m k).length = (2 * m + 1).toNat := by
  unfold heads
  rw [List.length_map, figs_len]
def sp__law_counts (K : PySem.W.Frag) : Sp := fun vs H Q _ => ∃ (k : Addr) (b m : Int) (c : Nat), vs = [.ref k, .int c] ∧ KindAt K H k b m ∧ 1 ≤ m ∧ ((2 * m + 1).toNat) ^ c ≤ 1500 ∧
  ∀ p H', H p = none → Same H H' → H' p = some (.dK (encI (growI b m c))) → Q (.ref p) H'
theorem ok__law_counts (T : Txt K mg) : FnOk P w K mg base CX0 1 T.a__law_counts T.fd__law_counts ["kind", "count"] (sp__law_counts K) := by
  refine T.F__law_counts.ok sc__law_counts (fun vs H Q E h => ?_) (fun cdv A outer s H vs Q E hr h => ?_)
  · obtain ⟨k, b, m, c, rfl, _⟩ := h
    rfl
  obtain ⟨k, b, m, c, rfl, hk, hm1, hcm, q⟩ := h
  obtain ⟨hk1, hb, hm0, hm⟩ := id hk
  have w0 : 0 < (2 * m + 1).toNat := by omega
  have hc1 : c ≤ 1500 := by
    have := Nat.lt_pow_self (a := (2 * m + 1).toNat) (n := c) (by omega)
    omega
  refine ⟨_, (pss_cons (ps_set (i := 2) sc__law_counts.nd rfl (Or.inl rfl) (pe_disp (pps_cons pe_int pe_int pps_nil) (by rfl) (by rfl) (fun z => by cases z) (by decide)))
      (pss_cons (ps_for PassesOwn.never rfl (pi_range1 (by rfl) T.z_range (pa_cons (pv 1) pa_nil)) (pg_name (i := 3) sc__law_counts.nd rfl (Or.inl rfl)) (pss_cons (ps_set (i := 4) sc__law_counts.nd rfl (Or.inl rfl) pe_dnewK)
      (pss_cons (ps_lock (ps_for PassesOwn.never rfl (pi_keys (pv 2)) (pg_name (i := 5) sc__law_counts.nd rfl (Or.inl rfl)) (pss_one (ps_for PassesOwn.never rfl (pi_range2 (by rfl) T.z_range (pa_cons (pe_op op_sub pe_int (pe_ix ix_tup (pv 0) pe_int (fun _ _ => rfl))) (pa_cons (pe_op op_add (pe_ix ix_tup (pv 0) pe_int (fun _ _ => rfl)) pe_int) pa_nil))) (pg_name (i := 6) sc__law_counts.nd rfl (Or.inl rfl)) (pss_cons (ps_set (i := 7) sc__law_counts.nd rfl (Or.inl rfl) (pe_op op_add (pe_op op_mul (pv 5) (pe_ix ix_tup (pv 0) pe_int (fun _ _ => rfl))) (pv 6)))
      (pss_one (ps_dput (hu_of hr) (pv 4) (pv 7) (pe_op op_add (pe_dget2 (hu_of hr) (pv 4) (pv 7) pe_int ⟨rfl, rfl, rfl, rfl⟩) (pe_dget (hu_of hr) (pv 2) (pv 5) (fun _ _ => rfl))) rfl)))))))
      (pss_one (ps_set (i := 2) sc__law_counts.nd rfl (Or.inl rfl) (pv 4))))))
      (pss_one (ps_ret (pv 2))))), ?_⟩
  intro d hd
  refine ⟨upd_same, [(.inl 0, .int 1)], rfl, by decide, ?_⟩
  have h0 : (upd (upd H d (.dK [])) d (.dK (mergeK [] [(Sum.inl 0, V.int 1)]))) d = some (.dK (encI (growI b m 0))) := upd_same
  have s0 : Same H (upd (upd H d (.dK [])) d (.dK (mergeK [] [(Sum.inl 0, V.int 1)]))) := fun a o e => by
    rw [upd_ne (ne_of_none e hd), upd_ne (ne_of_none e hd)]
    exact e
  walk_at "rd"
  refine ⟨by omega, by omega, for_range (lo := 0) (n := (c : Int).toNat) (fun i σ H' => Same H H' ∧ ∃ dd t3 t4 t5 t6 t7, H dd = none ∧ H' dd = some (.dK (encI (growI b m i))) ∧ σ = [some (.ref k), some (.int c), some (.ref dd), t3, t4, t5, t6, t7]) ⟨s0, d, none, none, none, none, none, hd, h0, rfl⟩ ?_ ?_⟩
  · rintro i σ H0 hi ⟨s0, dd, t3, t4, t5, t6, t7, hdd0, hdd, rfl⟩
    have ewl : (growI b m i).length ≤ 1500 := by
      have z1 := grow_len (b := b) (m := m) i
      have z2 : (2 * m + 1).toNat ^ i ≤ (2 * m + 1).toNat ^ c := Nat.pow_le_pow_right w0 (by omega)
      omega
    have hn := (grow_ok (b := b) m (by omega) i).1
    have hk0 := s0 _ _ hk1
    generalize hws : growI b m i = ws at *
    intro f hf
    have nfd : dd ≠ f := ne_of_none hdd hf
    have hkd : k ≠ dd := fun z => by
      rw [z, hdd] at hk0
      cases hk0
    have hkf : k ≠ f := ne_of_none hk0 hf
    refine ⟨dd, .dK (encI ws), by rw [upd_ne nfd]; exact hdd, trivial, fun od => ?_⟩
    walk_at "rd"
    refine ⟨dd, od, rfl, .inl ⟨encI ws, upd_same, ?_⟩⟩
    refine for_keys (fun i2 σ H' => H' dd = some (.frz od (.dK (encI ws))) ∧ H' f = some (.dK (encI (bindI (heads b m) (ws.take i2) []))) ∧ (keysI (bindI (heads b m) (ws.take i2) [])).Nodup ∧ (bindI (heads b m) (ws.take i2) []).length ≤ i2 * 31 ∧ (∀ a o, a ≠ dd → H0 a = some o → H' a = some o) ∧ ∃ t5 t6 t7, σ = [some (.ref k), some (.int c), some (.ref dd), some (.int (0 + i)), some (.ref f), t5, t6, t7]) ?_ (fun i σ H' _ e => e.1) ?_ ?_
    · refine ⟨upd_same, by rw [upd_ne (fun z => nfd z.symm), upd_same]; rfl, by simp [bindI, keysI], Nat.le_refl _, fun a o n e => ?_, t5, t6, t7, rfl⟩
      rw [upd_ne n, upd_ne (ne_of_none e hf)]
      exact e
    · rintro i2 key v σ H1 hi2 ⟨h1d, h1f, h1n, h1l, h1k, t5, t6, t7, rfl⟩
      obtain ⟨p, hp, rfl, rfl⟩ : ∃ p : Int × Int, ws[i2]? = some p ∧ key = Sum.inl p.1 ∧ v = V.int p.2 := by
        unfold encI at hi2
        rw [List.getElem?_map] at hi2
        cases e : ws[i2]? with
        | none => rw [e] at hi2; cases hi2
        | some p =>
          rw [e] at hi2
          have e2 := Option.some.inj hi2
          exact ⟨p, rfl, (congrArg Prod.fst e2).symm, (congrArg Prod.snd e2).symm⟩
      have hi3 : i2 < 1500 := by
        have := (List.getElem?_eq_some_iff.mp hp).1
        omega
      have hk2 := h1k _ _ hkd hk0
      generalize hacc : bindI (heads b m) (ws.take i2) [] = acc at *
      have en : (m + 1 - (0 - m)).toNat = (2 * m + 1).toNat := by omega
      walk_at "rd"
      refine ⟨⟨by omega, by omega, by omega, by omega⟩, for_range (lo := 0 - m) (n := (m + 1 - (0 - m)).toNat) (fun j σ H' => H' dd = some (.frz od (.dK (encI ws))) ∧ H' f = some (.dK (encI (((heads b m p.1).take j).foldl (fun a l => addI a l p.2) acc))) ∧ (keysI (((heads b m p.1).take j).foldl (fun a l => addI a l p.2) acc)).Nodup ∧ (((heads b m p.1).take j).foldl (fun a l => addI a l p.2) acc).length ≤ i2 * 31 + j ∧ (∀ a o, a ≠ dd → H0 a = some o → H' a = some o) ∧ ∃ t6 t7, σ = [some (.ref k), some (.int c), some (.ref dd), some (.int (0 + i)), some (.ref f), some (.int p.1), t6, t7]) ?_ ?_ ?_⟩
      · exact ⟨h1d, h1f, h1n, h1l, h1k, t6, t7, rfl⟩
      · rintro j σ H3 hj ⟨h3d, h3f, h3n, h3b, h3k, t6, t7, rfl⟩
        rw [en] at hj
        have hl' := heads_at (b := b) (k := p.1) hj
        have ef : 0 - m + (j : Int) = -m + (j : Int) := by omega
        rw [ef]
        have hk3 := h3k _ _ hkd hk0
        generalize hacc2 : ((heads b m p.1).take j).foldl (fun a l => addI a l p.2) acc = acc2 at *
        have e2 : ((heads b m p.1).take (j + 1)).foldl (fun a l => addI a l p.2) acc = addI acc2 (p.1 * b + (-m + (j : Int))) p.2 := by
          rw [take_snoc hl', List.foldl_append, hacc2]
          rfl
        walk_at "rd"
        refine ⟨.inr ⟨by omega, by omega⟩, ?_⟩
        walk_at "rd"
        refine ⟨.inl ⟨_, .inl h3f⟩, _, rfl, _, DGet.k (k := .inl (p.1 * b + (-m + (j : Int)))) h3f, ?_⟩
        refine ⟨_, rfl, _, rfl, dd, .int p.2, rfl, .inl ⟨encI ws, .inl p.1, .inr ⟨od, h3d⟩, rfl, (enc_at hn hp).symm⟩, getI acc2 (p.1 * b + (-m + (j : Int))), p.2, enc_get acc2 (p.1 * b + (-m + (j : Int))), rfl, ?_⟩
        refine ⟨_, rfl, _, rfl, f, _, rfl, DPut.k (k := .inl (p.1 * b + (-m + (j : Int)))) h3f (by rw [enc_len]; exact sz (by omega)), ?_⟩
        rw [e2]
        refine ⟨by rw [upd_ne nfd]; exact h3d, ?_, add_nodup h3n, ?_, fun a o n e => ?_, some (.int (-m + j)), some (.int (p.1 * b + (-m + (j : Int)))), rfl⟩
        · rw [upd_same, enc_put]
          rfl
        · have := add_len acc2 (p.1 * b + (-m + (j : Int))) p.2
          omega
        · rw [upd_ne (ne_of_none e hf)]
          exact h3k a o n e
      · rintro σ H3 ⟨h3d, h3f, h3n, h3b, h3k, t6, t7, rfl⟩
        rw [en, ← heads_len b m p.1, List.take_length] at h3f h3n h3b
        have e2 : bindI (heads b m) (ws.take (i2 + 1)) [] = (heads b m p.1).foldl (fun a l => addI a l p.2) acc := by
          rw [take_snoc hp, bind_snoc, hacc]
        rw [← e2] at h3f h3n h3b
        refine ⟨h3d, h3f, h3n, ?_, h3k, some (.int p.1), t6, t7, rfl⟩
        rw [heads_len] at h3b
        omega
    · rintro σ H1 ⟨h1d, h1f, h1n, h1l, h1k, t5, t6, t7, rfl⟩
      rw [enc_len, List.take_length] at h1f
      refine ⟨h1d, _, rfl, fun a o e => ?_, f, some (.int (0 + i)), some (.ref f), t5, t6, t7, s0.free hf, ?_, rfl⟩
      · have e1 := s0 a o e
        by_cases z : a = dd
        · rw [z] at e
          rw [e] at hdd0
          cases hdd0
        · rw [upd_ne z]
          exact h1k a o z e1
      · rw [upd_ne (fun z => nfd z.symm), h1f, ← hws]
        rfl
  · rintro σ H1 ⟨s1, dd, t3, t4, t5, t6, t7, hdd0, hdd, rfl⟩
    rw [Int.toNat_natCast] at hdd
    walk_at "rd"
    exact q dd H1 hdd0 s1 hdd
theorem add_pos (ws : Tally) (k x : Int) : 0 < (addI ws k x).length := by
  unfold addI putI
  by_cases z : (ws.any fun p => decide (p.1 = k)) = true
  · rw [if_pos z, List.length_map]
    cases ws with
    | nil => cases z
    | cons p r => simp
  · rw [if_neg z, List.length_append]
    simp
theorem adds_pos (x : Int) : ∀ (ls : List Int) (acc : Tally), 0 < acc.length ∨ 0 < ls.length → 0 < (ls.foldl (fun a l => addI a l x) acc).length
  | [], acc, h => by
    rcases h with h | h
    · exact h
    · cases h
  | l :: r, acc, _ => adds_pos x r (addI acc l x) (.inl (add_pos acc l x))
theorem bind_pos (h : Int → List Int) (hp : ∀ k, 0 < (h k).length) : ∀ (ws acc : Tally), 0 < acc.length ∨ 0 < ws.length → 0 < (bindI h ws acc).length
  | [], acc, e => by
    rcases e with e | e
    · exact e
    · cases e
  | p :: r, acc, _ => bind_pos h hp r _ (.inl (adds_pos p.2 (h p.1) acc (.inr (hp p.1))))
theorem grow_pos {b m : Int} (hm : 0 ≤ m) : ∀ c : Nat, 0 < (growI b m c).length
  | 0 => Nat.zero_lt_one
  | c + 1 => bind_pos (heads b m) (fun k => by rw [heads_len]; omega) _ _ (.inr (grow_pos hm c))
theorem pow_cnt {w c : Nat} (hw : 3 ≤ w) (h : w ^ c ≤ 1500) : c ≤ 6 := by
  rcases Nat.lt_or_ge 6 c with z | z
  · have h1 : 3 ^ 7 ≤ 3 ^ c := Nat.pow_le_pow_right (by decide) z
    have h2 : 3 ^ c ≤ w ^ c := Nat.pow_le_pow_left hw c
    have h3 : (3 : Nat) ^ 7 = 2187 := by decide
    omega
  · exact z
theorem KindAt.same {H H' : Hp} {k : Addr} {b m : Int} (h : KindAt K H k b m) (s : Same H H') : KindAt K H' k b m := ⟨s _ _ h.1, h.2⟩
theorem KindAt.keep {H H' : Hp} {k a : Addr} {b m : Int} {n : Nat} (h : KindAt K H k b m) (d : Deck H a n) (s : Keep a H H') : KindAt K H' k b m := ⟨s _ _ (fun z => by
  obtain ⟨_, _, _, e, _⟩ := d
  have := h.1
  rw [z, e] at this
  cases this) h.1, h.2⟩
def sp_law (K : PySem.W.Frag) : Sp := fun vs H Q _ => ∃ (a : Addr) (ns : List Int), vs = [.ref a] ∧ SqL K H a (ns.map V.int) ∧ ns.length ≤ 63 ∧ (∀ z ∈ ns, Builtin.Int.intBits z ≤ 1048576) ∧ ∀ H', Q (.bl true) H'
theorem first_cell (ns : List Int) : ∃ c0 : Int, atI (ns.map V.int ++ [V.int 0]) 0 = some (.int c0) := by
  cases ns with
  | nil => exact ⟨0, rfl⟩
  | cons x r => exact ⟨x, atI_nat (j := 0) rfl⟩
theorem ok_law (T : Txt K mg) : FnOk P w K mg base CX0 5 T.a_law T.fd_law ["script"] (sp_law K) := by
  refine T.F_law.ok sc_law (fun vs H Q E h => ?_) (fun cdv A outer s H vs Q E hr h => ?_)
  · obtain ⟨a, ns, rfl, _⟩ := h
    rfl
  obtain ⟨sa, ns, rfl, hS, h63, hbits, q⟩ := h
  refine ⟨_, (pss_cons (ps_set (i := 1) sc_law.nd rfl (Or.inl rfl) (pe_call (ok__law_deck T) (hr.mono (by first | decide | omega)) rfl T.m__law_deck T.F__law_deck.kp T.b__law_deck .nil pass0 (pa_cons (pe_ix ix_list (pe_op op_catR (pv 0) (pe_lst (pa_cons pe_int pa_nil))) pe_int (fun _ _ => rfl)) (pa_cons pe_int pa_nil))))
      (pss_cons (ps_set (i := 2) sc_law.nd rfl (Or.inl rfl) (pe_call (ok__law_kind T) (hr.mono (by first | decide | omega)) rfl T.m__law_kind T.F__law_kind.kp T.b__law_kind .nil pass0 (pa_cons (pv 1) pa_nil)))
      (pss_cons (ps_set (i := 3) sc_law.nd rfl (Or.inl rfl) pe_int)
      (pss_cons (ps_set (i := 4) sc_law.nd rfl (Or.inl rfl) pe_int)
      (pss_cons (ps_set (i := 5) sc_law.nd rfl (Or.inl rfl) (pe_op op_add pe_int (pe_call (ok__law_pick T) (hr.mono (by first | decide | omega)) rfl T.m__law_pick T.F__law_pick.kp T.b__law_pick .nil pass0 (pa_cons (pv 1) (pa_cons pe_int pa_nil)))))
      (pss_cons (ps_while PassesOwn.never (pt_cmpR op_le (pe_op op_mul (pv 4) (pe_op op_add (pe_op op_mul pe_int (pe_ix ix_tup (pv 2) pe_int (fun _ _ => rfl))) pe_int)) (pv 5) (nomark _)) (pss_cons (ps_set (i := 3) sc_law.nd rfl (Or.inl rfl) (pe_op op_add (pv 3) pe_int))
      (pss_one (ps_set (i := 4) sc_law.nd rfl (Or.inl rfl) (pe_op op_mul (pv 4) (pe_op op_add (pe_op op_mul pe_int (pe_ix ix_tup (pv 2) pe_int (fun _ _ => rfl))) pe_int))))))
      (pss_cons (ps_set (i := 6) sc_law.nd rfl (Or.inl rfl) (pe_call (ok__law_counts T) (hr.mono (by first | decide | omega)) rfl T.m__law_counts T.F__law_counts.kp T.b__law_counts .nil pass0 (pa_cons (pv 2) (pa_cons (pv 3) pa_nil))))
      (pss_cons (ps_set (i := 7) sc_law.nd rfl (Or.inl rfl) (pe_callB (cr_maxK rfl) (by rfl) T.z_max (by decide +kernel) (pa_cons (pv 6) pa_nil)))
      (pss_cons (ps_for PassesOwn.never rfl (pi_range2 (by rfl) T.z_range (pa_cons (pe_op op_sub (pe_op op_sub pe_int (pv 7)) pe_int) (pa_cons (pe_op op_add (pv 7) pe_int) pa_nil))) (pg_name (i := 8) sc_law.nd rfl (Or.inl rfl)) (pss_cons (ps_set (i := 9) sc_law.nd rfl (Or.inl rfl) (pe_call (ok_how_many T) (hr.mono (by first | decide | omega)) rfl T.m_how_many T.F_how_many.kp T.b_how_many .nil pass0 (pa_cons (pv 2) (pa_cons (pv 3) (pa_cons (pv 8) pa_nil)))))
      (pss_one (ps_if (PW.pt (pw_or (pt_not (pt_val (pe_call (ok__law_whole T) (hr.mono (by first | decide | omega)) rfl T.m__law_whole T.F__law_whole.kp T.b__law_whole .nil pass0 (pa_cons (pv 9) pa_nil)))) (pw_or1 (pt_cmpR op_ne (pv 9) (pe_dget2 (hu_of hr) (pv 6) (pv 8) pe_int ⟨rfl, rfl, rfl, rfl⟩) (nomark _))))) (pss_one (ps_ret pe_bl)) pss_nil))))
      (pss_cons (ps_for PassesOwn.never rfl (pi_list (pe_op op_catR (pe_slice sl_list (pv 0) (po_some pe_int) (po_some pe_int)) (pe_lst (pa_cons pe_int pa_nil)))) (pg_name (i := 10) sc_law.nd rfl (Or.inl rfl)) (pss_cons (ps_set (i := 1) sc_law.nd rfl (Or.inl rfl) (pe_call (ok__law_deck T) (hr.mono (by first | decide | omega)) rfl T.m__law_deck T.F__law_deck.kp T.b__law_deck .nil pass0 (pa_cons (pv 10) (pa_cons pe_int pa_nil))))
      (pss_cons (ps_set (i := 2) sc_law.nd rfl (Or.inl rfl) (pe_call (ok__law_kind T) (hr.mono (by first | decide | omega)) rfl T.m__law_kind T.F__law_kind.kp T.b__law_kind .nil pass0 (pa_cons (pv 1) pa_nil)))
      (pss_cons (ps_set (i := 3) sc_law.nd rfl (Or.inl rfl) (pe_ix ix_list (pe_lst (pa_cons pe_int (pa_cons (pe_op op_add pe_int (pe_call (ok__law_pick T) (hr.mono (by first | decide | omega)) rfl T.m__law_pick T.F__law_pick.kp T.b__law_pick .nil pass0 (pa_cons (pv 1) (pa_cons pe_int pa_nil)))) pa_nil))) (pe_call (ok__law_pick T) (hr.mono (by first | decide | omega)) rfl T.m__law_pick T.F__law_pick.kp T.b__law_pick .nil pass0 (pa_cons (pv 1) (pa_cons pe_int pa_nil))) (fun _ _ => rfl)))
      (pss_cons (ps_set (i := 8) sc_law.nd rfl (Or.inl rfl) (pe_op op_mul (pe_call (ok__law_great T) (hr.mono (by first | decide | omega)) rfl T.m__law_great T.F__law_great.kp T.b__law_great .nil pass0 (pa_cons (pv 1) (pa_cons pe_int pa_nil))) (pe_ix ix_list (pe_lst (pa_cons pe_int (pa_cons (pe_un un_neg pe_int) pa_nil))) (pe_call (ok__law_pick T) (hr.mono (by first | decide | omega)) rfl T.m__law_pick T.F__law_pick.kp T.b__law_pick .nil pass0 (pa_cons (pv 1) (pa_cons pe_int pa_nil))) (fun _ _ => rfl))))
      (pss_cons (ps_set (i := 11) sc_law.nd rfl (Or.inl rfl) pe_int)
      (pss_cons (ps_for PassesOwn.never rfl (pi_range1 (by rfl) T.z_range (pa_cons (pe_call (ok__law_pick T) (hr.mono (by first | decide | omega)) rfl T.m__law_pick T.F__law_pick.kp T.b__law_pick .nil pass0 (pa_cons (pv 1) (pa_cons (pe_op op_add (pv 3) pe_int) pa_nil))) pa_nil)) (pg_name (i := 12) sc_law.nd rfl (Or.inl rfl)) (pss_one (ps_set (i := 11) sc_law.nd rfl (Or.inl rfl) (pe_op op_mul (pv 11) (pe_ix ix_tup (pv 2) pe_int (fun _ _ => rfl))))))
      (pss_cons (ps_set (i := 8) sc_law.nd rfl (Or.inl rfl) (pe_ix ix_list (pe_lst (pa_cons (pv 8) (pa_cons (pe_op op_mod (pv 8) (pv 11)) (pa_cons (pe_op op_sub pe_int (pe_op op_mod (pv 8) (pv 11))) pa_nil)))) (pe_call (ok__law_pick T) (hr.mono (by first | decide | omega)) rfl T.m__law_pick T.F__law_pick.kp T.b__law_pick .nil pass0 (pa_cons (pv 1) (pa_cons pe_int pa_nil))) (fun _ _ => rfl)))
      (pss_cons (ps_set (i := 9) sc_law.nd rfl (Or.inl rfl) (pe_call (ok_how_many T) (hr.mono (by first | decide | omega)) rfl T.m_how_many T.F_how_many.kp T.b_how_many .nil pass0 (pa_cons (pv 2) (pa_cons (pv 3) (pa_cons (pv 8) pa_nil)))))
      (pss_cons (ps_if (PW.pt (pw_or (pt_not (pt_val (pe_call (ok__law_whole T) (hr.mono (by first | decide | omega)) rfl T.m__law_whole T.F__law_whole.kp T.b__law_whole .nil pass0 (pa_cons (pv 9) pa_nil)))) (pw_or1 (pt_cmpR op_ne (pv 9) (pe_call (ok__law_sum T) (hr.mono (by first | decide | omega)) rfl T.m__law_sum T.F__law_sum.kp T.b__law_sum .nil pass0 (pa_cons (pv 2) (pa_cons (pv 3) (pa_cons (pv 8) pa_nil)))) (nomark _))))) (pss_one (ps_ret pe_bl)) pss_nil)
      (pss_one (ps_if (pt_cmpR op_ne (pe_call (ok_how_many T) (hr.mono (by first | decide | omega)) rfl T.m_how_many T.F_how_many.kp T.b_how_many .nil pass0 (pa_cons (pv 2) (pa_cons (pv 3) (pa_cons (pe_op op_sub pe_int (pv 8)) pa_nil)))) (pv 9) (nomark _)) (pss_one (ps_ret pe_bl)) pss_nil))))))))))))
      (pss_one (ps_ret (pe_and (pe_cmpR op_eq (pe_call (ok_how_many T) (hr.mono (by first | decide | omega)) rfl T.m_how_many T.F_how_many.kp T.b_how_many .nil pass0 (pa_cons (pv 2) (pa_cons pe_int (pa_cons pe_int pa_nil)))) pe_int (nomark _)) (pe_one (pe_cmpR op_eq (pe_call (ok_how_many T) (hr.mono (by first | decide | omega)) rfl T.m_how_many T.F_how_many.kp T.b_how_many .nil pass0 (pa_cons (pv 2) (pa_cons pe_int (pa_cons (pe_op op_add pe_int (pe_call (ok__law_pick T) (hr.mono (by first | decide | omega)) rfl T.m__law_pick T.F__law_pick.kp T.b__law_pick .nil pass0 (pa_cons (pv 1) (pa_cons pe_int pa_nil)))) pa_nil)))) pe_int (nomark _)))))))))))))))), ?_⟩
  walk_at "rd"
  refine ⟨by show 1 ≤ sizeLine; decide, fun z1 hz1 => ?_⟩
  have sz1 := same_new hz1 (.lst [.int 0])
  refine ⟨sa, z1, _, _, rfl, rfl, sz1.seq hS, SqL.of upd_same, ?_, fun z2 hz2 => ?_⟩
  · rw [List.length_map]
    exact small1000 (by show ns.length + 1 ≤ 1000; omega) |> Nat.le_of_lt
  have sz2 := same_new hz2 (.lst (ns.map V.int ++ [.int 0]))
  obtain ⟨c0, hc0⟩ := first_cell ns
  refine ⟨z2, _, 0, _, rfl, rfl, SqL.of upd_same, hc0, ?_⟩
  refine ⟨c0, 0, 0, rfl, Int.le_refl 0, Int.le_refl 0, fun a H1 ha s1 d1 => ?_⟩
  have hS1 := s1.seq (sz2.seq (sz1.seq hS))
  have nsa : ∀ {H' : Hp}, Keep a H1 H' → SqL K H' sa (ns.map V.int) := fun {H'} k => by
    rcases hS with (h | ⟨o, h⟩) | h
    · have n : sa ≠ a := ne_of_none (sz2 _ _ (sz1 _ _ h)) ha
      exact .inl (.inl (k _ _ n (s1 _ _ (sz2 _ _ (sz1 _ _ h)))))
    · have n : sa ≠ a := ne_of_none (sz2 _ _ (sz1 _ _ h)) ha
      exact .inl (.inr ⟨o, k _ _ n (s1 _ _ (sz2 _ _ (sz1 _ _ h)))⟩)
    · exact .inr h
  walk_at "rd"
  refine ⟨a, 0, rfl, d1, by omega, fun kp b m H2 k2 d2 hk hb hmb hmm => ?_⟩
  walk_at "rd"
  refine ⟨a, 1500, _, rfl, d2, by omega, by decide, lt_pow (by decide) (by decide), fun v3 H3 v30 v31 k3 d3 => ?_⟩
  have kk3 := k2.trans k3
  have hK2 : KindAt K H2 kp b m := ⟨hk, hb, by omega, hmm⟩
  have hK3 := hK2.keep d2 k3
  have hk3 := hK3.1
  have hS3 := nsa kk3
  have w3 : 3 ≤ (2 * m + 1).toNat := by omega
  walk_at "rd"
  refine ⟨fun M σ H' => H' = H3 ∧ ∃ c : Nat, (2 * m + 1).toNat ^ c ≤ 1500 ∧ M + (2 * m + 1).toNat ^ c = 1500 ∧ σ = [some (.ref sa), some (.ref a), some (.ref kp), some (.int c), some (.int (((2 * m + 1).toNat ^ c : Nat) : Int)), some (.int (1 + v3)), none, none, none, none, none, none, none], ⟨1499, rfl, 0, by rw [Nat.pow_zero]; decide, by rw [Nat.pow_zero], by rw [Nat.pow_zero]; rfl⟩, ?_⟩
  rintro M σ H4 ⟨rfl, c, hc, hM, rfl⟩
  have ew : ((2 * m + 1).toNat : Int) = 2 * m + 1 := by omega
  have pw : 0 < (2 * m + 1).toNat ^ c := Nat.pow_pos (by omega)
  have ep : (((2 * m + 1).toNat ^ c : Nat) : Int) * (2 * m + 1) = (((2 * m + 1).toNat ^ (c + 1) : Nat) : Int) := by
    rw [Nat.pow_succ, Int.natCast_mul, ew]
  generalize hR : (2 * m + 1).toNat ^ c = R at *
  walk_at "rd"
  refine ⟨.inr ⟨by omega, by omega⟩, ?_⟩
  walk_at "rd"
  rw [ep]
  refine ite2 (fun z => ?_) (fun z => ?_)
  · have z1 : (((2 * m + 1).toNat ^ (c + 1) : Nat) : Int) ≤ 1 + v3 := of_decide_eq_true z
    refine ⟨fun σ H' => H' = H4 ∧ σ = [some (.ref sa), some (.ref a), some (.ref kp), some (.int ((c + 1 : Nat) : Int)), some (.int (((2 * m + 1).toNat ^ (c + 1) : Nat) : Int)), some (.int (1 + v3)), none, none, none, none, none, none, none], ?_, ?_⟩
    · rintro σ H5 ⟨rfl, rfl⟩
      have lt : R < (2 * m + 1).toNat ^ (c + 1) := by
        rw [Nat.pow_succ, hR]
        have := Nat.mul_le_mul_left R w3
        omega
      exact ⟨1500 - (2 * m + 1).toNat ^ (c + 1), by omega, rfl, c + 1, by omega, by omega, rfl⟩
    · walk_at "rd"
      refine ⟨.inr ⟨by omega, by omega⟩, rfl, ?_⟩
      rw [← ep]
      rfl
  · walk_at "rd"
    refine ⟨kp, b, m, c, rfl, hK3, by omega, by omega, fun cd H5 _ s5 hcd => ?_⟩
    have hS5 := s5.seq hS3
    have hK5 := hK3.same s5
    have d5 := d3.same s5
    walk_at "rd"
    refine ⟨cd, _, rfl, hcd, grow_pos (by omega) c, fun rch hrch => ?_⟩
    have c6 : c ≤ 6 := pow_cnt w3 (by omega)
    have rb := grow_keys hb (by omega) hmm c rch hrch
    have p17 : (17 : Int) ^ c ≤ 24137569 := by
      have : (17 : Nat) ^ c ≤ 17 ^ 6 := Nat.pow_le_pow_right (by decide) c6
      have e : ((17 ^ c : Nat) : Int) = (17 : Int) ^ c := by rw [Int.natCast_pow]; rfl
      rw [← e]
      have e6 : (17 : Nat) ^ 6 = 24137569 := by decide
      omega
    walk_at "rd"
    refine ⟨⟨by omega, by omega, by omega, by omega⟩, for_range (lo := 0 - rch - 3) (n := _) (fun i σ H' => Same H5 H' ∧ ∃ t8 t9, σ = [some (.ref sa), some (.ref a), some (.ref kp), some (.int c), some (.int R), some (.int (1 + v3)), some (.ref cd), some (.int rch), t8, t9, none, none, none]) ⟨Same.refl _, none, none, rfl⟩ ?_ ?_⟩
    · rintro i σ H6 hi ⟨s6, t8, t9, rfl⟩
      walk_at "rd"
      refine ⟨kp, b, m, _, c, rfl, hK5.same s6, by omega, fun H7 s7 => ?_⟩
      have hcd7 := s7 _ _ (s6 _ _ hcd)
      walk_at "rd"
      refine ⟨fun _ => True, _, rfl, .int _, ?_⟩
      walk_at "rd"
      refine ⟨.inl ⟨_, .inl hcd7⟩, _, rfl, _, DGet.k (k := .inl (0 - rch - 3 + (i : Int))) hcd7, ?_⟩
      rw [enc_get, grow_get m (by omega)]
      refine ⟨rfl, _, rfl, ?_⟩
      rw [decide_eq_true rfl]
      refine iteF ?_
      exact ⟨s6.trans s7, some (.int (0 - rch - 3 + i)), some (.int (cnt b m c (0 - rch - 3 + i))), rfl⟩
    · rintro σ H6 ⟨s6, t8, t9, rfl⟩
      have hS6 := s6.seq hS5
      walk_at "rd"
      refine ⟨sa, _, rfl, hS6, fun p1 hp1 => ?_⟩
      obtain ⟨cs, hcs⟩ : ∃ cs : List Int, cutV (ns.map V.int) (some 1) (some 7) = cs.map V.int := ⟨(ns.drop (HT.sIx (ns.map V.int).length 0 (some 1))).take (HT.sIx (ns.map V.int).length (ns.map V.int).length (some 7) - HT.sIx (ns.map V.int).length 0 (some 1)), by
        unfold cutV
        rw [List.map_take, List.map_drop]⟩
      have hcl : cs.length ≤ 63 := by
        have e1 := cutV_length (ns.map V.int) (some 1) (some 7)
        rw [hcs, List.length_map, List.length_map] at e1
        omega
      rw [hcs]
      refine ⟨by show 1 ≤ sizeLine; decide, fun p2 hp2 => ?_⟩
      have sp1 := same_new hp1 (.lst (cs.map V.int))
      have sp2 := same_new hp2 (.lst [.int 0])
      refine ⟨p1, p2, cs.map V.int, [.int 0], rfl, rfl, SqL.of (sp2 _ _ upd_same), SqL.of upd_same, ?_, fun p3 hp3 => ?_⟩
      · rw [List.length_map]
        exact Nat.le_of_lt (small1000 (by show cs.length + 1 ≤ 1000; omega))
      have sp3 := same_new hp3 (.lst (cs.map V.int ++ [.int 0]))
      have e3 : (cs.map V.int ++ [V.int 0]) = (cs ++ [0]).map V.int := by rw [List.map_append]; rfl
      have s7 := s6.trans (sp1.trans (sp2.trans sp3))
      have h7 : (upd (upd (upd H6 p1 (.lst (cs.map V.int))) p2 (.lst [.int 0])) p3 (.lst (cs.map V.int ++ [.int 0]))) p3 = some (.lst ((cs ++ [0]).map V.int)) := by rw [upd_same, e3]
      have K7 := hK5.same s7
      have d7 := d5.same s7
      generalize (upd (upd (upd H6 p1 (.lst (cs.map V.int))) p2 (.lst [.int 0])) p3 (.lst (cs.map V.int ++ [.int 0]))) = H7 at *
      refine ⟨p3, rfl, ⟨_, SqL.of h7⟩, for_list (xs := (cs ++ [0]).map V.int) (fun i σ H' => H' p3 = some (.lst ((cs ++ [0]).map V.int)) ∧ ∃ a' n' kp' b' m', n' ≤ 1000 ∧ Deck H' a' n' ∧ KindAt K H' kp' b' m' ∧ ∃ t3 t8 t9 t10 t11 t12, σ = [some (.ref sa), some (.ref a'), some (.ref kp'), t3, some (.int R), some (.int (1 + v3)), some (.ref cd), some (.int rch), t8, t9, t10, t11, t12]) ⟨h7, a, _, kp, b, m, by omega, d7, K7, some (.int c), t8, t9, none, none, none, rfl⟩ (fun i σ H' _ e => SqL.of e.1) ?_ ?_⟩
      · rintro i x σ H8 hx ⟨h8, a0, n0, kp0, b0, m0, _, _, _, t3, t8, t9, t10, t11, t12, rfl⟩
        obtain ⟨cell, rfl, _⟩ := map_at hx
        clear hK2 hK3 hK5 K7 d1 d2 d3 d5 d7 hk hk3 hb hmb hmm rb
        walk_at "rd"
        refine ⟨cell, 50, 50, rfl, by decide, by decide, fun a H9 ha9 s9 d9 => ?_⟩
        have np : p3 ≠ a := ne_of_none h8 ha9
        have h9 := s9 _ _ h8
        walk_at "rd"
        refine ⟨a, 50, rfl, d9, by omega, fun kp b m H10 k10 d10 hk10 hb hmb hmm => ?_⟩
        have h10 := k10 _ _ np h9
        have K10 : KindAt K H10 kp b m := ⟨hk10, hb, by omega, hmm⟩
        walk_at "rd"
        refine ⟨a, 60, _, rfl, d10, by omega, by decide, lt_pow (by decide) (by decide), fun v11 H11 v110 v111 k11 d11 => ?_⟩
        have h11 := k11 _ _ np h10
        have K11 := K10.keep d10 k11
        walk_at "rd"
        refine ⟨by show 2 ≤ sizeLine; decide, fun l1 hl1 => ?_⟩
        walk_at "rd"
        refine ⟨a, 2, _, rfl, d11.same (same_new hl1 _), by omega, by decide, lt_pow (by decide) (by decide), fun v12 H12 v120 v121 k12 d12 => ?_⟩
        have h12 := k12 _ _ np (same_new hl1 _ _ _ h11)
        have K12 := (K11.same (same_new hl1 _)).keep (d11.same (same_new hl1 _)) k12
        obtain ⟨y, hy, my⟩ := at_some (xs := [V.int 60, .int (1 + v11)]) v120 v121
        refine ⟨l1, _, _, y, rfl, rfl, SqL.of (k12 _ _ (d11.ne hl1) upd_same), hy, ?_⟩
        obtain ⟨c', rfl, hc'⟩ : ∃ c' : Nat, y = .int ((c' : Int) + 1) ∧ c' < 60 := by
          simp only [List.mem_cons, List.not_mem_nil, or_false] at my
          rcases my with e | e
          · exact ⟨59, e, by decide⟩
          · exact ⟨v11.toNat, by rw [e]; exact congrArg V.int (by omega), by omega⟩
        walk_at "rd"
        refine ⟨a, _, rfl, d12, by omega, fun g H13 k13 d13 => ?_⟩
        have h13 := k13 _ _ np h12
        have K13 := K12.keep d12 k13
        walk_at "rd"
        refine ⟨by show 2 ≤ sizeLine; decide, fun l2 hl2 => ?_⟩
        walk_at "rd"
        refine ⟨a, 2, _, rfl, d13.same (same_new hl2 _), by omega, by decide, lt_pow (by decide) (by decide), fun v14 H14 v140 v141 k14 d14 => ?_⟩
        have h14 := k14 _ _ np (same_new hl2 _ _ _ h13)
        have K14 := (K13.same (same_new hl2 _)).keep (d13.same (same_new hl2 _)) k14
        obtain ⟨y, hy, my⟩ := at_some (xs := [V.int 1, .int (-1)]) v140 v141
        refine ⟨l2, _, _, y, rfl, rfl, SqL.of (k14 _ _ (d13.ne hl2) upd_same), hy, ?_⟩
        obtain ⟨sg, rfl, sg0, sg1⟩ : ∃ sg : Int, y = .int sg ∧ -1 ≤ sg ∧ sg ≤ 1 := by
          simp only [List.mem_cons, List.not_mem_nil, or_false] at my
          rcases my with e | e
          · exact ⟨_, e, by decide, by decide⟩
          · exact ⟨_, e, by decide, by decide⟩
        walk_at "rd"
        refine ⟨.inr ⟨by omega, by omega⟩, ?_⟩
        walk_at "rd"
        refine ⟨a, (c' : Int) + 1 + 1, _, rfl, d14, by omega, by omega, lt_pow (by omega) (by omega), fun v15 H15 v150 v151 k15 d15 => ?_⟩
        have h15 := k15 _ _ np h14
        have K15 := K14.keep d14 k15
        have hk15 := K15.1
        walk_at "rd"
        refine ⟨by omega, by omega, for_range (lo := 0) (n := v15.toNat) (fun i σ H' => H' = H15 ∧ ∃ z t, 0 < z ∧ σ = [some (.ref sa), some (.ref a), some (.ref kp), some (.int ((c' : Int) + 1)), some (.int R), some (.int (1 + v3)), some (.ref cd), some (.int rch), some (.int (g * sg)), t9, some (.int cell), some (.int z), t]) ⟨rfl, 1, t12, by decide, rfl⟩ ?_ ?_⟩
        · rintro i σ H16 hi ⟨rfl, z, t, hz, rfl⟩
          walk_at "rd"
          refine ⟨.inr ⟨by omega, by omega⟩, ?_⟩
          exact ⟨rfl, z * b, some (.int (0 + i)), Int.mul_pos hz (by omega), rfl⟩
        · rintro σ H16 ⟨rfl, z, t, hz, rfl⟩
          walk_at "rd"
          refine ⟨by show 3 ≤ sizeLine; decide, fun l3 hl3 => ?_⟩
          walk_at "rd"
          refine ⟨a, 3, _, rfl, d15.same (same_new hl3 _), by omega, by decide, lt_pow (by decide) (by decide), fun v17 H17 v170 v171 k17 d17 => ?_⟩
          have h17 := k17 _ _ np (same_new hl3 _ _ _ h15)
          have K17 := (K15.same (same_new hl3 _)).keep (d15.same (same_new hl3 _)) k17
          obtain ⟨y, hy, my⟩ := at_some (xs := [V.int (g * sg), .int (g * sg % z), .int (0 - g * sg % z)]) v170 v171
          refine ⟨l3, _, _, y, rfl, rfl, SqL.of (k17 _ _ (d15.ne hl3) upd_same), hy, ?_⟩
          obtain ⟨n, rfl⟩ : ∃ n : Int, y = .int n := by
            simp only [List.mem_cons, List.not_mem_nil, or_false] at my
            rcases my with e | e | e <;> exact ⟨_, e⟩
          walk_at "rd"
          refine ⟨kp, b, m, n, c' + 1, rfl, K17, by omega, fun H18 s18 => ?_⟩
          walk_at "rd"
          refine ⟨fun _ => True, _, rfl, .int _, ?_⟩
          walk_at "rd"
          refine ⟨kp, b, m, n, c', rfl, K17.same s18, by omega, fun H19 s19 => ?_⟩
          refine ⟨rfl, _, rfl, ?_⟩
          rw [decide_eq_true rfl]
          refine iteF ?_
          walk_at "rd"
          refine ⟨kp, b, m, 0 - n, c' + 1, rfl, (K17.same s18).same s19, by omega, fun H20 s20 => ?_⟩
          have e0 : cnt b m (c' + 1) (0 - n) = cnt b m (c' + 1) n := by rw [Int.zero_sub, cnt_neg hb (by omega)]
          rw [e0]
          walk_at "rd"
          rw [decide_eq_true rfl]
          refine iteF ?_
          have s20' := s18.trans (s19.trans s20)
          exact ⟨s20' _ _ h17, a, _, kp, b, m, by omega, d17.same s20', K17.same s20', _, _, _, _, _, _, rfl⟩
      · rintro σ H8 ⟨h8, a, n0, kp, b, m, hn0, d8, K8, t3, t8, t9, t10, t11, t12, rfl⟩
        walk_at "rd"
        refine ⟨kp, b, m, 0, 0, rfl, K8, by omega, fun H9 s9 => ?_⟩
        have e1 : cnt b m 0 0 = 1 := rfl
        rw [e1]
        walk_at "rd"
        refine ⟨a, 99, n0, rfl, d8.same s9, by omega, by decide, lt_pow (by decide) (by decide), fun v10 H10 v100 _ k10 d10 => ?_⟩
        have K10 := (K8.same s9).keep (d8.same s9) k10
        walk_at "rd"
        refine ⟨kp, b, m, 1 + v10, 0, rfl, K10, by omega, fun H11 s11 => ?_⟩
        have e2 : cnt b m 0 (1 + v10) = 0 := if_neg (by omega)
        rw [e2]
        walk_at "rd"
        exact q _
end
theorem all_mk {l : PySem.W.OpenLaw} {w : World} {K : PySem.W.Frag} {h : Heap} {mg : Str → Option Value} {fa : Addr} (X : K.In h) (G : h.Ns mainGlobals mg) (hfa : mg "law" = some (.ref fa))
    {f0 : Addr} {od0 an0 : Option Addr} {sl0 : Array (Option Value)} {oc0 kV0 dc0 pm0 cd0 ct0 : Value}
    {f1 : Addr} {od1 an1 : Option Addr} {sl1 : Array (Option Value)} {oc1 kV1 dc1 pm1 cd1 ct1 : Value}
    {f2 : Addr} {od2 an2 : Option Addr} {sl2 : Array (Option Value)} {oc2 kV2 dc2 pm2 cd2 ct2 : Value}
    {f3 : Addr} {od3 an3 : Option Addr} {sl3 : Array (Option Value)} {oc3 kV3 dc3 pm3 cd3 ct3 : Value}
    {f4 : Addr} {od4 an4 : Option Addr} {sl4 : Array (Option Value)} {oc4 kV4 dc4 pm4 cd4 ct4 : Value}
    {f5 : Addr} {od5 an5 : Option Addr} {sl5 : Array (Option Value)} {oc5 kV5 dc5 pm5 cd5 ct5 : Value}
    {f6 : Addr} {od6 an6 : Option Addr} {sl6 : Array (Option Value)} {oc6 kV6 dc6 pm6 cd6 ct6 : Value}
    {f7 : Addr} {od7 an7 : Option Addr} {sl7 : Array (Option Value)} {oc7 kV7 dc7 pm7 cd7 ct7 : Value}
    {f8 : Addr} {od8 an8 : Option Addr} {sl8 : Array (Option Value)} {oc8 kV8 dc8 pm8 cd8 ct8 : Value}
    {f9 : Addr} {od9 an9 : Option Addr} {sl9 : Array (Option Value)} {oc9 kV9 dc9 pm9 cd9 ct9 : Value}
    {f10 : Addr} {od10 an10 : Option Addr} {sl10 : Array (Option Value)} {oc10 kV10 dc10 pm10 cd10 ct10 : Value}
    (a0 : PySem.W.nsIn K mainGlobals "how_many" = some (some (.ref f0))) (l0 : K.lookup f0 = some ⟨oc0, od0, .func (PySem.W.fnOf "how_many" "how_many" (defArgs s_how_many) (defBody s_how_many) (defScope s_how_many) .none kV0 dc0 pm0 an0 cd0 ct0), sl0⟩) (c0 : PySem.W.codeIn K cd0 "how_many" = true) (k0 : PySem.W.keepIn K (.ref f0) = true)
    (a1 : PySem.W.nsIn K mainGlobals "one_figure_less" = some (some (.ref f1))) (l1 : K.lookup f1 = some ⟨oc1, od1, .func (PySem.W.fnOf "one_figure_less" "one_figure_less" (defArgs s_one_figure_less) (defBody s_one_figure_less) (defScope s_one_figure_less) .none kV1 dc1 pm1 an1 cd1 ct1), sl1⟩) (c1 : PySem.W.codeIn K cd1 "one_figure_less" = true) (k1 : PySem.W.keepIn K (.ref f1) = true)
    (a2 : PySem.W.nsIn K mainGlobals "without_last" = some (some (.ref f2))) (l2 : K.lookup f2 = some ⟨oc2, od2, .func (PySem.W.fnOf "without_last" "without_last" (defArgs s_without_last) (defBody s_without_last) (defScope s_without_last) .none kV2 dc2 pm2 an2 cd2 ct2), sl2⟩) (c2 : PySem.W.codeIn K cd2 "without_last" = true) (k2 : PySem.W.keepIn K (.ref f2) = true)
    (a3 : PySem.W.nsIn K mainGlobals "_law_deck" = some (some (.ref f3))) (l3 : K.lookup f3 = some ⟨oc3, od3, .func (PySem.W.fnOf "_law_deck" "_law_deck" (defArgs s__law_deck) (defBody s__law_deck) (defScope s__law_deck) .none kV3 dc3 pm3 an3 cd3 ct3), sl3⟩) (c3 : PySem.W.codeIn K cd3 "_law_deck" = true) (k3 : PySem.W.keepIn K (.ref f3) = true)
    (a4 : PySem.W.nsIn K mainGlobals "_law_pick" = some (some (.ref f4))) (l4 : K.lookup f4 = some ⟨oc4, od4, .func (PySem.W.fnOf "_law_pick" "_law_pick" (defArgs s__law_pick) (defBody s__law_pick) (defScope s__law_pick) .none kV4 dc4 pm4 an4 cd4 ct4), sl4⟩) (c4 : PySem.W.codeIn K cd4 "_law_pick" = true) (k4 : PySem.W.keepIn K (.ref f4) = true)
    (a5 : PySem.W.nsIn K mainGlobals "_law_kind" = some (some (.ref f5))) (l5 : K.lookup f5 = some ⟨oc5, od5, .func (PySem.W.fnOf "_law_kind" "_law_kind" (defArgs s__law_kind) (defBody s__law_kind) (defScope s__law_kind) .none kV5 dc5 pm5 an5 cd5 ct5), sl5⟩) (c5 : PySem.W.codeIn K cd5 "_law_kind" = true) (k5 : PySem.W.keepIn K (.ref f5) = true)
    (a6 : PySem.W.nsIn K mainGlobals "_law_great" = some (some (.ref f6))) (l6 : K.lookup f6 = some ⟨oc6, od6, .func (PySem.W.fnOf "_law_great" "_law_great" (defArgs s__law_great) (defBody s__law_great) (defScope s__law_great) .none kV6 dc6 pm6 an6 cd6 ct6), sl6⟩) (c6 : PySem.W.codeIn K cd6 "_law_great" = true) (k6 : PySem.W.keepIn K (.ref f6) = true)
    (a7 : PySem.W.nsIn K mainGlobals "_law_whole" = some (some (.ref f7))) (l7 : K.lookup f7 = some ⟨oc7, od7, .func (PySem.W.fnOf "_law_whole" "_law_whole" (defArgs s__law_whole) (defBody s__law_whole) (defScope s__law_whole) .none kV7 dc7 pm7 an7 cd7 ct7), sl7⟩) (c7 : PySem.W.codeIn K cd7 "_law_whole" = true) (k7 : PySem.W.keepIn K (.ref f7) = true)
    (a8 : PySem.W.nsIn K mainGlobals "_law_counts" = some (some (.ref f8))) (l8 : K.lookup f8 = some ⟨oc8, od8, .func (PySem.W.fnOf "_law_counts" "_law_counts" (defArgs s__law_counts) (defBody s__law_counts) (defScope s__law_counts) .none kV8 dc8 pm8 an8 cd8 ct8), sl8⟩) (c8 : PySem.W.codeIn K cd8 "_law_counts" = true) (k8 : PySem.W.keepIn K (.ref f8) = true)
    (a9 : PySem.W.nsIn K mainGlobals "_law_sum" = some (some (.ref f9))) (l9 : K.lookup f9 = some ⟨oc9, od9, .func (PySem.W.fnOf "_law_sum" "_law_sum" (defArgs s__law_sum) (defBody s__law_sum) (defScope s__law_sum) .none kV9 dc9 pm9 an9 cd9 ct9), sl9⟩) (c9 : PySem.W.codeIn K cd9 "_law_sum" = true) (k9 : PySem.W.keepIn K (.ref f9) = true)
    (a10 : PySem.W.nsIn K mainGlobals "law" = some (some (.ref f10))) (l10 : K.lookup f10 = some ⟨oc10, od10, .func (PySem.W.fnOf "law" "law" (defArgs s_law) (defBody s_law) (defScope s_law) .none kV10 dc10 pm10 an10 cd10 ct10), sl10⟩) (c10 : PySem.W.codeIn K cd10 "law" = true) (k10 : PySem.W.keepIn K (.ref f10) = true)
    (z0 : PySem.W.nsIn K mainGlobals "range" = some none)
    (z1 : PySem.W.nsIn K mainGlobals "isinstance" = some none)
    (z2 : PySem.W.nsIn K mainGlobals "int" = some none)
    (z3 : PySem.W.nsIn K mainGlobals "bool" = some none)
    (z4 : PySem.W.nsIn K mainGlobals "max" = some none) :
    ∃ fd : FuncData, (∀ (s : Shared) (v : Value), BindsTo s fd ⟨[v], []⟩ [("script", v)]) ∧ ∀ base : Heap, K.In base → base.Ns mainGlobals mg → FnOk l.prog w K mg base CX0 5 fa fd ["script"] (sp_law K) := by
  have e := hfa.symm.trans (PySem.W.mg_of X G a10)
  cases e
  have F0 := fun_mk (st := s_how_many) l0 c0 k0
  have b0 := F0.binds (ps := ["kind", "count", "number"]) fun _ _ _ _ _ _ us hl => match us, hl with | [_, _, _], _ => rfl
  have F1 := fun_mk (st := s_one_figure_less) l1 c1 k1
  have b1 := F1.binds (ps := ["kind", "ways"]) fun _ _ _ _ _ _ us hl => match us, hl with | [_, _], _ => rfl
  have F2 := fun_mk (st := s_without_last) l2 c2 k2
  have b2 := F2.binds (ps := ["kind", "number"]) fun _ _ _ _ _ _ us hl => match us, hl with | [_, _], _ => rfl
  have F3 := fun_mk (st := s__law_deck) l3 c3 k3
  have b3 := F3.binds (ps := ["cell", "turn"]) fun _ _ _ _ _ _ us hl => match us, hl with | [_, _], _ => rfl
  have F4 := fun_mk (st := s__law_pick) l4 c4 k4
  have b4 := F4.binds (ps := ["deck", "many"]) fun _ _ _ _ _ _ us hl => match us, hl with | [_, _], _ => rfl
  have F5 := fun_mk (st := s__law_kind) l5 c5 k5
  have b5 := F5.binds (ps := ["deck"]) fun _ _ _ _ _ _ us hl => match us, hl with | [_], _ => rfl
  have F6 := fun_mk (st := s__law_great) l6 c6 k6
  have b6 := F6.binds (ps := ["deck", "figures"]) fun _ _ _ _ _ _ us hl => match us, hl with | [_, _], _ => rfl
  have F7 := fun_mk (st := s__law_whole) l7 c7 k7
  have b7 := F7.binds (ps := ["thing"]) fun _ _ _ _ _ _ us hl => match us, hl with | [_], _ => rfl
  have F8 := fun_mk (st := s__law_counts) l8 c8 k8
  have b8 := F8.binds (ps := ["kind", "count"]) fun _ _ _ _ _ _ us hl => match us, hl with | [_, _], _ => rfl
  have F9 := fun_mk (st := s__law_sum) l9 c9 k9
  have b9 := F9.binds (ps := ["kind", "count", "number"]) fun _ _ _ _ _ _ us hl => match us, hl with | [_, _, _], _ => rfl
  have F10 := fun_mk (st := s_law) l10 c10 k10
  have b10 := F10.binds (ps := ["script"]) fun _ _ _ _ _ _ us hl => match us, hl with | [_], _ => rfl
  let T : Txt K mg := { a_how_many := f0, fd_how_many := _, F_how_many := F0, m_how_many := PySem.W.mg_of X G a0, b_how_many := b0, a_one_figure_less := f1, fd_one_figure_less := _, F_one_figure_less := F1, m_one_figure_less := PySem.W.mg_of X G a1, b_one_figure_less := b1, a_without_last := f2, fd_without_last := _, F_without_last := F2, m_without_last := PySem.W.mg_of X G a2, b_without_last := b2, a__law_deck := f3, fd__law_deck := _, F__law_deck := F3, m__law_deck := PySem.W.mg_of X G a3, b__law_deck := b3, a__law_pick := f4, fd__law_pick := _, F__law_pick := F4, m__law_pick := PySem.W.mg_of X G a4, b__law_pick := b4, a__law_kind := f5, fd__law_kind := _, F__law_kind := F5, m__law_kind := PySem.W.mg_of X G a5, b__law_kind := b5, a__law_great := f6, fd__law_great := _, F__law_great := F6, m__law_great := PySem.W.mg_of X G a6, b__law_great := b6, a__law_whole := f7, fd__law_whole := _, F__law_whole := F7, m__law_whole := PySem.W.mg_of X G a7, b__law_whole := b7, a__law_counts := f8, fd__law_counts := _, F__law_counts := F8, m__law_counts := PySem.W.mg_of X G a8, b__law_counts := b8, a__law_sum := f9, fd__law_sum := _, F__law_sum := F9, m__law_sum := PySem.W.mg_of X G a9, b__law_sum := b9, a_law := fa, fd_law := _, F_law := F10, m_law := PySem.W.mg_of X G a10, b_law := b10, z_range := PySem.W.mg_none_of X G z0, z_isinstance := PySem.W.mg_none_of X G z1, z_int := PySem.W.mg_none_of X G z2, z_bool := PySem.W.mg_none_of X G z3, z_max := PySem.W.mg_none_of X G z4 }
  exact ⟨PySem.W.fnOf "law" "law" (defArgs s_law) (defBody s_law) (defScope s_law) .none kV10 dc10 pm10 an10 cd10 ct10, fun s v => .of_eq rfl, fun base _ _ => ok_law T⟩
theorem walk {l : PySem.W.OpenLaw} {q : Program} {loose : List Str} {XP : (Str → Option Value) → Heap → Prop} {YP : World → Heap → Prop} {d : DefRec} {K : Params → PySem.W.Frag} (hn : l.most = some 63) (hdf : d.params.defaults = [])
    (hY : ∀ (w : World) (h : Heap), YP w h → (K w.params).In h)
    (F : ∀ (w : World) (mg : Str → Option Value) (fa : Addr) (h : Heap), (K w.params).In h → h.Ns mainGlobals mg → mg d.name = some (.ref fa) →
      ∃ fd : FuncData, (∀ (s : Shared) (u : Value), BindsTo s fd ⟨[u], []⟩ [("script", u)]) ∧ ∀ base : Heap, (K w.params).In base → base.Ns mainGlobals mg → FnOk l.prog w (K w.params) mg base CX0 5 fa fd ["script"] (sp_law (K w.params))) :
    PySem.W.WalkO q loose XP YP l.row.toRowW d [] (fun f vs => PySem.call f vs) :=
  L2.walk_ofB (n := 63) (k := 5) (x := "script") (CX := fun _ => CX0) (sp := fun w => sp_law (K w.params)) hn (by decide) hdf ⟨rfl, by decide, by decide⟩ hY F (fun _ _ a ns hl hb _ hS => ⟨a, ns, rfl, hS, hl, hb, fun _ => rfl⟩) fun _ _ _ _ _ z => z
end My
open PySem PySem.W PyProof.Rows
set_option maxRecDepth 100000 in
set_option maxHeartbeats 0 in
theorem PySem.Challenge.cw_slackfigures_k02_rows_of_a_worth_holds : PySem.Challenge.rw_slackfigures_k02_rows_of_a_worth.Holds := by
  w_on; o_law; k_head; (case hw => w_witness2)
  k_fill
  refine My.walk (l := PySem.Challenge.rw_slackfigures_k02_rows_of_a_worth) rfl rfl (fun w h Y => PySem.W.kIn_of Y) ?F
  case F =>
    intro w mg fa h KX G hmg
    refine' My.all_mk KX G hmg ?a0 ?l0 ?c0 ?k0 ?a1 ?l1 ?c1 ?k1 ?a2 ?l2 ?c2 ?k2 ?a3 ?l3 ?c3 ?k3 ?a4 ?l4 ?c4 ?k4 ?a5 ?l5 ?c5 ?k5 ?a6 ?l6 ?c6 ?k6 ?a7 ?l7 ?c7 ?k7 ?a8 ?l8 ?c8 ?k8 ?a9 ?l9 ?c9 ?k9 ?a10 ?l10 ?c10 ?k10 ?z0 ?z1 ?z2 ?z3 ?z4
    (case a0 => k_is)
    (case l0 => k_is)
    (case c0 => k_is)
    (case k0 => k_is)
    (case a1 => k_is)
    (case l1 => k_is)
    (case c1 => k_is)
    (case k1 => k_is)
    (case a2 => k_is)
    (case l2 => k_is)
    (case c2 => k_is)
    (case k2 => k_is)
    (case a3 => k_is)
    (case l3 => k_is)
    (case c3 => k_is)
    (case k3 => k_is)
    (case a4 => k_is)
    (case l4 => k_is)
    (case c4 => k_is)
    (case k4 => k_is)
    (case a5 => k_is)
    (case l5 => k_is)
    (case c5 => k_is)
    (case k5 => k_is)
    (case a6 => k_is)
    (case l6 => k_is)
    (case c6 => k_is)
    (case k6 => k_is)
    (case a7 => k_is)
    (case l7 => k_is)
    (case c7 => k_is)
    (case k7 => k_is)
    (case a8 => k_is)
    (case l8 => k_is)
    (case c8 => k_is)
    (case k8 => k_is)
    (case a9 => k_is)
    (case l9 => k_is)
    (case c9 => k_is)
    (case k9 => k_is)
    (case a10 => k_is)
    (case l10 => k_is)
    (case c10 => k_is)
    (case k10 => k_is)
    (case z0 => k_is)
    (case z1 => k_is)
    (case z2 => k_is)
    (case z3 => k_is)
    (case z4 => k_is)
