import PyProof.Rows.All
import Wide.All
import OpenK.AllK
import Wide.FinOn
import HandS.ForMost
import HandS.EndBits
import HandS.Wide
import HandS.WideBits
import HandS.IsInst
import HandS.Style
import HandS.Codes
import PySem.Challenge.RW_slackfigures_k01_kinds_and_worths
set_option Elab.async false
set_option linter.all false
set_option maxRecDepth 100000
set_option maxHeartbeats 4000000
namespace My
open PySem L2
def top (i : Nat) : Stmt := PySem.Challenge.pw_slackfigures_k01_kinds_and_worths.main.body.getD i (.Pass ⟨0, 0, 0, 0⟩)
abbrev s_worth : Stmt := top 1
abbrev s_is_whole : Stmt := top 4
abbrev s_is_kind : Stmt := top 5
abbrev s_bits_of : Stmt := top 6
abbrev s__law_deck : Stmt := top 8
abbrev s__law_pick : Stmt := top 9
abbrev s__law_kind : Stmt := top 10
abbrev s__law_thing : Stmt := top 11
abbrev s__law_whole : Stmt := top 12
abbrev s__law_due : Stmt := top 13
abbrev s_law : Stmt := top 14
theorem sc_worth : FnScope ["kind", "row", "base", "total", "figure"] ["kind", "row"] (defScope s_worth) := ⟨rfl, rfl, rfl, by decide +kernel, rfl, by decide +kernel, by decide +kernel⟩
theorem sc_is_whole : FnScope ["thing"] ["thing"] (defScope s_is_whole) := ⟨rfl, rfl, rfl, by decide +kernel, rfl, by decide +kernel, by decide +kernel⟩
theorem sc_is_kind : FnScope ["thing", "base", "most"] ["thing"] (defScope s_is_kind) := ⟨rfl, rfl, rfl, by decide +kernel, rfl, by decide +kernel, by decide +kernel⟩
theorem sc_bits_of : FnScope ["base"] ["base"] (defScope s_bits_of) := ⟨rfl, rfl, rfl, by decide +kernel, rfl, by decide +kernel, by decide +kernel⟩
theorem sc__law_deck : FnScope ["cell", "turn"] ["cell", "turn"] (defScope s__law_deck) := ⟨rfl, rfl, rfl, by decide +kernel, rfl, by decide +kernel, by decide +kernel⟩
theorem sc__law_pick : FnScope ["deck", "many", "found", "number"] ["deck", "many"] (defScope s__law_pick) := ⟨rfl, rfl, rfl, by decide +kernel, rfl, by decide +kernel, by decide +kernel⟩
theorem sc__law_kind : FnScope ["deck", "base"] ["deck"] (defScope s__law_kind) := ⟨rfl, rfl, rfl, by decide +kernel, rfl, by decide +kernel, by decide +kernel⟩
theorem sc__law_thing : FnScope ["deck", "deep", "kind", "far", "some", "k"] ["deck", "deep"] (defScope s__law_thing) := ⟨rfl, rfl, rfl, by decide +kernel, rfl, by decide +kernel, by decide +kernel⟩
theorem sc__law_whole : FnScope ["thing"] ["thing"] (defScope s__law_whole) := ⟨rfl, rfl, rfl, by decide +kernel, rfl, by decide +kernel, by decide +kernel⟩
theorem sc__law_due : FnScope ["thing"] ["thing"] (defScope s__law_due) := ⟨rfl, rfl, rfl, by decide +kernel, rfl, by decide +kernel, by decide +kernel⟩
theorem sc_law : FnScope ["script", "deck", "turn", "thing", "base", "told", "kind", "row", "k", "way", "handed", "due", "place", "figure", "found", "bits"] ["script"] (defScope s_law) := ⟨rfl, rfl, rfl, by decide +kernel, rfl, by decide +kernel, by decide +kernel⟩
/-- what the top has left -/
structure Txt (K : PySem.W.Frag) (mg : Str → Option Value) where
  a_worth : Addr
  fd_worth : FuncData
  F_worth : Fun K "worth" "worth" s_worth a_worth fd_worth
  m_worth : mg "worth" = some (.ref a_worth)
  b_worth : Binds K fd_worth ["kind", "row"] []
  a_is_whole : Addr
  fd_is_whole : FuncData
  F_is_whole : Fun K "is_whole" "is_whole" s_is_whole a_is_whole fd_is_whole
  m_is_whole : mg "is_whole" = some (.ref a_is_whole)
  b_is_whole : Binds K fd_is_whole ["thing"] []
  a_is_kind : Addr
  fd_is_kind : FuncData
  F_is_kind : Fun K "is_kind" "is_kind" s_is_kind a_is_kind fd_is_kind
  m_is_kind : mg "is_kind" = some (.ref a_is_kind)
  b_is_kind : Binds K fd_is_kind ["thing"] []
  a_bits_of : Addr
  fd_bits_of : FuncData
  F_bits_of : Fun K "bits_of" "bits_of" s_bits_of a_bits_of fd_bits_of
  m_bits_of : mg "bits_of" = some (.ref a_bits_of)
  b_bits_of : Binds K fd_bits_of ["base"] []
  a__law_deck : Addr
  fd__law_deck : FuncData
  F__law_deck : Fun K "_law_deck" "_law_deck" s__law_deck a__law_deck fd__law_deck
  m__law_deck : mg "_law_deck" = some (.ref a__law_deck)
  b__law_deck : Binds K fd__law_deck ["cell", "turn"] []
  a__law_pick : Addr
  fd__law_pick : FuncData
  F__law_pick : Fun K "_law_pick" "_law_pick" s__law_pick a__law_pick fd__law_pick
  m__law_pick : mg "_law_pick" = some (.ref a__law_pick)
  b__law_pick : Binds K fd__law_pick ["deck", "many"] []
  a__law_kind : Addr
  fd__law_kind : FuncData
  F__law_kind : Fun K "_law_kind" "_law_kind" s__law_kind a__law_kind fd__law_kind
  m__law_kind : mg "_law_kind" = some (.ref a__law_kind)
  b__law_kind : Binds K fd__law_kind ["deck"] []
  a__law_thing : Addr
  fd__law_thing : FuncData
  F__law_thing : Fun K "_law_thing" "_law_thing" s__law_thing a__law_thing fd__law_thing
  m__law_thing : mg "_law_thing" = some (.ref a__law_thing)
  b__law_thing : Binds K fd__law_thing ["deck", "deep"] []
  a__law_whole : Addr
  fd__law_whole : FuncData
  F__law_whole : Fun K "_law_whole" "_law_whole" s__law_whole a__law_whole fd__law_whole
  m__law_whole : mg "_law_whole" = some (.ref a__law_whole)
  b__law_whole : Binds K fd__law_whole ["thing"] []
  a__law_due : Addr
  fd__law_due : FuncData
  F__law_due : Fun K "_law_due" "_law_due" s__law_due a__law_due fd__law_due
  m__law_due : mg "_law_due" = some (.ref a__law_due)
  b__law_due : Binds K fd__law_due ["thing"] []
  a_law : Addr
  fd_law : FuncData
  F_law : Fun K "law" "law" s_law a_law fd_law
  m_law : mg "law" = some (.ref a_law)
  b_law : Binds K fd_law ["script"] []
  z_isinstance : mg "isinstance" = none
  z_int : mg "int" = none
  z_bool : mg "bool" = none
  z_tuple : mg "tuple" = none
  z_len : mg "len" = none
  z_range : mg "range" = none
  z_max : mg "max" = none
  z_list : mg "list" = none
  a_BASES : Addr
  m_BASES : mg "BASES" = some (.ref a_BASES)
  t_BASES : ∀ H : Hp, SqT K H a_BASES [.int 2, .int 4, .int 8, .int 16]
theorem Txt.r_BASES {K : PySem.W.Frag} {mg : Str → Option Value} (T : Txt K mg) : RelV (.ref T.a_BASES) (.ref T.a_BASES) := rfl
section
variable {P : Program} {w : World} {K : PySem.W.Frag} {mg : Str → Option Value} {base : Heap}
local macro_rules | `(tactic| walk_at "rd1") => `(tactic| first
  | refine ⟨_, rfl, ?_⟩
  | refine ⟨_, _, rfl, rfl, ?_⟩
  | refine ⟨_, _, _, _, rfl, rfl, SqL.of (by assumption), rfl, ?_⟩
  | refine ⟨_, _, _, _, rfl, rfl, SqT.of (by assumption), rfl, ?_⟩
  | refine ⟨_, _, _, _, rfl, rfl, by assumption, rfl, ?_⟩
  | refine ⟨_, _, rfl, .inl (SqL.of (by assumption)), ?_⟩
  | refine ⟨_, _, rfl, ?_⟩
  | refine ⟨_, _, rfl, .inr (SqT.of (by assumption)), ?_⟩
  | refine ⟨(show (0 : Int) < _ by first | assumption | decide | omega), ?_⟩
  | refine ⟨(rfl : scal _ _ = true), ?_⟩
  | refine ⟨⟨by decide, by decide⟩, ?_⟩
  | refine ⟨⟨by decide, by decide, by decide⟩, ?_⟩
  | refine ⟨Or.inl ⟨by decide, by decide⟩, ?_⟩
  | refine ⟨Or.inr ⟨by decide, by decide⟩, ?_⟩
  | fail "rd")
local macro_rules | `(tactic| walk_at "rd") => `(tactic| (walk_at "rd1"; repeat walk_at "rd1"))
/-! ### heaps -/
/-- what stood at another place than a stands as it was -/
def Keep (a : Addr) (H H' : Hp) : Prop := ∀ b o, b ≠ a → H b = some o → H' b = some o
theorem Keep.refl (a : Addr) (H : Hp) : Keep a H H := fun _ _ _ h => h
theorem Keep.trans {a : Addr} {H H1 H2 : Hp} (x : Keep a H H1) (y : Keep a H1 H2) : Keep a H H2 := fun b o n h => y b o n (x b o n h)
theorem Keep.upd {a : Addr} {H : Hp} {o : HO} : Keep a H (upd H a o) := fun b u n h => by
  rw [upd_ne n]
  exact h
theorem Keep.new {a p : Addr} {H : Hp} {o : HO} (h : H p = none) : Keep a H (L2.upd H p o) := fun b u _ e => by
  rw [upd_ne (ne_of_none e h)]
  exact e
theorem Keep.same {a : Addr} {H H' : Hp} (h : Same H H') : Keep a H H' := fun b o _ e => h b o e
theorem same_new {H : Hp} {p : Addr} (h : H p = none) (o : HO) : Same H (upd H p o) := fun b u q => by
  rw [upd_ne (ne_of_none q h)]
  exact q
/-! ### + of lists that are read (the script among them) -/
section
open PySem.Spec PyProof.Rows
def rCatR (K : PySem.W.Frag) : R2 := fun x y H Q => ∃ l b us zs, x = .ref l ∧ y = .ref b ∧ SqL K H l us ∧ SqL K H b zs ∧ us.length + zs.length ≤ sizeLine ∧ ∀ p, H p = none → Q (.ref p) (upd H p (.lst (us ++ zs)))
theorem op_catR {X : Cx} : OpR X (binaryOp .Add) (rCatR X.K) := by
  intro pins sh sg H x y v u Q I rx ry hyp
  obtain ⟨l, b, us, zs, rfl, rfl, hl, hb, hz, q⟩ := hyp
  cases rx
  cases ry
  obtain ⟨i1, r1, p1, _⟩ := I.list hl
  obtain ⟨i2, r2, p2, _⟩ := I.list hb
  have n1 := r1.length
  have n2 := r2.length
  obtain ⟨⟨c1, d1, t1, s1⟩, g1, e1, m1, f1⟩ := p1.isList
  obtain ⟨⟨c2, d2, t2, s2⟩, g2, e2, m2, f2⟩ := p2.isList
  simp only at e1 f1 e2 f2
  subst e1 f1 e2 f2
  refine concat_meets ⟨_, g1, rfl⟩ ⟨_, g2, rfl⟩ noFill_list_add seq_list_add PySem.F.slot_list_add PySem.F.entry_list_add (PySem.F.args_list_add_2 _ _)
    (list_addW l b i1.toArray i2.toArray m1 m2 d1 d2 s1 s2 (by simp only [List.size_toArray]; omega)) ⟨g1, g2, ?_⟩
  rw [show i1.toArray ++ i2.toArray = (i1 ++ i2).toArray by simp]
  exact ⟨.ref _, _, I.lnew (t' := sh.toks) (r1.append r2) (by rw [List.length_append]; exact hz), rfl, q _ I.fresh⟩
end
/-! ### the deck -/
def Deck (H : Hp) (a : Addr) (n : Nat) : Prop := ∃ d0 d1 d2 : Int, H a = some (.lst [.int d0, .int d1, .int d2]) ∧ 0 ≤ d0 ∧ 0 ≤ d1 ∧ d1 < 2147483648 ∧ 0 ≤ d2 ∧ d2 ≤ n
theorem Deck.le {H : Hp} {a : Addr} {n m : Nat} (h : Deck H a n) (e : n ≤ m) : Deck H a m := by
  obtain ⟨d0, d1, d2, h1, h2, h3, h4, h5, h6⟩ := h
  exact ⟨d0, d1, d2, h1, h2, h3, h4, h5, by omega⟩
theorem Deck.same {H H' : Hp} {a : Addr} {n : Nat} (h : Deck H a n) (e : Same H H') : Deck H' a n := by
  obtain ⟨d0, d1, d2, h1, r⟩ := h
  exact ⟨d0, d1, d2, e _ _ h1, r⟩
theorem Deck.some {H : Hp} {a : Addr} {n : Nat} (h : Deck H a n) : ∃ o, H a = some o := by
  obtain ⟨d0, d1, d2, h1, r⟩ := h
  exact ⟨_, h1⟩
theorem Deck.ne {H : Hp} {a p : Addr} {n : Nat} (h : Deck H a n) (e : H p = none) : p ≠ a := by
  obtain ⟨d0, d1, d2, h1, r⟩ := h
  exact fun z => by rw [z, h1] at e; cases e
def sp__law_deck (K : PySem.W.Frag) : Sp := fun vs H Q _ => ∃ (c t : Int) (n : Nat), vs = [.int c, .int t] ∧ 0 ≤ t ∧ t ≤ n ∧
  ∀ p H', H p = none → Same H H' → Deck H' p n → Q (.ref p) H'
def sp__law_pick (K : PySem.W.Frag) : Sp := fun vs H Q _ => ∃ (a : Addr) (many : Int) (n : Nat), vs = [.ref a, .int many] ∧ Deck H a n ∧ n ≤ 1000000000 ∧ 0 < many ∧ many.natAbs.log2 < 9000 ∧
  ∀ v H', 0 ≤ v → v < many → Keep a H H' → Deck H' a (n + 1) → Q (.int v) H'
theorem ok__law_deck (T : Txt K mg) : FnOk P w K mg base CX0 1 T.a__law_deck T.fd__law_deck ["cell", "turn"] (sp__law_deck K) := by
  refine T.F__law_deck.ok sc__law_deck (fun vs H Q E h => ?_) (fun cdv A outer s H vs Q E hr h => ?_)
  · obtain ⟨c, t, n, rfl, _⟩ := h
    rfl
  obtain ⟨c, t, n, rfl, ht, htn, q⟩ := h
  refine ⟨_, (pss_cons (ps_if (pt_cmpR op_ge (pv 0) (pe_op op_pow pe_int pe_int) (nomark _)) (pss_one (ps_ret (pe_lst (pa_cons (pe_op op_sub (pv 0) (pe_op op_pow pe_int pe_int)) (pa_cons (pe_op op_mod (pv 0) pe_int) (pa_cons (pv 1) pa_nil)))))) pss_nil)
      (pss_one (ps_ret (pe_lst (pa_cons pe_int (pa_cons (pe_op op_mod (pv 0) pe_int) (pa_cons (pv 1) pa_nil))))))), ?_⟩
  walk_at "rd"
  have e18 : (10 : Int) ^ (18 : Int).toNat = 1000000000000000000 := by decide +kernel
  refine ite2 (fun c' => ?_) (fun _ => ?_)
  · have c1 : (10 : Int) ^ (18 : Int).toNat ≤ c := of_decide_eq_true c'
    walk_at "rd"
    refine ⟨by show 3 ≤ sizeLine; decide, fun p hp => ?_⟩
    refine q p _ hp (same_new hp _) ⟨_, _, _, upd_same, ?_, ?_, ?_, ht, htn⟩ <;> omega
  · walk_at "rd"
    refine ⟨by show 3 ≤ sizeLine; decide, fun p hp => ?_⟩
    refine q p _ hp (same_new hp _) ⟨_, _, _, upd_same, ?_, ?_, ?_, ht, htn⟩ <;> omega
theorem ok__law_pick (T : Txt K mg) : FnOk P w K mg base CX0 1 T.a__law_pick T.fd__law_pick ["deck", "many"] (sp__law_pick K) := by
  refine T.F__law_pick.ok sc__law_pick (fun vs H Q E h => ?_) (fun cdv A outer s H vs Q E hr h => ?_)
  · obtain ⟨a, many, n, rfl, _⟩ := h
    rfl
  obtain ⟨a, many, n, rfl, ⟨d0, d1, d2, hd, h0, h1, h1', h2, h2'⟩, hn, hm, hm', q⟩ := h
  refine ⟨_, (pss_cons (ps_if (pt_cmpR op_gt (pe_ix ix_list (pv 0) pe_int (fun _ _ => rfl)) pe_int (nomark _)) (pss_cons (ps_set (i := 2) sc__law_pick.nd rfl (Or.inl rfl) (pe_op op_mod (pe_ix ix_list (pv 0) pe_int (fun _ _ => rfl)) (pv 1)))
      (pss_cons (ps_asg (pe_op op_fdivW (pe_ix ix_list (pv 0) pe_int (fun _ _ => rfl)) (pv 1)) (pg_sub (pv 0) pe_int set_list))
      (pss_one (ps_ret (pv 2))))) pss_nil)
      (pss_cons (ps_asg (pe_op op_add (pe_ix ix_list (pv 0) pe_int (fun _ _ => rfl)) pe_int) (pg_sub (pv 0) pe_int set_list))
      (pss_cons (ps_set (i := 3) sc__law_pick.nd rfl (Or.inl rfl) (pe_op op_mod (pe_op op_pow (pe_op op_add (pe_ix ix_list (pv 0) pe_int (fun _ _ => rfl)) (pe_op op_mul pe_int (pe_ix ix_list (pv 0) pe_int (fun _ _ => rfl)))) pe_int) pe_int))
      (pss_cons (ps_set (i := 2) sc__law_pick.nd rfl (Or.inl rfl) (pe_op op_fdivW (pe_op op_mod (pe_op op_pow (pe_op op_add (pv 3) (pe_op op_mul pe_int (pe_ix ix_list (pv 0) pe_int (fun _ _ => rfl)))) pe_int) pe_int) pe_int))
      (pss_cons (ps_if (pt_cmpR op_gt (pv 1) pe_int (nomark _)) (pss_one (ps_ret (pe_op op_mod (pe_op op_add (pe_op op_mul (pv 2) pe_int) (pv 3)) (pv 1)))) pss_nil)
      (pss_one (ps_ret (pe_op op_mod (pv 2) (pv 1))))))))), ?_⟩
  walk_at "rd"
  refine ite2 (fun c => ?_) (fun c => ?_)
  · walk_at "rd"
    refine ⟨⟨hm, hm'⟩, ?_⟩
    walk_at "rd"
    exact q _ _ (Int.emod_nonneg _ (by omega)) (Int.emod_lt_of_pos _ hm) Keep.upd ⟨_, _, _, upd_same, Int.ediv_nonneg h0 (by omega), h1, h1', h2, by omega⟩
  · walk_at "rd"
    have hd2 : (upd H a (.lst ([V.int d0, .int d1, .int d2].set 2 (.int (d2 + 1))))) a = some (.lst [.int d0, .int d1, .int (d2 + 1)]) := upd_same
    walk_at "rd"
    refine ⟨⟨by decide, by decide, by omega⟩, ?_⟩
    walk_at "rd"
    refine ⟨⟨by decide, by decide, by omega⟩, ?_⟩
    walk_at "rd"
    refine ite2 (fun c2 => ?_) (fun c2 => ?_)
    · walk_at "rd"
      exact q _ _ (Int.emod_nonneg _ (by omega)) (Int.emod_lt_of_pos _ hm) Keep.upd ⟨_, _, _, upd_same, h0, h1, h1', by omega, by omega⟩
    · walk_at "rd"
      exact q _ _ (Int.emod_nonneg _ (by omega)) (Int.emod_lt_of_pos _ hm) Keep.upd ⟨_, _, _, upd_same, h0, h1, h1', by omega, by omega⟩
/-! ### a written list at a drawn place -/
theorem at_some {α : Type} {xs : List α} {i : Int} (h0 : 0 ≤ i) (h1 : i < xs.length) : ∃ y, atI xs i = some y ∧ y ∈ xs := by
  obtain ⟨k, rfl⟩ := Int.eq_ofNat_of_zero_le h0
  have hk : k < xs.length := by omega
  exact ⟨xs[k], atI_nat (List.getElem?_eq_getElem hk), List.getElem_mem hk⟩
theorem lt_pow {z : Int} (h0 : 0 ≤ z) (h : z < 2 ^ 63) : z.natAbs.log2 < 9000 := by
  by_cases e : z.natAbs = 0
  · rw [e]; decide
  · have h1 : z.natAbs < 2 ^ 63 := by omega
    have h2 := (Nat.log2_lt e).mpr h1
    omega
def sp__law_kind (K : PySem.W.Frag) : Sp := fun vs H Q _ => ∃ (a : Addr) (n : Nat), vs = [.ref a] ∧ Deck H a n ∧ n ≤ 900000000 ∧
  ∀ (p : Addr) (b m : Int) (H' : Hp), Keep a H H' → Deck H' a (n + 2) → H' p = some (.tup [.int b, .int m]) → (b = 2 ∨ b = 4 ∨ b = 8 ∨ b = 16) → b / 2 ≤ m → m ≤ b - 1 → Q (.ref p) H'
theorem ok__law_kind (T : Txt K mg) : FnOk P w K mg base CX0 2 T.a__law_kind T.fd__law_kind ["deck"] (sp__law_kind K) := by
  refine T.F__law_kind.ok sc__law_kind (fun vs H Q E h => ?_) (fun cdv A outer s H vs Q E hr h => ?_)
  · obtain ⟨a, n, rfl, _⟩ := h
    rfl
  obtain ⟨a, n, rfl, hd, hn, q⟩ := h
  refine ⟨_, (pss_cons (ps_set (i := 1) sc__law_kind.nd rfl (Or.inl rfl) (pe_ix ix_list (pe_lst (pa_cons pe_int (pa_cons pe_int (pa_cons pe_int (pa_cons pe_int (pa_cons pe_int pa_nil)))))) (pe_call (ok__law_pick T) (hr.mono (by first | decide | omega)) rfl T.m__law_pick T.F__law_pick.kp T.b__law_pick .nil pass0 (pa_cons (pv 0) (pa_cons pe_int pa_nil))) (fun _ _ => rfl)))
      (pss_one (ps_ret (pe_tup (pa_cons (pv 1) (pa_cons (pe_op op_add (pe_op op_fdiv (pv 1) pe_int) (pe_call (ok__law_pick T) (hr.mono (by first | decide | omega)) rfl T.m__law_pick T.F__law_pick.kp T.b__law_pick .nil pass0 (pa_cons (pv 0) (pa_cons (pe_op op_sub (pv 1) (pe_op op_fdiv (pv 1) pe_int)) pa_nil)))) pa_nil)))))), ?_⟩
  refine ⟨by show 5 ≤ sizeLine; decide, fun l hl => ?_⟩
  walk_at "rd"
  refine ⟨a, 5, n, rfl, hd.same (same_new hl _), by omega, by decide, lt_pow (by decide) (by decide), fun v H1 v0 v1 k1 d1 => ?_⟩
  have hl1 : H1 l = some (.lst [.int 2, .int 4, .int 4, .int 8, .int 16]) := k1 _ _ (hd.ne hl) upd_same
  obtain ⟨y, hy, my⟩ := at_some (xs := [V.int 2, .int 4, .int 4, .int 8, .int 16]) v0 (by show v < 5; omega)
  refine ⟨l, _, v, y, rfl, rfl, SqL.of hl1, hy, ?_⟩
  have hb : ∃ b : Int, y = .int b ∧ (b = 2 ∨ b = 4 ∨ b = 8 ∨ b = 16) := by
    simp only [List.mem_cons, List.not_mem_nil, or_false] at my
    rcases my with e | e | e | e | e <;> exact ⟨_, e, by decide⟩
  obtain ⟨b, rfl, hb⟩ := hb
  walk_at "rd"
  refine ⟨a, b - b / 2, n + 1, rfl, d1, by omega, by omega, lt_pow (by omega) (by omega), fun v2 H2 w0 w1 k2 d2 => ?_⟩
  walk_at "rd"
  refine ⟨by show 2 ≤ sizeLine; decide, fun p hp => ?_⟩
  refine q p b (b / 2 + v2) _ ?_ (d2.same (same_new hp _)) upd_same hb (by omega) (by omega)
  exact (Keep.new (a := a) hl).trans (k1.trans (k2.trans (Keep.new hp)))
/-! ### things of any kind -/
inductive Th (B : Addr → Prop) (H : Hp) : V → Prop where
  | int (i : Int) : Th B H (.int i)
  | bl (b : Bool) : Th B H (.bl b)
  | non : Th B H .non
  | str (z : Str) : Th B H (.str z)
  | lst (p : Addr) (xs : List V) (n : B p) (h : H p = some (.lst xs)) (t : ∀ x ∈ xs, Th B H x) : Th B H (.ref p)
  | tup (p : Addr) (xs : List V) (n : B p) (h : H p = some (.tup xs)) (t : ∀ x ∈ xs, Th B H x) : Th B H (.ref p)
theorem Th.keep {B B' : Addr → Prop} {H H' : Hp} {v : V} (k : ∀ p o, B p → H p = some o → H' p = some o) (e : ∀ p, B p → B' p) (h : Th B H v) : Th B' H' v := by
  induction h with
  | int i => exact .int i
  | bl b => exact .bl b
  | non => exact .non
  | str z => exact .str z
  | lst p xs n h t ih => exact .lst p xs (e p n) (k _ _ n h) ih
  | tup p xs n h t ih => exact .tup p xs (e p n) (k _ _ n h) ih
def isI : V → Bool
  | .int _ => true
  | _ => false
def sp_isI (K : PySem.W.Frag) : Sp := fun vs H Q _ => ∃ (B : Addr → Prop) (v : V), vs = [v] ∧ Th B H v ∧ Q (.bl (isI v)) H
theorem ok__law_whole (T : Txt K mg) : FnOk P w K mg base CX0 1 T.a__law_whole T.fd__law_whole ["thing"] (sp_isI K) := by
  refine T.F__law_whole.ok sc__law_whole (fun vs H Q E h => ?_) (fun cdv A outer s H vs Q E hr h => ?_)
  · obtain ⟨B, v, rfl, _⟩ := h
    rfl
  obtain ⟨B, v, rfl, ht, q⟩ := h
  refine ⟨_, (pss_one (ps_ret (pe_and (pe_callB call_isi (by rfl) T.z_isinstance (by decide +kernel) (pa_cons (pv 0) (pa_cons (pe_bltn (v := .ty "int") (u := .type "int") (by rfl) T.z_int (by decide +kernel) rfl) pa_nil))) (pe_one (pe_not (pe_callB call_isi (by rfl) T.z_isinstance (by decide +kernel) (pa_cons (pv 0) (pa_cons (pe_bltn (v := .ty "bool") (u := .type "bool") (by rfl) T.z_bool (by decide +kernel) rfl) pa_nil)))))))), ?_⟩
  cases ht with
  | int i => exact ⟨_, rfl, _, _, _, _, true, rfl, .ty _, .base (.int i), kit_ty (by decide +kernel), _, rfl, iteT ⟨_, rfl, _, _, _, _, false, rfl, .ty _, .base (.int i), kit_ty (by decide +kernel), _, rfl, q⟩⟩
  | bl b => exact ⟨_, rfl, _, _, _, _, true, rfl, .ty _, .base (.bl b), kit_ty (by decide +kernel), _, rfl, iteT ⟨_, rfl, _, _, _, _, true, rfl, .ty _, .base (.bl b), kit_ty (by decide +kernel), _, rfl, q⟩⟩
  | non => exact ⟨_, rfl, _, _, _, _, false, rfl, .ty _, .base .non, kit_ty (by decide +kernel), _, rfl, iteF q⟩
  | str z => exact ⟨_, rfl, _, _, _, _, false, rfl, .ty _, .base (.str z), kit_ty (by decide +kernel), _, rfl, iteF q⟩
  | lst p xs n h t => exact ⟨_, rfl, _, _, _, _, false, rfl, .ty _, .base (.lst h), kit_ty (by decide +kernel), _, rfl, iteF q⟩
  | tup p xs n h t => exact ⟨_, rfl, _, _, _, _, false, rfl, .ty _, .base (.tup h), kit_ty (by decide +kernel), _, rfl, iteF q⟩
def kindL : List V → Bool
  | [.int b, .int m] => decide ((b = 2 ∨ b = 4 ∨ b = 8 ∨ b = 16) ∧ b / 2 ≤ m ∧ m ≤ b - 1)
  | _ => false
def kindO : Option HO → Bool
  | some (.tup xs) => kindL xs
  | _ => false
def kindV (H : Hp) : V → Bool
  | .ref p => kindO (H p)
  | _ => false
theorem kindL_2 {xs : List V} (h : xs.length ≠ 2) : kindL xs = false := by
  match xs, h with
  | [], _ => rfl
  | [_], _ => cases ‹V› <;> rfl
  | [_, _], h => exact absurd rfl h
  | x :: y :: _ :: _, _ => cases x <;> cases y <;> rfl
theorem kindL_x {x y : V} (h : isI x = false) : kindL [x, y] = false := by
  cases x <;> first | rfl | (cases h)
theorem kindL_y {x y : V} (h : isI y = false) : kindL [x, y] = false := by
  cases x <;> cases y <;> first | rfl | (cases h)
theorem isI_int {x : V} (h : isI x = true) : ∃ i, x = .int i := by
  cases x <;> first | exact ⟨_, rfl⟩ | (cases h)
theorem in4 {b : Int} : inV (.int b) [.int 2, .int 4, .int 8, .int 16] = decide (b = 2 ∨ b = 4 ∨ b = 8 ∨ b = 16) := by
  simp only [inV, eqV, List.any_cons, List.any_nil, Bool.or_false]
  by_cases h2 : b = 2
  · subst h2; rfl
  by_cases h4 : b = 4
  · subst h4; rfl
  by_cases h8 : b = 8
  · subst h8; rfl
  by_cases h6 : b = 16
  · subst h6; rfl
  have e : ∀ k : Int, b ≠ k → (k == b) = false := fun k h => beq_false_of_ne fun z => h z.symm
  rw [e _ h2, e _ h4, e _ h8, e _ h6, decide_eq_false (by omega)]
  rfl
theorem ok_is_whole (T : Txt K mg) : FnOk P w K mg base CX0 1 T.a_is_whole T.fd_is_whole ["thing"] (sp_isI K) := by
  refine T.F_is_whole.ok sc_is_whole (fun vs H Q E h => ?_) (fun cdv A outer s H vs Q E hr h => ?_)
  · obtain ⟨B, v, rfl, _⟩ := h
    rfl
  obtain ⟨B, v, rfl, ht, q⟩ := h
  refine ⟨_, (pss_one (ps_ret (pe_and (pe_callB call_isi (by rfl) T.z_isinstance (by decide +kernel) (pa_cons (pv 0) (pa_cons (pe_bltn (v := .ty "int") (u := .type "int") (by rfl) T.z_int (by decide +kernel) rfl) pa_nil))) (pe_one (pe_not (pe_callB call_isi (by rfl) T.z_isinstance (by decide +kernel) (pa_cons (pv 0) (pa_cons (pe_bltn (v := .ty "bool") (u := .type "bool") (by rfl) T.z_bool (by decide +kernel) rfl) pa_nil)))))))), ?_⟩
  cases ht with
  | int i => exact ⟨_, rfl, _, _, _, _, true, rfl, .ty _, .base (.int i), kit_ty (by decide +kernel), _, rfl, iteT ⟨_, rfl, _, _, _, _, false, rfl, .ty _, .base (.int i), kit_ty (by decide +kernel), _, rfl, q⟩⟩
  | bl b => exact ⟨_, rfl, _, _, _, _, true, rfl, .ty _, .base (.bl b), kit_ty (by decide +kernel), _, rfl, iteT ⟨_, rfl, _, _, _, _, true, rfl, .ty _, .base (.bl b), kit_ty (by decide +kernel), _, rfl, q⟩⟩
  | non => exact ⟨_, rfl, _, _, _, _, false, rfl, .ty _, .base .non, kit_ty (by decide +kernel), _, rfl, iteF q⟩
  | str z => exact ⟨_, rfl, _, _, _, _, false, rfl, .ty _, .base (.str z), kit_ty (by decide +kernel), _, rfl, iteF q⟩
  | lst p xs n h t => exact ⟨_, rfl, _, _, _, _, false, rfl, .ty _, .base (.lst h), kit_ty (by decide +kernel), _, rfl, iteF q⟩
  | tup p xs n h t => exact ⟨_, rfl, _, _, _, _, false, rfl, .ty _, .base (.tup h), kit_ty (by decide +kernel), _, rfl, iteF q⟩
def sp_is_kind (K : PySem.W.Frag) : Sp := fun vs H Q _ => ∃ (B : Addr → Prop) (v : V), vs = [v] ∧ Th B H v ∧ Q (.bl (kindV H v)) H
theorem ok_is_kind (T : Txt K mg) : FnOk P w K mg base CX0 2 T.a_is_kind T.fd_is_kind ["thing"] (sp_is_kind K) := by
  refine T.F_is_kind.ok sc_is_kind (fun vs H Q E h => ?_) (fun cdv A outer s H vs Q E hr h => ?_)
  · obtain ⟨B, v, rfl, _⟩ := h
    rfl
  obtain ⟨B, v, rfl, ht, q⟩ := h
  refine ⟨_, (pss_cons (ps_if (PW.pt (pw_or (pt_not (pt_val (pe_callB call_isi (by rfl) T.z_isinstance (by decide +kernel) (pa_cons (pv 0) (pa_cons (pe_bltn (v := .ty "tuple") (u := .type "tuple") (by rfl) T.z_tuple (by decide +kernel) rfl) pa_nil))))) (pw_or1 (pt_cmpR op_ne (pe_callB call_len_seq (by rfl) T.z_len (by decide +kernel) (pa_cons (pv 0) pa_nil)) pe_int (nomark _))))) (pss_one (ps_ret pe_bl)) pss_nil)
      (pss_cons (ps_asg (pv 0) (pg_tup rfl (pgs_cons (pg_name (i := 1) sc_is_kind.nd rfl (Or.inl rfl)) (pgs_cons (pg_name (i := 2) sc_is_kind.nd rfl (Or.inl rfl)) pgs_nil))))
      (pss_cons (ps_if (PW.pt (pw_or (pt_not (pt_val (pe_call (ok_is_whole T) (hr.mono (by first | decide | omega)) rfl T.m_is_whole T.F_is_whole.kp T.b_is_whole .nil pass0 (pa_cons (pv 1) pa_nil)))) (pw_or1 (pt_not (pt_val (pe_call (ok_is_whole T) (hr.mono (by first | decide | omega)) rfl T.m_is_whole T.F_is_whole.kp T.b_is_whole .nil pass0 (pa_cons (pv 2) pa_nil))))))) (pss_one (ps_ret pe_bl)) pss_nil)
      (pss_one (ps_ret (pe_and (pe_cmpR op_in_seq (pv 1) (pe_glob rfl T.m_BASES T.r_BASES) (by rfl)) (pe_one (pe_chain op_le op_le (pe_op op_fdiv (pv 1) pe_int) (pv 2) (pe_op op_sub (pv 1) pe_int))))))))), ?_⟩
  cases ht with
  | int i => exact ⟨_, rfl, _, _, _, _, false, rfl, .ty _, .base (.int i), kit_ty (by decide +kernel), _, rfl, iteT (iteT q)⟩
  | bl b => exact ⟨_, rfl, _, _, _, _, false, rfl, .ty _, .base (.bl b), kit_ty (by decide +kernel), _, rfl, iteT (iteT q)⟩
  | non => exact ⟨_, rfl, _, _, _, _, false, rfl, .ty _, .base .non, kit_ty (by decide +kernel), _, rfl, iteT (iteT q)⟩
  | str z => exact ⟨_, rfl, _, _, _, _, false, rfl, .ty _, .base (.str z), kit_ty (by decide +kernel), _, rfl, iteT (iteT q)⟩
  | lst p xs n h t =>
    have e : kindV H (.ref p) = false := by
      show kindO (H p) = false
      rw [h]
      rfl
    rw [e] at q
    exact ⟨_, rfl, _, _, _, _, false, rfl, .ty _, .base (.lst h), kit_ty (by decide +kernel), _, rfl, iteT (iteT q)⟩
  | tup p xs n h t =>
    have e : kindV H (.ref p) = kindL xs := by
      show kindO (H p) = _
      rw [h]
      rfl
    rw [e] at q
    refine ⟨_, rfl, _, _, _, _, true, rfl, .ty _, .base (.tup h), kit_ty (by decide +kernel), _, rfl, iteF ?_⟩
    refine ⟨_, rfl, p, xs, rfl, .inr (SqT.of h), rfl, _, rfl, ?_⟩
    by_cases hl : xs.length = 2
    · match xs, hl with
      | [x, y], _ =>
        refine iteF ?_
        refine ⟨_, rfl, p, [x, y], rfl, SqT.of h, rfl, _, _, rfl, _, _, rfl, rfl, ?_⟩
        have tx := t x (by simp)
        have ty := t y (by simp)
        refine ⟨_, rfl, B, x, rfl, tx, _, rfl, ?_⟩
        by_cases hx : isI x = true
        · rw [hx]
          refine iteF ?_
          refine ⟨_, rfl, B, y, rfl, ty, _, rfl, ?_⟩
          by_cases hy : isI y = true
          · rw [hy]
            refine iteF ?_
            obtain ⟨b, rfl⟩ := isI_int hx
            obtain ⟨m, rfl⟩ := isI_int hy
            refine ⟨_, rfl, _, _, rfl, .inr (T.t_BASES _), rfl, rfl, _, rfl, ?_⟩
            show if inV (.int b) [.int 2, .int 4, .int 8, .int 16] = true then _ else _
            rw [in4]
            have q' : Q (.bl (decide ((b = 2 ∨ b = 4 ∨ b = 8 ∨ b = 16) ∧ b / 2 ≤ m ∧ m ≤ b - 1))) H := q
            refine ite2 (fun c => ?_) (fun c => ?_)
            · have c1 := of_decide_eq_true c
              walk_at "rd"
              refine ite2 (fun c2 => ?_) (fun c2 => ?_)
              · have c3 : b / 2 ≤ m := of_decide_eq_true c2
                walk_at "rd"
                show Q (.bl (decide (m ≤ b - 1))) H
                by_cases z : m ≤ b - 1
                · rw [decide_eq_true z]; rw [decide_eq_true (by omega)] at q'; exact q'
                · rw [decide_eq_false z]; rw [decide_eq_false (by omega)] at q'; exact q'
              · have c3 : ¬ b / 2 ≤ m := of_decide_eq_false (Bool.eq_false_iff.mpr c2)
                rw [decide_eq_false (by omega)] at q'
                exact q'
            · have c1 := of_decide_eq_false (Bool.eq_false_iff.mpr c)
              rw [decide_eq_false (by omega)] at q'
              exact q'
          · have hy' : isI y = false := Bool.eq_false_iff.mpr hy
            rw [hy']
            rw [kindL_y hy'] at q
            exact iteT q
        · have hx' : isI x = false := Bool.eq_false_iff.mpr hx
          rw [hx']
          rw [kindL_x hx'] at q
          exact iteT (iteT q)
    · rw [kindL_2 hl] at q
      have e2 : decide (V.int (xs.length : Int) = V.int 2) = false := decide_eq_false fun z => hl (by injection z with z; omega)
      rw [e2]
      exact iteT q
def sp__law_due (K : PySem.W.Frag) : Sp := fun vs H Q _ => ∃ (B : Addr → Prop) (v : V), vs = [v] ∧ Th B H v ∧ ∀ H', Same H H' → Q (.bl (kindV H v)) H'
theorem ok__law_due (T : Txt K mg) : FnOk P w K mg base CX0 2 T.a__law_due T.fd__law_due ["thing"] (sp__law_due K) := by
  refine T.F__law_due.ok sc__law_due (fun vs H Q E h => ?_) (fun cdv A outer s H vs Q E hr h => ?_)
  · obtain ⟨B, v, rfl, _⟩ := h
    rfl
  obtain ⟨B, v, rfl, ht, q0⟩ := h
  have q := q0 H (Same.refl H)
  refine ⟨_, (pss_cons (ps_if (PW.pt (pw_or (pt_not (pt_val (pe_callB call_isi (by rfl) T.z_isinstance (by decide +kernel) (pa_cons (pv 0) (pa_cons (pe_bltn (v := .ty "tuple") (u := .type "tuple") (by rfl) T.z_tuple (by decide +kernel) rfl) pa_nil))))) (pw_or (pt_cmpR op_ne (pe_callB call_len_seq (by rfl) T.z_len (by decide +kernel) (pa_cons (pv 0) pa_nil)) pe_int (nomark _)) (pw_or (pt_not (pt_val (pe_call (ok__law_whole T) (hr.mono (by first | decide | omega)) rfl T.m__law_whole T.F__law_whole.kp T.b__law_whole .nil pass0 (pa_cons (pe_ix ix_tup (pv 0) pe_int (fun _ _ => rfl)) pa_nil)))) (pw_or1 (pt_not (pt_val (pe_call (ok__law_whole T) (hr.mono (by first | decide | omega)) rfl T.m__law_whole T.F__law_whole.kp T.b__law_whole .nil pass0 (pa_cons (pe_ix ix_tup (pv 0) pe_int (fun _ _ => rfl)) pa_nil))))))))) (pss_one (ps_ret pe_bl)) pss_nil)
      (pss_one (ps_ret (pe_and (pe_cmpR op_in_seq (pe_ix ix_tup (pv 0) pe_int (fun _ _ => rfl)) (pe_lst (pa_cons pe_int (pa_cons pe_int (pa_cons pe_int (pa_cons pe_int pa_nil))))) (by rfl)) (pe_one (pe_chain op_le op_le (pe_ix ix_tup (pv 0) pe_int (fun _ _ => rfl)) (pe_op op_mul pe_int (pe_ix ix_tup (pv 0) pe_int (fun _ _ => rfl))) (pe_op op_sub (pe_op op_mul pe_int (pe_ix ix_tup (pv 0) pe_int (fun _ _ => rfl))) pe_int))))))), ?_⟩
  cases ht with
  | int i => exact ⟨_, rfl, _, _, _, _, false, rfl, .ty _, .base (.int i), kit_ty (by decide +kernel), _, rfl, iteT (iteT q)⟩
  | bl b => exact ⟨_, rfl, _, _, _, _, false, rfl, .ty _, .base (.bl b), kit_ty (by decide +kernel), _, rfl, iteT (iteT q)⟩
  | non => exact ⟨_, rfl, _, _, _, _, false, rfl, .ty _, .base .non, kit_ty (by decide +kernel), _, rfl, iteT (iteT q)⟩
  | str z => exact ⟨_, rfl, _, _, _, _, false, rfl, .ty _, .base (.str z), kit_ty (by decide +kernel), _, rfl, iteT (iteT q)⟩
  | lst p xs n h t =>
    have e : kindV H (.ref p) = false := by
      show kindO (H p) = false
      rw [h]
      rfl
    rw [e] at q
    exact ⟨_, rfl, _, _, _, _, false, rfl, .ty _, .base (.lst h), kit_ty (by decide +kernel), _, rfl, iteT (iteT q)⟩
  | tup p xs n h t =>
    have e : kindV H (.ref p) = kindL xs := by
      show kindO (H p) = _
      rw [h]
      rfl
    rw [e] at q q0
    refine ⟨_, rfl, _, _, _, _, true, rfl, .ty _, .base (.tup h), kit_ty (by decide +kernel), _, rfl, iteF ?_⟩
    refine ⟨_, rfl, p, xs, rfl, .inr (SqT.of h), rfl, _, rfl, ?_⟩
    by_cases hl : xs.length = 2
    · match xs, hl with
      | [x, y], _ =>
        refine iteF ?_
        have tx := t x (by simp)
        have ty := t y (by simp)
        walk_at "rd"
        refine ⟨B, x, rfl, tx, _, rfl, ?_⟩
        by_cases hx : isI x = true
        · rw [hx]
          refine iteF ?_
          walk_at "rd"
          refine ⟨B, y, rfl, ty, _, rfl, ?_⟩
          by_cases hy : isI y = true
          · rw [hy]
            refine iteF ?_
            obtain ⟨b, rfl⟩ := isI_int hx
            obtain ⟨m, rfl⟩ := isI_int hy
            walk_at "rd"
            refine ⟨by show 4 ≤ sizeLine; decide, fun r hr' => ?_⟩
            have h2 : (upd H r (.lst [.int 2, .int 4, .int 8, .int 16])) p = some (.tup [.int b, .int m]) := same_new hr' _ _ _ h
            refine ⟨r, _, rfl, .inl (SqL.of upd_same), rfl, rfl, _, rfl, ?_⟩
            show if inV (.int b) [.int 2, .int 4, .int 8, .int 16] = true then _ else _
            rw [in4]
            have q' : Q (.bl (decide ((b = 2 ∨ b = 4 ∨ b = 8 ∨ b = 16) ∧ b / 2 ≤ m ∧ m ≤ b - 1))) _ := q0 _ (same_new hr' (.lst [.int 2, .int 4, .int 8, .int 16]))
            refine ite2 (fun c => ?_) (fun c => ?_)
            · have c1 := of_decide_eq_true c
              walk_at "rd"
              refine ite2 (fun c2 => ?_) (fun c2 => ?_)
              · have c3 : b ≤ 2 * m := of_decide_eq_true c2
                walk_at "rd"
                show Q (.bl (decide (2 * m ≤ 2 * b - 2))) _
                by_cases z : 2 * m ≤ 2 * b - 2
                · rw [decide_eq_true z]; rw [decide_eq_true (by omega)] at q'; exact q'
                · rw [decide_eq_false z]; rw [decide_eq_false (by omega)] at q'; exact q'
              · have c3 : ¬ b ≤ 2 * m := of_decide_eq_false (Bool.eq_false_iff.mpr c2)
                rw [decide_eq_false (by omega)] at q'
                exact q'
            · have c1 := of_decide_eq_false (Bool.eq_false_iff.mpr c)
              rw [decide_eq_false (by omega)] at q'
              exact q'
          · have hy' : isI y = false := Bool.eq_false_iff.mpr hy
            rw [hy']
            rw [kindL_y hy'] at q
            exact iteT q
        · have hx' : isI x = false := Bool.eq_false_iff.mpr hx
          rw [hx']
          rw [kindL_x hx'] at q
          exact iteT (iteT q)
    · rw [kindL_2 hl] at q
      have e2 : decide (V.int (xs.length : Int) = V.int 2) = false := decide_eq_false fun z => hl (by injection z with z; omega)
      rw [e2]
      exact iteT (iteT q)
/-! ### worth -/
def worthOf (b : Int) (ns : List Int) : Int := ns.foldl (fun t x => t * b + x) 0
theorem foldl_worth (b : Int) : ∀ (ns : List Int) (t : Int), ns.foldl (fun t x => t * b + x) t = t * b ^ ns.length + worthOf b ns
  | [], t => by
    show t = t * b ^ 0 + 0
    rw [Int.pow_zero, Int.mul_one, Int.add_zero]
  | x :: r, t => by
    show r.foldl (fun t x => t * b + x) (t * b + x) = t * b ^ (r.length + 1) + r.foldl (fun t x => t * b + x) (0 * b + x)
    rw [foldl_worth b r (t * b + x), foldl_worth b r (0 * b + x), Int.pow_succ]
    rw [Int.add_mul, Int.zero_mul, Int.zero_add, Int.mul_assoc, Int.mul_comm b, Int.add_assoc]
theorem worth_cons (b x : Int) (r : List Int) : worthOf b (x :: r) = x * b ^ r.length + worthOf b r := by
  show r.foldl (fun t x => t * b + x) (0 * b + x) = _
  rw [foldl_worth, Int.zero_mul, Int.zero_add]
theorem worth_snoc (b x : Int) (r : List Int) : worthOf b (r ++ [x]) = worthOf b r * b + x := by
  unfold worthOf
  rw [List.foldl_append]
  rfl
theorem take_snoc {ns : List Int} {i : Nat} {x : Int} (h : ns[i]? = some x) : ns.take (i + 1) = ns.take i ++ [x] := by
  rw [List.take_add_one, h]
  rfl
theorem map_at {ns : List Int} {i : Nat} {x : V} (h : (ns.map V.int)[i]? = some x) : ∃ y, x = .int y ∧ ns[i]? = some y := by
  rw [List.getElem?_map] at h
  cases e : ns[i]? with
  | none => rw [e] at h; cases h
  | some y => rw [e] at h; exact ⟨y, (Option.some.inj h).symm, rfl⟩
def sp_worth (K : PySem.W.Frag) : Sp := fun vs H Q _ => ∃ (k r : Addr) (b m : Int) (ns : List Int), vs = [.ref k, .ref r] ∧ SqT K H k [.int b, .int m] ∧ SqL K H r (ns.map V.int) ∧ -(2 ^ 64) < b ∧ b < 2 ^ 64 ∧ Q (.int (worthOf b ns)) H
theorem ok_worth (T : Txt K mg) : FnOk P w K mg base CX0 1 T.a_worth T.fd_worth ["kind", "row"] (sp_worth K) := by
  refine T.F_worth.ok sc_worth (fun vs H Q E h => ?_) (fun cdv A outer s H vs Q E hr h => ?_)
  · obtain ⟨k, r, b, m, ns, rfl, _⟩ := h
    rfl
  obtain ⟨k, r, b, m, ns, rfl, hk, hs, h0, h1, q⟩ := h
  refine ⟨_, (pss_cons (ps_set (i := 2) sc_worth.nd rfl (Or.inl rfl) (pe_ix ix_tup (pv 0) pe_int (fun _ _ => rfl)))
      (pss_cons (ps_set (i := 3) sc_worth.nd rfl (Or.inl rfl) pe_int)
      (pss_cons (ps_for PassesOwn.never rfl (pi_list (pv 1)) (pg_name (i := 4) sc_worth.nd rfl (Or.inl rfl)) (pss_one (ps_set (i := 3) sc_worth.nd rfl (Or.inl rfl) (pe_op op_add (pe_op op_mul (pv 3) (pv 2)) (pv 4)))))
      (pss_one (ps_ret (pv 3)))))), ?_⟩
  walk_at "rd"
  refine ⟨⟨_, hs⟩, for_list (xs := ns.map V.int) (fun i σ H' => H' = H ∧ ∃ f : Option V, σ = [some (.ref k), some (.ref r), some (.int b), some (.int (worthOf b (ns.take i))), f]) ⟨rfl, none, rfl⟩ (fun i σ H' _ e => by rw [e.1]; exact hs) ?_ ?_⟩
  · rintro i x σ H' hx ⟨rfl, f, rfl⟩
    obtain ⟨y, rfl, hy⟩ := map_at hx
    walk_at "rd"
    refine ⟨.inr ⟨h0, h1⟩, ?_⟩
    walk_at "rd"
    refine ⟨rfl, some (.int y), ?_⟩
    rw [take_snoc hy, worth_snoc]
    rfl
  · rintro σ H' ⟨rfl, f, rfl⟩
    walk_at "rd"
    rw [List.length_map, List.take_length]
    exact q
def sp_bits_of (K : PySem.W.Frag) : Sp := fun vs H Q _ => ∃ b : Int, vs = [.int b] ∧ Q (.int ((Builtin.Int.intBits b : Nat) - 1)) H
theorem ok_bits_of (T : Txt K mg) : FnOk P w K mg base CX0 1 T.a_bits_of T.fd_bits_of ["base"] (sp_bits_of K) := by
  refine T.F_bits_of.ok sc_bits_of (fun vs H Q E h => ?_) (fun cdv A outer s H vs Q E hr h => ?_)
  · obtain ⟨b, rfl, _⟩ := h
    rfl
  obtain ⟨b, rfl, q⟩ := h
  refine ⟨_, (pss_one (ps_ret (pe_op op_sub (pe_bits (pv 0)) pe_int))), ?_⟩
  walk_at "rd"
  exact q
def pc : Nat → Nat
  | 0 => 5
  | d + 1 => 5 + 3 * pc d
def sp_thing (K : PySem.W.Frag) : Nat → Sp
  | 0 => fun _ _ _ _ => False
  | d + 1 => fun vs H Q _ => ∃ (a : Addr) (n : Nat), vs = [.ref a, .int d] ∧ Deck H a n ∧ n + pc d ≤ 900000000 ∧
    ∀ v H', Keep a H H' → Deck H' a (n + pc d) → Th (fun p => H p = none) H' v → Q v H'
theorem ok_thing0 (T : Txt K mg) : FnOk P w K mg base CX0 1 T.a__law_thing T.fd__law_thing ["deck", "deep"] (sp_thing K 0) :=
  ⟨fun vs H Q E h => h.elim, fun A outer s H args us vs Q E _ _ _ _ h => h.elim⟩
theorem ok_thing1 (T : Txt K mg) (d : Nat) (G__law_thing : FnOk P w K mg base CX0 (d + 1) T.a__law_thing T.fd__law_thing ["deck", "deep"] (sp_thing K d)) :
    FnOk P w K mg base CX0 (d + 2) T.a__law_thing T.fd__law_thing ["deck", "deep"] (sp_thing K (d + 1)) := by
  refine T.F__law_thing.ok sc__law_thing (fun vs H Q E h => ?_) (fun cdv A outer s H vs Q E hr h => ?_)
  · obtain ⟨a, n, rfl, _⟩ := h
    rfl
  obtain ⟨a, n, rfl, hd, hn, q⟩ := h
  refine ⟨_, (pss_cons (ps_set (i := 2) sc__law_thing.nd rfl (Or.inl rfl) (pe_call (ok__law_pick T) (hr.mono (by first | decide | omega)) rfl T.m__law_pick T.F__law_pick.kp T.b__law_pick .nil pass0 (pa_cons (pv 0) (pa_cons pe_int pa_nil))))
      (pss_cons (ps_set (i := 3) sc__law_thing.nd rfl (Or.inl rfl) (pe_ix ix_list (pe_lst (pa_cons (pe_op op_sub (pe_call (ok__law_pick T) (hr.mono (by first | decide | omega)) rfl T.m__law_pick T.F__law_pick.kp T.b__law_pick .nil pass0 (pa_cons (pv 0) (pa_cons pe_int pa_nil))) pe_int) (pa_cons (pe_op op_sub (pe_call (ok__law_pick T) (hr.mono (by first | decide | omega)) rfl T.m__law_pick T.F__law_pick.kp T.b__law_pick .nil pass0 (pa_cons (pv 0) (pa_cons (pe_op op_pow pe_int pe_int) pa_nil))) (pe_op op_pow pe_int pe_int)) (pa_cons (pe_op op_sub pe_int (pe_op op_pow pe_int pe_int)) pa_nil)))) (pe_call (ok__law_pick T) (hr.mono (by first | decide | omega)) rfl T.m__law_pick T.F__law_pick.kp T.b__law_pick .nil pass0 (pa_cons (pv 0) (pa_cons pe_int pa_nil))) (fun _ _ => rfl)))
      (pss_cons (ps_if (pt_cmpR op_lt (pv 2) pe_int (nomark _)) (pss_one (ps_ret (pv 3))) pss_nil)
      (pss_cons (ps_if (pt_cmpR op_lt (pv 2) pe_int (nomark _)) (pss_one (ps_ret (pe_ix ix_list (pe_lst (pa_cons pe_bl (pa_cons pe_bl (pa_cons pe_non pa_nil)))) (pe_op op_sub (pv 2) pe_int) (fun _ _ => rfl)))) pss_nil)
      (pss_cons (ps_if (pt_cmpR op_lt (pv 2) pe_int (nomark _)) (pss_one (ps_ret (pe_ix ix_list (pe_lst (pa_cons pe_str (pa_cons pe_str (pa_cons pe_str (pa_cons pe_str (pa_cons pe_str (pa_cons pe_str pa_nil))))))) (pe_call (ok__law_pick T) (hr.mono (by first | decide | omega)) rfl T.m__law_pick T.F__law_pick.kp T.b__law_pick .nil pass0 (pa_cons (pv 0) (pa_cons pe_int pa_nil))) (fun _ _ => rfl)))) pss_nil)
      (pss_cons (ps_setLc (i := 4) (own := [("k", 5)]) (g := (gName 5)) (tt := tYes) rfl sc__law_thing.nd rfl rfl (sw_true rfl rfl rfl (by decide +kernel)) (pi_range1 (by rfl) T.z_range (pa_cons (pe_op op_mul (pe_call (ok__law_pick T) (hr.mono (by first | decide | omega)) rfl T.m__law_pick T.F__law_pick.kp T.b__law_pick .nil pass0 (pa_cons (pv 0) (pa_cons pe_int pa_nil))) (pe_callTy call_int1 (by rfl) T.z_int (by decide +kernel) (pa_cons (pe_cmpR op_gt (pv 1) pe_int (nomark _)) pa_nil))) pa_nil)) (blkOk_by (own := [("k", 5)]) (N := ["deck", "deep", "kind", "far", "some", "k"]) (sc := defScope s__law_thing) (by decide +kernel)) (fun _ _ _ _ _ => (pg_name (i := 5) sc__law_thing.nd rfl (Or.inl rfl))) (fun _ _ _ _ _ => pts_nil) (fun _ _ _ _ _ => (pe_call G__law_thing (hr.mono (by first | decide | omega)) rfl T.m__law_thing T.F__law_thing.kp T.b__law_thing .nil pass0 (pa_cons (pv 0) (pa_cons (pe_op op_sub (pv 1) pe_int) pa_nil)))))
      (pss_one (ps_ret (pe_ifExp (pt_cmpR op_eq (pv 2) pe_int (nomark _)) (pv 4) (pe_callTy call_tuple_of (by rfl) T.z_tuple (by decide +kernel) (pa_cons (pv 4) pa_nil))))))))))), ?_⟩
  have p5 : 5 ≤ pc d := by cases d <;> simp [pc]
  walk_at "rd"
  refine ⟨a, 12, n, rfl, hd, by omega, by decide, lt_pow (by decide) (by decide), fun kd H1 kd0 kd1 k1 d1 => ?_⟩
  walk_at "rd"
  refine ⟨a, 18, n + 1, rfl, d1, by omega, by decide, lt_pow (by decide) (by decide), fun v1 H2 v10 v11 k2 d2 => ?_⟩
  walk_at "rd"
  refine ⟨a, _, n + 2, rfl, d2, by omega, by decide +kernel, lt_pow (by decide +kernel) (by decide +kernel), fun v2 H3 v20 v21 k3 d3 => ?_⟩
  walk_at "rd"
  refine ⟨by show 3 ≤ sizeLine; decide, fun l hl => ?_⟩
  walk_at "rd"
  refine ⟨a, 3, n + 3, rfl, d3.same (same_new hl _), by omega, by decide, lt_pow (by decide) (by decide), fun v3 H4 v30 v31 k4 d4 => ?_⟩
  have hl4 := k4 _ _ (d3.ne hl) upd_same
  obtain ⟨y, hy, my⟩ := at_some (xs := [V.int (v1 - 1), .int (v2 - 10 ^ (12 : Int).toNat), .int (0 - 10 ^ (59 : Int).toNat)]) v30 v31
  refine ⟨l, _, v3, y, rfl, rfl, SqL.of hl4, hy, ?_⟩
  have hb : ∃ b : Int, y = .int b := by
    simp only [List.mem_cons, List.not_mem_nil, or_false] at my
    rcases my with e | e | e <;> exact ⟨_, e⟩
  obtain ⟨far, rfl⟩ := hb
  have kk : Keep a H H4 := k1.trans (k2.trans (k3.trans ((Keep.new hl).trans k4)))
  walk_at "rd"
  refine ite2 (fun c => ?_) (fun c => ?_)
  · walk_at "rd"
    exact q _ _ kk (d4.le (by omega)) (.int _)
  have c4 : ¬ kd < 4 := of_decide_eq_false (Bool.eq_false_iff.mpr c)
  walk_at "rd"
  refine ite2 (fun c => ?_) (fun c => ?_)
  · have c7 : kd < 7 := of_decide_eq_true c
    refine ⟨by show 3 ≤ sizeLine; decide, fun l2 hl2 => ?_⟩
    walk_at "rd"
    obtain ⟨y, hy, my⟩ := at_some (xs := [V.bl true, .bl false, .non]) (i := kd - 4) (by omega) (by show kd - 4 < 3; omega)
    refine ⟨l2, _, _, y, rfl, rfl, SqL.of upd_same, hy, ?_⟩
    refine q _ _ (kk.trans (Keep.new hl2)) ((d4.same (same_new hl2 _)).le (by omega)) ?_
    simp only [List.mem_cons, List.not_mem_nil, or_false] at my
    rcases my with e | e | e <;> rw [e]
    · exact .bl _
    · exact .bl _
    · exact .non
  have c7 : ¬ kd < 7 := of_decide_eq_false (Bool.eq_false_iff.mpr c)
  walk_at "rd"
  refine ite2 (fun c => ?_) (fun c => ?_)
  · refine ⟨by show 6 ≤ sizeLine; decide, fun l2 hl2 => ?_⟩
    walk_at "rd"
    refine ⟨a, 6, n + 4, rfl, d4.same (same_new hl2 _), by omega, by decide, lt_pow (by decide) (by decide), fun v5 H5 v50 v51 k5 d5 => ?_⟩
    have hl5 := k5 _ _ (d4.ne hl2) upd_same
    obtain ⟨y, hy, my⟩ := at_some (xs := [V.str "", .str "4", .str "none", .str "(4, 2)", .str "-1", .str "."]) v50 v51
    refine ⟨l2, _, _, y, rfl, rfl, SqL.of hl5, hy, ?_⟩
    refine q _ _ (kk.trans ((Keep.new hl2).trans k5)) (d5.le (by omega)) ?_
    simp only [List.mem_cons, List.not_mem_nil, or_false] at my
    rcases my with e | e | e | e | e | e <;> rw [e] <;> exact .str _
  walk_at "rd"
  refine ⟨a, 4, n + 4, rfl, d4, by omega, by decide, lt_pow (by decide) (by decide), fun v5 H5 v50 v51 k5 d5 => ?_⟩
  have kk5 := kk.trans k5
  walk_at "rd"
  refine .inr ⟨_, rfl, ?_⟩
  walk_at "rd"
  refine ⟨.inl ⟨by omega, by omega⟩, ?_⟩
  have hj : ∃ j : Int, v5 * (if decide ((0 : Int) < (d : Int)) = true then 1 else 0) = j ∧ 0 ≤ j ∧ j ≤ 3 ∧ (0 < j → 0 < d) := by
    by_cases z : (0 : Int) < (d : Int)
    · exact ⟨v5, by rw [decide_eq_true z]; simp, v50, by omega, fun _ => by omega⟩
    · exact ⟨0, by rw [decide_eq_false z]; simp, by decide, by decide, fun z => by omega⟩
  obtain ⟨j, ej, j0, j3, jd⟩ := hj
  walk_at "rd"
  rw [ej]
  refine ⟨by omega, by omega, fun D hD => lc_range (lo := 0) (n := j.toNat) (fun i H' => ∃ acc, H' D = some (.lst acc) ∧ acc.length = i ∧ Keep a H5 H' ∧ Deck H' a (n + 5 + i * pc (d - 1)) ∧ ∀ x ∈ acc, Th (fun p => (upd H5 D (.lst [])) p = none) H' x) ?_ ?_ ?_⟩
  · exact ⟨[], upd_same, rfl, Keep.new hD, (d5.same (same_new hD _)).le (by omega), fun x hx => by cases hx⟩
  · rintro i H' hi ⟨acc, hA, hAl, hk, hdk, hth⟩
    obtain ⟨d', rfl⟩ : ∃ d', d = d' + 1 := ⟨d - 1, by have := jd (by omega); omega⟩
    have pe : pc (d' + 1) = 5 + 3 * pc d' := rfl
    have e1 : d' + 1 - 1 = d' := rfl
    rw [e1] at hdk
    have i3 : i ≤ 2 := by omega
    have im : i * pc d' + pc d' = (i + 1) * pc d' := by rw [Nat.add_mul, Nat.one_mul]
    have im3 : (i + 1) * pc d' ≤ 3 * pc d' := Nat.mul_le_mul_right _ (by omega)
    refine ⟨rfl, ?_⟩
    unfold tYes
    refine iteT ?_
    walk_at "rd"
    refine ⟨a, n + 5 + i * pc d', ?_, hdk, by omega, fun v H6 k6 d6 t6 => ?_⟩
    · exact congrArg (fun t : Int => [V.ref a, V.int t]) (show ((d' + 1 : Nat) : Int) - 1 = (d' : Int) by omega)
    have nD : D ≠ a := d5.ne hD
    have hA6 := k6 _ _ nD hA
    have keepNew : ∀ p o, (upd H5 D (.lst [])) p = none → H' p = some o → (upd H6 D (.lst (acc ++ [v]))) p = some o := fun p o e1 e2 => by
      have n1 : p ≠ D := fun z => by rw [z, upd_same] at e1; cases e1
      have n2 : p ≠ a := (d5.same (same_new hD (.lst []))).ne e1
      rw [upd_ne n1]
      exact k6 _ _ n2 e2
    refine ⟨acc, hA6, by rw [hAl]; exact small1000 (by omega), acc ++ [v], upd_same, by rw [List.length_append, hAl]; rfl, ?_, ?_, ?_⟩
    · intro b o nb hb
      have : H6 b = some o := k6 _ _ nb (hk _ _ nb hb)
      rw [upd_ne (ne_of_none hb hD)]
      exact this
    · obtain ⟨x0, x1, x2, y0, y1⟩ := d6
      exact ⟨x0, x1, x2, by rw [upd_ne (fun z => nD z.symm)]; exact y0, y1.1, y1.2.1, y1.2.2.1, y1.2.2.2.1, by have := y1.2.2.2.2; rw [e1]; omega⟩
    · intro x hx
      rcases List.mem_append.mp hx with hx | hx
      · exact (hth x hx).keep keepNew fun _ z => z
      · have e : x = v := by simpa using hx
        subst e
        refine t6.keep (fun p o e1 e2 => ?_) (fun p e1 => ?_)
        · rw [upd_ne (fun z => by rw [z, hA] at e1; cases e1)]
          exact e2
        · cases e2 : (upd H5 D (.lst [])) p with
          | none => rfl
          | some o =>
            by_cases n1 : p = D
            · rw [n1, hA] at e1; cases e1
            · rw [upd_ne n1] at e2
              by_cases n2 : p = a
              · obtain ⟨o2, z⟩ := hdk.some
                rw [n2, z] at e1; cases e1
              · rw [hk _ _ n2 e2] at e1; cases e1
  · rintro H' ⟨acc, hA, hAl, hk, hdk, hth⟩
    have ej3 : j.toNat * pc (d - 1) + 5 ≤ pc d := by
      cases d with
      | zero =>
        have : j.toNat = 0 := by have := jd; omega
        rw [this]; simp [pc]
      | succ d' =>
        show j.toNat * pc d' + 5 ≤ 5 + 3 * pc d'
        have : j.toNat * pc d' ≤ 3 * pc d' := Nat.mul_le_mul_right _ (by omega)
        omega
    have nD : D ≠ a := d5.ne hD
    have newD : H D = none := by
      cases e : H D with
      | none => rfl
      | some o => rw [kk5 _ _ nD e] at hD; cases hD
    have upp : ∀ p, (upd H5 D (.lst [])) p = none → H p = none := fun p e1 => by
      cases e2 : H p with
      | none => rfl
      | some o =>
        have n1 : p ≠ D := fun z => by rw [z, upd_same] at e1; cases e1
        have n2 : p ≠ a := (d5.same (same_new hD (.lst []))).ne e1
        rw [upd_ne n1, kk5 _ _ n2 e2] at e1
        cases e1
    have tt : ∀ x ∈ acc, Th (fun p => H p = none) H' x := fun x hx => (hth x hx).keep (fun _ _ _ e => e) upp
    walk_at "rd"
    refine ite2 (fun c => ?_) (fun c => ?_)
    · walk_at "rd"
      exact q _ _ (kk5.trans hk) (hdk.le (by omega)) (.lst D acc newD hA tt)
    · refine ⟨_, rfl, D, acc, rfl, .inl ⟨SqL.of hA, fun l3 hl3 => ?_⟩⟩
      refine q _ _ ((kk5.trans hk).trans (Keep.new hl3)) ((hdk.same (same_new hl3 _)).le (by omega)) ?_
      have n3 : l3 ≠ a := hdk.ne hl3
      have new3 : H l3 = none := by
        cases e : H l3 with
        | none => rfl
        | some o => rw [(kk5.trans hk) _ _ n3 e] at hl3; cases hl3
      exact .tup l3 acc new3 upd_same fun x hx => (tt x hx).keep (fun p o _ e => same_new hl3 _ _ _ e) fun _ z => z
theorem ok_thing (T : Txt K mg) : ∀ d : Nat, FnOk P w K mg base CX0 (d + 1) T.a__law_thing T.fd__law_thing ["deck", "deep"] (sp_thing K d)
  | 0 => ok_thing0 T
  | d + 1 => ok_thing1 T d (ok_thing T d)
theorem ok__law_thing (T : Txt K mg) : FnOk P w K mg base CX0 5 T.a__law_thing T.fd__law_thing ["deck", "deep"] (sp_thing K 4) := ok_thing T 4
theorem dp_ints {H : Hp} : ∀ xs : List Int, DpAll K H (xs.map V.int) (xs.map PyData.int)
  | [] => .nil
  | x :: r => .cons (.int x) (dp_ints r)
def sp_law (K : PySem.W.Frag) : Sp := fun vs H Q _ => ∃ (a : Addr) (ns : List Int), vs = [.ref a] ∧ SqL K H a (ns.map V.int) ∧ ns.length ≤ 63 ∧ (∀ z ∈ ns, Builtin.Int.intBits z ≤ 1048576) ∧ ∀ H', Q (.bl true) H'
theorem ok_law (T : Txt K mg) : FnOk P w K mg base CX0 6 T.a_law T.fd_law ["script"] (sp_law K) := by
  refine T.F_law.ok sc_law (fun vs H Q E h => ?_) (fun cdv A outer s H vs Q E hr h => ?_)
  · obtain ⟨a, ns, rfl, _⟩ := h
    rfl
  obtain ⟨sa, ns, rfl, hS, h63, hbits, q⟩ := h
  refine ⟨_, (pss_cons (ps_set (i := 1) sc_law.nd rfl (Or.inl rfl) (pe_call (ok__law_deck T) (hr.mono (by first | decide | omega)) rfl T.m__law_deck T.F__law_deck.kp T.b__law_deck .nil pass0 (pa_cons (pe_ix ix_list (pe_op op_catR (pv 0) (pe_lst (pa_cons pe_int pa_nil))) pe_int (fun _ _ => rfl)) (pa_cons pe_int pa_nil))))
      (pss_cons (ps_for PassesOwn.never rfl (pi_range1 (by rfl) T.z_range (pa_cons (pe_op op_add pe_int (pe_call (ok__law_pick T) (hr.mono (by first | decide | omega)) rfl T.m__law_pick T.F__law_pick.kp T.b__law_pick .nil pass0 (pa_cons (pv 1) (pa_cons pe_int pa_nil)))) pa_nil)) (pg_name (i := 2) sc_law.nd rfl (Or.inl rfl)) (pss_cons (ps_set (i := 3) sc_law.nd rfl (Or.inl rfl) (pe_call (ok__law_thing T) (hr.mono (by first | decide | omega)) rfl T.m__law_thing T.F__law_thing.kp T.b__law_thing .nil pass0 (pa_cons (pv 1) (pa_cons pe_int pa_nil))))
      (C8.pss_cut (ps_if (pt_cmpR op_eq (pe_call (ok__law_pick T) (hr.mono (by first | decide | omega)) rfl T.m__law_pick T.F__law_pick.kp T.b__law_pick .nil pass0 (pa_cons (pv 1) (pa_cons pe_int pa_nil))) pe_int (nomark _)) (pss_cons (ps_set (i := 4) sc_law.nd rfl (Or.inl rfl) (pe_ix ix_list (pe_lst (pa_cons pe_int (pa_cons pe_int (pa_cons pe_int (pa_cons pe_int (pa_cons (pe_op op_add pe_int (pe_call (ok__law_pick T) (hr.mono (by first | decide | omega)) rfl T.m__law_pick T.F__law_pick.kp T.b__law_pick .nil pass0 (pa_cons (pv 1) (pa_cons pe_int pa_nil)))) pa_nil)))))) (pe_call (ok__law_pick T) (hr.mono (by first | decide | omega)) rfl T.m__law_pick T.F__law_pick.kp T.b__law_pick .nil pass0 (pa_cons (pv 1) (pa_cons pe_int pa_nil))) (fun _ _ => rfl)))
      (pss_one (ps_set (i := 3) sc_law.nd rfl (Or.inl rfl) (pe_tup (pa_cons (pv 4) (pa_cons (pe_ix ix_list (pe_lst (pa_cons (pe_op op_sub (pe_op op_add (pe_op op_fdiv (pv 4) pe_int) (pe_call (ok__law_pick T) (hr.mono (by first | decide | omega)) rfl T.m__law_pick T.F__law_pick.kp T.b__law_pick .nil pass0 (pa_cons (pv 1) (pa_cons pe_int pa_nil)))) pe_int) (pa_cons (pe_op op_sub (pv 4) (pe_call (ok__law_pick T) (hr.mono (by first | decide | omega)) rfl T.m__law_pick T.F__law_pick.kp T.b__law_pick .nil pass0 (pa_cons (pv 1) (pa_cons pe_int pa_nil)))) pa_nil))) (pe_call (ok__law_pick T) (hr.mono (by first | decide | omega)) rfl T.m__law_pick T.F__law_pick.kp T.b__law_pick .nil pass0 (pa_cons (pv 1) (pa_cons pe_int pa_nil))) (fun _ _ => rfl)) pa_nil)))))) pss_nil)
      (pss_cons (ps_set (i := 5) sc_law.nd rfl (Or.inl rfl) (pe_call (ok_is_kind T) (hr.mono (by first | decide | omega)) rfl T.m_is_kind T.F_is_kind.kp T.b_is_kind .nil pass0 (pa_cons (pv 3) pa_nil)))
      (pss_one (ps_if (PW.pt (pw_or (pt_not (pt_val (pe_callB call_isi (by rfl) T.z_isinstance (by decide +kernel) (pa_cons (pv 5) (pa_cons (pe_bltn (v := .ty "bool") (u := .type "bool") (by rfl) T.z_bool (by decide +kernel) rfl) pa_nil))))) (pw_or1 (pt_cmpR op_ne (pv 5) (pe_call (ok__law_due T) (hr.mono (by first | decide | omega)) rfl T.m__law_due T.F__law_due.kp T.b__law_due .nil pass0 (pa_cons (pv 3) pa_nil)) (nomark _))))) (pss_one (ps_ret pe_bl)) pss_nil))))))
      (pss_cons (ps_set (i := 6) sc_law.nd rfl (Or.inl rfl) (pe_call (ok__law_kind T) (hr.mono (by first | decide | omega)) rfl T.m__law_kind T.F__law_kind.kp T.b__law_kind .nil pass0 (pa_cons (pv 1) pa_nil)))
      (pss_cons (ps_set (i := 7) sc_law.nd rfl (Or.inl rfl) (pe_lst pa_nil))
      (pss_cons (ps_for PassesOwn.never rfl (pi_range1 (by rfl) T.z_range (pa_cons (pe_ix ix_list (pe_lst (pa_cons pe_int (pa_cons (pe_call (ok__law_pick T) (hr.mono (by first | decide | omega)) rfl T.m__law_pick T.F__law_pick.kp T.b__law_pick .nil pass0 (pa_cons (pv 1) (pa_cons pe_int pa_nil))) (pa_cons (pe_call (ok__law_pick T) (hr.mono (by first | decide | omega)) rfl T.m__law_pick T.F__law_pick.kp T.b__law_pick .nil pass0 (pa_cons (pv 1) (pa_cons pe_int pa_nil))) pa_nil)))) (pe_call (ok__law_pick T) (hr.mono (by first | decide | omega)) rfl T.m__law_pick T.F__law_pick.kp T.b__law_pick .nil pass0 (pa_cons (pv 1) (pa_cons pe_int pa_nil))) (fun _ _ => rfl)) pa_nil)) (pg_name (i := 8) sc_law.nd rfl (Or.inl rfl)) (pss_cons (ps_set (i := 9) sc_law.nd rfl (Or.inl rfl) (pe_call (ok__law_pick T) (hr.mono (by first | decide | omega)) rfl T.m__law_pick T.F__law_pick.kp T.b__law_pick .nil pass0 (pa_cons (pv 1) (pa_cons pe_int pa_nil))))
      (pss_one (ps_expr (pe_bm PySem.F.plainAttrs_list PySem.F.slot_list_append PySem.F.type_list_append mt_append (pv 7) (pa_cons (pe_ix ix_list (pe_lst (pa_cons (pe_op op_sub (pe_call (ok__law_pick T) (hr.mono (by first | decide | omega)) rfl T.m__law_pick T.F__law_pick.kp T.b__law_pick .nil pass0 (pa_cons (pv 1) (pa_cons (pe_op op_add (pe_op op_mul pe_int (pe_ix ix_tup (pv 6) pe_int (fun _ _ => rfl))) pe_int) pa_nil))) (pe_ix ix_tup (pv 6) pe_int (fun _ _ => rfl))) (pa_cons (pe_ix ix_tup (pv 6) pe_int (fun _ _ => rfl)) (pa_cons (pe_op op_sub pe_int (pe_ix ix_tup (pv 6) pe_int (fun _ _ => rfl))) pa_nil)))) (pe_callB (call_max2 rfl) (by rfl) T.z_max (by decide +kernel) (pa_cons pe_int (pa_cons (pe_op op_sub (pv 9) pe_int) pa_nil))) (fun _ _ => rfl)) pa_nil))))))
      (pss_cons (ps_set (i := 10) sc_law.nd rfl (Or.inl rfl) (pe_callTy call_list_of (by rfl) T.z_list (by decide +kernel) (pa_cons (pv 7) pa_nil)))
      (pss_cons (ps_set (i := 11) sc_law.nd rfl (Or.inl rfl) pe_int)
      (pss_cons (ps_set (i := 12) sc_law.nd rfl (Or.inl rfl) pe_int)
      (pss_cons (ps_for PassesOwn.never rfl (pi_list (pe_revL (pv 7))) (pg_name (i := 13) sc_law.nd rfl (Or.inl rfl)) (pss_cons (ps_set (i := 11) sc_law.nd rfl (Or.inl rfl) (pe_op op_add (pv 11) (pe_op op_mul (pv 13) (pv 12))))
      (pss_one (ps_set (i := 12) sc_law.nd rfl (Or.inl rfl) (pe_op op_mul (pv 12) (pe_ix ix_tup (pv 6) pe_int (fun _ _ => rfl)))))))
      (pss_cons (ps_set (i := 14) sc_law.nd rfl (Or.inl rfl) (pe_call (ok_worth T) (hr.mono (by first | decide | omega)) rfl T.m_worth T.F_worth.kp T.b_worth .nil pass0 (pa_cons (pv 6) (pa_cons (pv 10) pa_nil))))
      (pss_cons (ps_if (PW.pt (pw_or (pt_not (pt_val (pe_call (ok__law_whole T) (hr.mono (by first | decide | omega)) rfl T.m__law_whole T.F__law_whole.kp T.b__law_whole .nil pass0 (pa_cons (pv 14) pa_nil)))) (pw_or (pt_cmpR op_ne (pv 14) (pv 11) (nomark _)) (pw_or1 (pt_cmpR (op_neD hr.units) (pv 10) (pv 7) (nomark _)))))) (pss_one (ps_ret pe_bl)) pss_nil)
      (pss_cons (ps_set (i := 15) sc_law.nd rfl (Or.inl rfl) (pe_call (ok_bits_of T) (hr.mono (by first | decide | omega)) rfl T.m_bits_of T.F_bits_of.kp T.b_bits_of .nil pass0 (pa_cons (pe_ix ix_tup (pv 6) pe_int (fun _ _ => rfl)) pa_nil)))
      (pss_one (ps_ret (pe_and (pe_call (ok__law_whole T) (hr.mono (by first | decide | omega)) rfl T.m__law_whole T.F__law_whole.kp T.b__law_whole .nil pass0 (pa_cons (pv 15) pa_nil)) (pe_one (pe_cmpR op_eq (pe_op op_shl pe_int (pv 15)) (pe_ix ix_tup (pv 6) pe_int (fun _ _ => rfl)) (nomark _)))))))))))))))))), ?_⟩
  walk_at "rd"
  refine ⟨by show 1 ≤ sizeLine; decide, fun z1 hz1 => ?_⟩
  refine ⟨sa, z1, _, _, rfl, rfl, (same_new hz1 _).seq hS, SqL.of upd_same, ?_, fun z2 hz2 => ?_⟩
  · rw [List.length_map]
    exact small1000 (by show ns.length + 1 ≤ 1000; omega) |> Nat.le_of_lt
  obtain ⟨c0, hc0⟩ : ∃ c0 : Int, atI (ns.map V.int ++ [V.int 0]) 0 = some (.int c0) := by
    cases ns with
    | nil => exact ⟨0, rfl⟩
    | cons x r => exact ⟨x, atI_nat (j := 0) rfl⟩
  refine ⟨z2, _, 0, _, rfl, rfl, SqL.of upd_same, hc0, ?_⟩
  refine ⟨c0, 0, 0, rfl, Int.le_refl 0, Int.le_refl 0, fun a H1 _ _ d1 => ?_⟩
  walk_at "rd"
  refine ⟨a, 20, 0, rfl, d1, by omega, by decide, lt_pow (by decide) (by decide), fun v2 H2 v20 v21 _ d2 => ?_⟩
  walk_at "rd"
  refine ⟨by omega, by omega, for_range (lo := 0) (n := (1 + v2).toNat) (fun i σ H' => Deck H' a (1 + i * 210) ∧ ∃ t1 t2 t3 t4, σ = [some (.ref sa), some (.ref a), t1, t2, t3, t4, none, none, none, none, none, none, none, none, none, none]) ⟨d2, none, none, none, none, rfl⟩ ?_ ?_⟩
  · rintro i σ H' hi ⟨dk, t1, t2, t3, t4, rfl⟩
    have hi20 : i < 20 := by omega
    have p3 : pc 3 = 200 := by decide
    walk_at "rd"
    refine ⟨a, 1 + i * 210, rfl, dk, by rw [p3]; omega, fun v3 H3 k3 d3 th3 => ?_⟩
    rw [p3] at d3
    refine ⟨fun σ H6 => Deck H6 a (1 + i * 210 + 207) ∧ ∃ v B t5, Th B H6 v ∧ σ = [some (.ref sa), some (.ref a), some (.int (0 + i)), some v, t5, t4, none, none, none, none, none, none, none, none, none, none], ?_, ?_⟩
    · walk_at "rd"
      refine ⟨a, 2, _, rfl, d3, by omega, by decide, lt_pow (by decide) (by decide), fun v4 H4 v40 v41 k4 d4 => ?_⟩
      walk_at "rd"
      refine ite2 (fun c => ?_) (fun c => ?_)
      · walk_at "rd"
        refine ⟨a, 33, _, rfl, d4, by omega, by decide, lt_pow (by decide) (by decide), fun v5 H5 _ _ k5 d5 => ?_⟩
        walk_at "rd"
        refine ⟨by show 5 ≤ sizeLine; decide, fun l1 hl1 => ?_⟩
        walk_at "rd"
        refine ⟨a, 5, _, rfl, d5.same (same_new hl1 _), by omega, by decide, lt_pow (by decide) (by decide), fun v6 H6 v60 v61 k6 d6 => ?_⟩
        have hl1' := k6 _ _ (d5.ne hl1) upd_same
        obtain ⟨y, hy, my⟩ := at_some (xs := [V.int 2, .int 4, .int 8, .int 16, .int (1 + v5)]) v60 v61
        refine ⟨l1, _, _, y, rfl, rfl, SqL.of hl1', hy, ?_⟩
        obtain ⟨b, rfl⟩ : ∃ b : Int, y = .int b := by
          simp only [List.mem_cons, List.not_mem_nil, or_false] at my
          rcases my with e | e | e | e | e <;> exact ⟨_, e⟩
        walk_at "rd"
        refine ⟨a, 3, _, rfl, d6, by omega, by decide, lt_pow (by decide) (by decide), fun v7 H7 _ _ k7 d7 => ?_⟩
        walk_at "rd"
        refine ⟨a, 3, _, rfl, d7, by omega, by decide, lt_pow (by decide) (by decide), fun v8 H8 _ _ k8 d8 => ?_⟩
        walk_at "rd"
        refine ⟨by show 2 ≤ sizeLine; decide, fun l2 hl2 => ?_⟩
        walk_at "rd"
        refine ⟨a, 2, _, rfl, d8.same (same_new hl2 _), by omega, by decide, lt_pow (by decide) (by decide), fun v9 H9 v90 v91 k9 d9 => ?_⟩
        have hl2' := k9 _ _ (d8.ne hl2) upd_same
        obtain ⟨y, hy, my⟩ := at_some (xs := [V.int (b / 2 + v7 - 1), .int (b - v8)]) v90 v91
        refine ⟨l2, _, _, y, rfl, rfl, SqL.of hl2', hy, ?_⟩
        obtain ⟨m, rfl⟩ : ∃ m : Int, y = .int m := by
          simp only [List.mem_cons, List.not_mem_nil, or_false] at my
          rcases my with e | e <;> exact ⟨_, e⟩
        refine ⟨by show 2 ≤ sizeLine; decide, fun l3 hl3 => ?_⟩
        refine ⟨(d9.same (same_new hl3 _)).le (by omega), .ref l3, fun _ => True, some (.int b), .tup l3 _ True.intro upd_same ?_, rfl⟩
        intro x hx
        simp only [List.mem_cons, List.not_mem_nil, or_false] at hx
        rcases hx with e | e <;> rw [e] <;> exact .int _
      · refine ⟨d4.le (by omega), v3, _, t3, th3.keep (fun p o e1 e2 => k4 p o ?_ e2) (fun _ z => z), rfl⟩
        exact dk.ne e1
    · rintro σ H6 ⟨d6, v, B, t5, th, rfl⟩
      refine ⟨_, rfl, B, v, rfl, th, ?_⟩
      refine ⟨_, rfl, _, _, _, _, true, rfl, .ty _, .base (.bl _), kit_ty (by decide +kernel), _, rfl, iteF ?_⟩
      refine ⟨_, rfl, _, rfl, B, v, rfl, th, fun H7 s7 => ?_⟩
      refine ⟨rfl, _, rfl, ?_⟩
      rw [decide_eq_true rfl]
      refine iteF ?_
      refine ⟨(d6.same s7).le (by omega), some (.int (0 + i)), some v, t5, some (.bl (kindV H6 v)), rfl⟩
  · rintro σ H' ⟨dk, t1, t2, t3, t4, rfl⟩
    walk_at "rd"
    refine ⟨a, _, rfl, dk, by omega, fun kp b m H2 k2 d2 hk hb hm0 hm1 => ?_⟩
    refine ⟨by show 0 ≤ sizeLine; decide, fun r hr0 => ?_⟩
    have nra : r ≠ a := d2.ne hr0
    have nkr : kp ≠ r := ne_of_none hk hr0
    have nka : kp ≠ a := fun z => by
      obtain ⟨_, _, _, z2, _⟩ := d2
      rw [z, z2] at hk
      cases hk
    have d2' := d2.same (same_new hr0 (.lst []))
    walk_at "rd"
    refine ⟨a, 251, _, rfl, d2', by omega, by decide, lt_pow (by decide) (by decide), fun v3 H3 v30 v31 k3 d3 => ?_⟩
    walk_at "rd"
    refine ⟨a, 9, _, rfl, d3, by omega, by decide, lt_pow (by decide) (by decide), fun v4 H4 v40 v41 k4 d4 => ?_⟩
    refine ⟨by show 3 ≤ sizeLine; decide, fun l1 hl1 => ?_⟩
    walk_at "rd"
    refine ⟨a, 3, _, rfl, d4.same (same_new hl1 _), by omega, by decide, lt_pow (by decide) (by decide), fun v5 H5 v50 v51 k5 d5 => ?_⟩
    have hl1' := k5 _ _ (d4.ne hl1) upd_same
    obtain ⟨y, hy, my⟩ := at_some (xs := [V.int 250, .int v3, .int v4]) v50 v51
    refine ⟨l1, _, _, y, rfl, rfl, SqL.of hl1', hy, ?_⟩
    obtain ⟨cnt, rfl, cnt0, cnt1⟩ : ∃ c : Int, y = .int c ∧ 0 ≤ c ∧ c ≤ 250 := by
      simp only [List.mem_cons, List.not_mem_nil, or_false] at my
      rcases my with e | e | e
      · exact ⟨_, e, by decide, by decide⟩
      · exact ⟨_, e, v30, by omega⟩
      · exact ⟨_, e, v40, by omega⟩
    have hk2 : (upd H2 r (.lst [])) kp = some (.tup [.int b, .int m]) := by rw [upd_ne nkr]; exact hk
    have hk5 : H5 kp = some (.tup [.int b, .int m]) := k5 _ _ nka ((same_new hl1 _) _ _ (k4 _ _ nka (k3 _ _ nka hk2)))
    have hr5 : H5 r = some (.lst []) := k5 _ _ nra ((same_new hl1 _) _ _ (k4 _ _ nra (k3 _ _ nra upd_same)))
    refine ⟨_, rfl, by omega, by omega, for_range (lo := 0) (n := cnt.toNat) (fun i σ H' => Deck H' a (5000 + i * 2) ∧ H' kp = some (.tup [.int b, .int m]) ∧ (∃ xs : List Int, H' r = some (.lst (xs.map V.int)) ∧ xs.length = i ∧ ∀ x ∈ xs, -100 ≤ x ∧ x ≤ 100) ∧ ∃ t5 t6, σ = [some (.ref sa), some (.ref a), t1, t2, t3, t4, some (.ref kp), some (.ref r), t5, t6, none, none, none, none, none, none]) ⟨d5.le (by omega), hk5, ⟨[], hr5, rfl, fun x hx => by cases hx⟩, none, none, rfl⟩ ?_ ?_⟩
    · rintro i σ H6 hi ⟨d6, hk6, ⟨xs, hr6, hxl, hxs⟩, t5, t6, rfl⟩
      walk_at "rd"
      refine ⟨a, 9, _, rfl, d6, by omega, by decide, lt_pow (by decide) (by decide), fun way H7 w0 w1 k7 d7 => ?_⟩
      have hk7 := k7 _ _ nka hk6
      have hr7 := k7 _ _ nra hr6
      refine ⟨_, rfl, .inl ⟨rfl, _, SqL.of hr7⟩, ?_⟩
      walk_at "rd"
      refine ⟨a, 2 * m + 1, _, rfl, d7, by omega, by omega, lt_pow (by omega) (by omega), fun v8 H8 v80 v81 k8 d8 => ?_⟩
      have hk8 := k8 _ _ nka hk7
      have hr8 := k8 _ _ nra hr7
      walk_at "rd"
      refine ⟨by show 3 ≤ sizeLine; decide, fun l2 hl2 => ?_⟩
      walk_at "rd"
      obtain ⟨y, hy, my⟩ := at_some (xs := [V.int (v8 - m), .int m, .int (0 - m)]) (i := if way - 6 > 0 then way - 6 else 0) (by split <;> omega) (by show _ < (3 : Int); split <;> omega)
      refine ⟨l2, _, _, y, rfl, rfl, SqL.of upd_same, hy, ?_⟩
      obtain ⟨f, rfl, f0, f1⟩ : ∃ c : Int, y = .int c ∧ -100 ≤ c ∧ c ≤ 100 := by
        simp only [List.mem_cons, List.not_mem_nil, or_false] at my
        rcases my with e | e | e
        · exact ⟨_, e, by omega, by omega⟩
        · exact ⟨_, e, by omega, by omega⟩
        · exact ⟨_, e, by omega, by omega⟩
      have hr9 := same_new hl2 (.lst [V.int (v8 - m), .int m, .int (0 - m)]) _ _ hr8
      refine ⟨r, _, _, rfl, rfl, hr9, by rw [List.length_map]; exact small1000 (by omega), ?_⟩
      refine ⟨?_, ?_, ⟨xs ++ [f], ?_, by rw [List.length_append, hxl]; rfl, ?_⟩, some (.int (0 + i)), some (.int way), rfl⟩
      · obtain ⟨x0, x1, x2, y0, y1⟩ := d8.same (same_new hl2 (.lst [V.int (v8 - m), .int m, .int (0 - m)]))
        exact ⟨x0, x1, x2, by rw [upd_ne (fun z => nra z.symm)]; exact y0, y1.1, y1.2.1, y1.2.2.1, y1.2.2.2.1, by have := y1.2.2.2.2; omega⟩
      · rw [upd_ne nkr]
        exact same_new hl2 _ _ _ hk8
      · rw [upd_same, List.map_append]
        rfl
      · intro x hx
        rcases List.mem_append.mp hx with hx | hx
        · exact hxs x hx
        · have e : x = f := by simpa using hx
          rw [e]
          exact ⟨f0, f1⟩
    · rintro σ H6 ⟨d6, hk6, ⟨xs, hr6, hxl, hxs⟩, t5, t6, rfl⟩
      walk_at "rd"
      intro hl hh
      have s7 := same_new (H := H6) hh (.lst (xs.map V.int))
      walk_at "rd"
      refine ⟨r, _, rfl, SqL.of (s7 _ _ hr6), fun rv hrv => ?_⟩
      have s8 := same_new (H := upd H6 hl (.lst (xs.map V.int))) hrv (.lst (xs.map V.int).reverse)
      have hk8 := s8 _ _ (s7 _ _ hk6)
      have hr8 := s8 _ _ (s7 _ _ hr6)
      have hh8 := s8 _ _ (upd_same (H := H6) (a := hl) (o := .lst (xs.map V.int)))
      have hv8 : (upd (upd H6 hl (.lst (xs.map V.int))) rv (.lst (xs.map V.int).reverse)) rv = some (.lst (xs.reverse.map V.int)) := by
        rw [upd_same, List.map_reverse]
      generalize upd (upd H6 hl (.lst (xs.map V.int))) rv (.lst (xs.map V.int).reverse) = H8 at *
      refine ⟨rv, rfl, ⟨_, SqL.of hv8⟩, for_list (xs := xs.reverse.map V.int) (fun i σ H' => H' = H8 ∧ ∃ t7, σ = [some (.ref sa), some (.ref a), t1, t2, t3, t4, some (.ref kp), some (.ref r), t5, t6, some (.ref hl), some (.int (worthOf b (xs.reverse.take i).reverse)), some (.int (b ^ i)), t7, none, none]) ⟨rfl, none, by rw [Int.pow_zero]; rfl⟩ (fun i σ H' _ e => by rw [e.1]; exact SqL.of hv8) ?_ ?_⟩
      · rintro i x σ H' hx ⟨rfl, t7, rfl⟩
        obtain ⟨f, rfl, hf⟩ := map_at hx
        have hfm : f ∈ xs := by
          have := List.mem_of_getElem? hf
          simpa using this
        have fb := hxs f hfm
        have hil : i < xs.length := by
          have := (List.getElem?_eq_some_iff.mp hf).1
          simpa using this
        walk_at "rd"
        refine ⟨.inl ⟨by omega, by omega⟩, ?_⟩
        walk_at "rd"
        refine ⟨.inr ⟨by omega, by omega⟩, ?_⟩
        refine ⟨rfl, some (.int f), ?_⟩
        have e1 : worthOf b (xs.reverse.take (i + 1)).reverse = worthOf b (xs.reverse.take i).reverse + f * b ^ i := by
          rw [take_snoc hf, List.reverse_append]
          show worthOf b (f :: (xs.reverse.take i).reverse) = _
          rw [worth_cons, List.length_reverse, List.length_take, List.length_reverse, Nat.min_eq_left (by omega), Int.add_comm]
        rw [e1, Int.pow_succ]
        rfl
      · rintro σ H' ⟨rfl, t7, rfl⟩
        have e9 : worthOf b (xs.reverse.take (xs.reverse.map V.int).length).reverse = worthOf b xs := by
          rw [List.length_map, List.take_length, List.reverse_reverse]
        rw [e9]
        walk_at "rd"
        refine ⟨kp, hl, b, m, xs, rfl, SqT.of hk8, SqL.of hh8, by omega, by omega, ?_⟩
        walk_at "rd"
        refine ⟨fun _ => True, _, rfl, .int _, ?_⟩
        walk_at "rd"
        rw [decide_eq_true rfl]
        refine iteF ?_
        refine ⟨_, rfl, _, rfl, .list (xs.map PyData.int), .list (xs.map PyData.int), .lst (SqL.of hh8) (dp_ints xs), .lst (SqL.of hr8) (dp_ints xs), PySem.W.shaped_ints xs, PySem.W.shaped_ints xs, _, rfl, ?_⟩
        rw [SeqAt.eqv_refl _ (SeqAt.canLay_of_shaped (PySem.W.shaped_ints xs))]
        refine iteF ?_
        walk_at "rd"
        refine ⟨fun _ => True, _, rfl, .int _, ?_⟩
        walk_at "rd"
        have eb : 0 ≤ ((Builtin.Int.intBits b : Nat) : Int) - 1 ∧ ((Builtin.Int.intBits b : Nat) : Int) - 1 ≤ 4 ∧ (1 : Int) * 2 ^ (((Builtin.Int.intBits b : Nat) : Int) - 1).toNat = b := by
          rcases hb with e | e | e | e <;> rw [e] <;> decide
        refine ⟨⟨eb.1, by omega, by decide⟩, ?_⟩
        walk_at "rd"
        show Q (.bl (decide (V.int (1 * 2 ^ (((Builtin.Int.intBits b : Nat) : Int) - 1).toNat) = V.int b))) _
        rw [eb.2.2, decide_eq_true rfl]
        exact q _
end
theorem all_mk {l : PySem.W.OpenLaw} {w : World} {K : PySem.W.Frag} {h : Heap} {mg : Str → Option Value} {fa : Addr} (X : K.In h) (G : h.Ns mainGlobals mg) (hfa : mg "law" = some (.ref fa))
    {f0 : Addr} {od0 an0 : Option Addr} {sl0 : Array (Option Value)} {oc0 kV0 dc0 pm0 cd0 ct0 : Value}
    {f1 : Addr} {od1 an1 : Option Addr} {sl1 : Array (Option Value)} {oc1 kV1 dc1 pm1 cd1 ct1 : Value}
    {f2 : Addr} {od2 an2 : Option Addr} {sl2 : Array (Option Value)} {oc2 kV2 dc2 pm2 cd2 ct2 : Value}
    {f3 : Addr} {od3 an3 : Option Addr} {sl3 : Array (Option Value)} {oc3 kV3 dc3 pm3 cd3 ct3 : Value}
    {f4 : Addr} {od4 an4 : Option Addr} {sl4 : Array (Option Value)} {oc4 kV4 dc4 pm4 cd4 ct4 : Value}
    {f5 : Addr} {od5 an5 : Option Addr} {sl5 : Array (Option Value)} {oc5 kV5 dc5 pm5 cd5 ct5 : Value}
    {f6 : Addr} {od6 an6 : Option Addr} {sl6 : Array (Option Value)} {oc6 kV6 dc6 pm6 cd6 ct6 : Value}
    {f7 : Addr} {od7 an7 : Option Addr} {sl7 : Array (Option Value)} {oc7 kV7 dc7 pm7 cd7 ct7 : Value}
    {f8 : Addr} {od8 an8 : Option Addr} {sl8 : Array (Option Value)} {oc8 kV8 dc8 pm8 cd8 ct8 : Value}
    {f9 : Addr} {od9 an9 : Option Addr} {sl9 : Array (Option Value)} {oc9 kV9 dc9 pm9 cd9 ct9 : Value}
    {f10 : Addr} {od10 an10 : Option Addr} {sl10 : Array (Option Value)} {oc10 kV10 dc10 pm10 cd10 ct10 : Value}
    {g0 : Addr} {go0 : Obj} {gi0 : Array Value} {gn0 : Nat}
    (a0 : PySem.W.nsIn K mainGlobals "worth" = some (some (.ref f0))) (l0 : K.lookup f0 = some ⟨oc0, od0, .func (PySem.W.fnOf "worth" "worth" (defArgs s_worth) (defBody s_worth) (defScope s_worth) .none kV0 dc0 pm0 an0 cd0 ct0), sl0⟩) (c0 : PySem.W.codeIn K cd0 "worth" = true) (k0 : PySem.W.keepIn K (.ref f0) = true)
    (a1 : PySem.W.nsIn K mainGlobals "is_whole" = some (some (.ref f1))) (l1 : K.lookup f1 = some ⟨oc1, od1, .func (PySem.W.fnOf "is_whole" "is_whole" (defArgs s_is_whole) (defBody s_is_whole) (defScope s_is_whole) .none kV1 dc1 pm1 an1 cd1 ct1), sl1⟩) (c1 : PySem.W.codeIn K cd1 "is_whole" = true) (k1 : PySem.W.keepIn K (.ref f1) = true)
    (a2 : PySem.W.nsIn K mainGlobals "is_kind" = some (some (.ref f2))) (l2 : K.lookup f2 = some ⟨oc2, od2, .func (PySem.W.fnOf "is_kind" "is_kind" (defArgs s_is_kind) (defBody s_is_kind) (defScope s_is_kind) .none kV2 dc2 pm2 an2 cd2 ct2), sl2⟩) (c2 : PySem.W.codeIn K cd2 "is_kind" = true) (k2 : PySem.W.keepIn K (.ref f2) = true)
    (a3 : PySem.W.nsIn K mainGlobals "bits_of" = some (some (.ref f3))) (l3 : K.lookup f3 = some ⟨oc3, od3, .func (PySem.W.fnOf "bits_of" "bits_of" (defArgs s_bits_of) (defBody s_bits_of) (defScope s_bits_of) .none kV3 dc3 pm3 an3 cd3 ct3), sl3⟩) (c3 : PySem.W.codeIn K cd3 "bits_of" = true) (k3 : PySem.W.keepIn K (.ref f3) = true)
    (a4 : PySem.W.nsIn K mainGlobals "_law_deck" = some (some (.ref f4))) (l4 : K.lookup f4 = some ⟨oc4, od4, .func (PySem.W.fnOf "_law_deck" "_law_deck" (defArgs s__law_deck) (defBody s__law_deck) (defScope s__law_deck) .none kV4 dc4 pm4 an4 cd4 ct4), sl4⟩) (c4 : PySem.W.codeIn K cd4 "_law_deck" = true) (k4 : PySem.W.keepIn K (.ref f4) = true)
    (a5 : PySem.W.nsIn K mainGlobals "_law_pick" = some (some (.ref f5))) (l5 : K.lookup f5 = some ⟨oc5, od5, .func (PySem.W.fnOf "_law_pick" "_law_pick" (defArgs s__law_pick) (defBody s__law_pick) (defScope s__law_pick) .none kV5 dc5 pm5 an5 cd5 ct5), sl5⟩) (c5 : PySem.W.codeIn K cd5 "_law_pick" = true) (k5 : PySem.W.keepIn K (.ref f5) = true)
    (a6 : PySem.W.nsIn K mainGlobals "_law_kind" = some (some (.ref f6))) (l6 : K.lookup f6 = some ⟨oc6, od6, .func (PySem.W.fnOf "_law_kind" "_law_kind" (defArgs s__law_kind) (defBody s__law_kind) (defScope s__law_kind) .none kV6 dc6 pm6 an6 cd6 ct6), sl6⟩) (c6 : PySem.W.codeIn K cd6 "_law_kind" = true) (k6 : PySem.W.keepIn K (.ref f6) = true)
    (a7 : PySem.W.nsIn K mainGlobals "_law_thing" = some (some (.ref f7))) (l7 : K.lookup f7 = some ⟨oc7, od7, .func (PySem.W.fnOf "_law_thing" "_law_thing" (defArgs s__law_thing) (defBody s__law_thing) (defScope s__law_thing) .none kV7 dc7 pm7 an7 cd7 ct7), sl7⟩) (c7 : PySem.W.codeIn K cd7 "_law_thing" = true) (k7 : PySem.W.keepIn K (.ref f7) = true)
    (a8 : PySem.W.nsIn K mainGlobals "_law_whole" = some (some (.ref f8))) (l8 : K.lookup f8 = some ⟨oc8, od8, .func (PySem.W.fnOf "_law_whole" "_law_whole" (defArgs s__law_whole) (defBody s__law_whole) (defScope s__law_whole) .none kV8 dc8 pm8 an8 cd8 ct8), sl8⟩) (c8 : PySem.W.codeIn K cd8 "_law_whole" = true) (k8 : PySem.W.keepIn K (.ref f8) = true)
    (a9 : PySem.W.nsIn K mainGlobals "_law_due" = some (some (.ref f9))) (l9 : K.lookup f9 = some ⟨oc9, od9, .func (PySem.W.fnOf "_law_due" "_law_due" (defArgs s__law_due) (defBody s__law_due) (defScope s__law_due) .none kV9 dc9 pm9 an9 cd9 ct9), sl9⟩) (c9 : PySem.W.codeIn K cd9 "_law_due" = true) (k9 : PySem.W.keepIn K (.ref f9) = true)
    (a10 : PySem.W.nsIn K mainGlobals "law" = some (some (.ref f10))) (l10 : K.lookup f10 = some ⟨oc10, od10, .func (PySem.W.fnOf "law" "law" (defArgs s_law) (defBody s_law) (defScope s_law) .none kV10 dc10 pm10 an10 cd10 ct10), sl10⟩) (c10 : PySem.W.codeIn K cd10 "law" = true) (k10 : PySem.W.keepIn K (.ref f10) = true)
    (z0 : PySem.W.nsIn K mainGlobals "isinstance" = some none)
    (z1 : PySem.W.nsIn K mainGlobals "int" = some none)
    (z2 : PySem.W.nsIn K mainGlobals "bool" = some none)
    (z3 : PySem.W.nsIn K mainGlobals "tuple" = some none)
    (z4 : PySem.W.nsIn K mainGlobals "len" = some none)
    (z5 : PySem.W.nsIn K mainGlobals "range" = some none)
    (z6 : PySem.W.nsIn K mainGlobals "max" = some none)
    (z7 : PySem.W.nsIn K mainGlobals "list" = some none)
    (g0a : PySem.W.nsIn K mainGlobals "BASES" = some (some (.ref g0))) (g0l : K.lookup g0 = some go0) (g0c : go0.cls = .type "tuple") (g0d : go0.data = .seq gi0 gn0) (g0s : gi0.size ≤ sizeLine) (g0v : Vals [.int 2, .int 4, .int 8, .int 16] gi0.toList) :
    ∃ fd : FuncData, (∀ (s : Shared) (v : Value), BindsTo s fd ⟨[v], []⟩ [("script", v)]) ∧ ∀ base : Heap, K.In base → base.Ns mainGlobals mg → FnOk l.prog w K mg base CX0 6 fa fd ["script"] (sp_law K) := by
  have e := hfa.symm.trans (PySem.W.mg_of X G a10)
  cases e
  have F0 := fun_mk (st := s_worth) l0 c0 k0
  have b0 := F0.binds (ps := ["kind", "row"]) fun _ _ _ _ _ _ us hl => match us, hl with | [_, _], _ => rfl
  have F1 := fun_mk (st := s_is_whole) l1 c1 k1
  have b1 := F1.binds (ps := ["thing"]) fun _ _ _ _ _ _ us hl => match us, hl with | [_], _ => rfl
  have F2 := fun_mk (st := s_is_kind) l2 c2 k2
  have b2 := F2.binds (ps := ["thing"]) fun _ _ _ _ _ _ us hl => match us, hl with | [_], _ => rfl
  have F3 := fun_mk (st := s_bits_of) l3 c3 k3
  have b3 := F3.binds (ps := ["base"]) fun _ _ _ _ _ _ us hl => match us, hl with | [_], _ => rfl
  have F4 := fun_mk (st := s__law_deck) l4 c4 k4
  have b4 := F4.binds (ps := ["cell", "turn"]) fun _ _ _ _ _ _ us hl => match us, hl with | [_, _], _ => rfl
  have F5 := fun_mk (st := s__law_pick) l5 c5 k5
  have b5 := F5.binds (ps := ["deck", "many"]) fun _ _ _ _ _ _ us hl => match us, hl with | [_, _], _ => rfl
  have F6 := fun_mk (st := s__law_kind) l6 c6 k6
  have b6 := F6.binds (ps := ["deck"]) fun _ _ _ _ _ _ us hl => match us, hl with | [_], _ => rfl
  have F7 := fun_mk (st := s__law_thing) l7 c7 k7
  have b7 := F7.binds (ps := ["deck", "deep"]) fun _ _ _ _ _ _ us hl => match us, hl with | [_, _], _ => rfl
  have F8 := fun_mk (st := s__law_whole) l8 c8 k8
  have b8 := F8.binds (ps := ["thing"]) fun _ _ _ _ _ _ us hl => match us, hl with | [_], _ => rfl
  have F9 := fun_mk (st := s__law_due) l9 c9 k9
  have b9 := F9.binds (ps := ["thing"]) fun _ _ _ _ _ _ us hl => match us, hl with | [_], _ => rfl
  have F10 := fun_mk (st := s_law) l10 c10 k10
  have b10 := F10.binds (ps := ["script"]) fun _ _ _ _ _ _ us hl => match us, hl with | [_], _ => rfl
  let T : Txt K mg := { a_worth := f0, fd_worth := _, F_worth := F0, m_worth := PySem.W.mg_of X G a0, b_worth := b0, a_is_whole := f1, fd_is_whole := _, F_is_whole := F1, m_is_whole := PySem.W.mg_of X G a1, b_is_whole := b1, a_is_kind := f2, fd_is_kind := _, F_is_kind := F2, m_is_kind := PySem.W.mg_of X G a2, b_is_kind := b2, a_bits_of := f3, fd_bits_of := _, F_bits_of := F3, m_bits_of := PySem.W.mg_of X G a3, b_bits_of := b3, a__law_deck := f4, fd__law_deck := _, F__law_deck := F4, m__law_deck := PySem.W.mg_of X G a4, b__law_deck := b4, a__law_pick := f5, fd__law_pick := _, F__law_pick := F5, m__law_pick := PySem.W.mg_of X G a5, b__law_pick := b5, a__law_kind := f6, fd__law_kind := _, F__law_kind := F6, m__law_kind := PySem.W.mg_of X G a6, b__law_kind := b6, a__law_thing := f7, fd__law_thing := _, F__law_thing := F7, m__law_thing := PySem.W.mg_of X G a7, b__law_thing := b7, a__law_whole := f8, fd__law_whole := _, F__law_whole := F8, m__law_whole := PySem.W.mg_of X G a8, b__law_whole := b8, a__law_due := f9, fd__law_due := _, F__law_due := F9, m__law_due := PySem.W.mg_of X G a9, b__law_due := b9, a_law := fa, fd_law := _, F_law := F10, m_law := PySem.W.mg_of X G a10, b_law := b10, z_isinstance := PySem.W.mg_none_of X G z0, z_int := PySem.W.mg_none_of X G z1, z_bool := PySem.W.mg_none_of X G z2, z_tuple := PySem.W.mg_none_of X G z3, z_len := PySem.W.mg_none_of X G z4, z_range := PySem.W.mg_none_of X G z5, z_max := PySem.W.mg_none_of X G z6, z_list := PySem.W.mg_none_of X G z7, a_BASES := g0, m_BASES := PySem.W.mg_of X G g0a, t_BASES := fun _ => Or.inr ⟨go0, gi0, gn0, g0l, g0c, g0d, g0s, g0v⟩ }
  exact ⟨PySem.W.fnOf "law" "law" (defArgs s_law) (defBody s_law) (defScope s_law) .none kV10 dc10 pm10 an10 cd10 ct10, fun s v => .of_eq rfl, fun base _ _ => ok_law T⟩
theorem walk {l : PySem.W.OpenLaw} {q : Program} {loose : List Str} {XP : (Str → Option Value) → Heap → Prop} {YP : World → Heap → Prop} {d : DefRec} {K : Params → PySem.W.Frag} (hn : l.most = some 63) (hdf : d.params.defaults = [])
    (hY : ∀ (w : World) (h : Heap), YP w h → (K w.params).In h)
    (F : ∀ (w : World) (mg : Str → Option Value) (fa : Addr) (h : Heap), (K w.params).In h → h.Ns mainGlobals mg → mg d.name = some (.ref fa) →
      ∃ fd : FuncData, (∀ (s : Shared) (u : Value), BindsTo s fd ⟨[u], []⟩ [("script", u)]) ∧ ∀ base : Heap, (K w.params).In base → base.Ns mainGlobals mg → FnOk l.prog w (K w.params) mg base CX0 6 fa fd ["script"] (sp_law (K w.params))) :
    PySem.W.WalkO q loose XP YP l.row.toRowW d [] (fun f vs => PySem.call f vs) :=
  L2.walk_ofB (n := 63) (k := 6) (x := "script") (CX := fun _ => CX0) (sp := fun w => sp_law (K w.params)) hn (by decide) hdf ⟨rfl, by decide, by decide⟩ hY F (fun _ _ a ns hl hb _ hS => ⟨a, ns, rfl, hS, hl, hb, fun _ => rfl⟩) fun _ _ _ _ _ z => z
end My
open PySem PySem.W PyProof.Rows
set_option maxRecDepth 100000 in
set_option maxHeartbeats 0 in
theorem PySem.Challenge.cw_slackfigures_k01_kinds_and_worths_holds : PySem.Challenge.rw_slackfigures_k01_kinds_and_worths.Holds := by
  w_on; o_law; k_head; (case hw => w_witness2)
  k_fill
  refine My.walk (l := PySem.Challenge.rw_slackfigures_k01_kinds_and_worths) rfl rfl (fun w h Y => PySem.W.kIn_of Y) ?F
  case F =>
    intro w mg fa h KX G hmg
    refine' My.all_mk KX G hmg ?a0 ?l0 ?c0 ?k0 ?a1 ?l1 ?c1 ?k1 ?a2 ?l2 ?c2 ?k2 ?a3 ?l3 ?c3 ?k3 ?a4 ?l4 ?c4 ?k4 ?a5 ?l5 ?c5 ?k5 ?a6 ?l6 ?c6 ?k6 ?a7 ?l7 ?c7 ?k7 ?a8 ?l8 ?c8 ?k8 ?a9 ?l9 ?c9 ?k9 ?a10 ?l10 ?c10 ?k10 ?z0 ?z1 ?z2 ?z3 ?z4 ?z5 ?z6 ?z7 ?g0a ?g0l ?g0c ?g0d ?g0s ?g0v
    (case a0 => k_is)
    (case l0 => k_is)
    (case c0 => k_is)
    (case k0 => k_is)
    (case a1 => k_is)
    (case l1 => k_is)
    (case c1 => k_is)
    (case k1 => k_is)
    (case a2 => k_is)
    (case l2 => k_is)
    (case c2 => k_is)
    (case k2 => k_is)
    (case a3 => k_is)
    (case l3 => k_is)
    (case c3 => k_is)
    (case k3 => k_is)
    (case a4 => k_is)
    (case l4 => k_is)
    (case c4 => k_is)
    (case k4 => k_is)
    (case a5 => k_is)
    (case l5 => k_is)
    (case c5 => k_is)
    (case k5 => k_is)
    (case a6 => k_is)
    (case l6 => k_is)
    (case c6 => k_is)
    (case k6 => k_is)
    (case a7 => k_is)
    (case l7 => k_is)
    (case c7 => k_is)
    (case k7 => k_is)
    (case a8 => k_is)
    (case l8 => k_is)
    (case c8 => k_is)
    (case k8 => k_is)
    (case a9 => k_is)
    (case l9 => k_is)
    (case c9 => k_is)
    (case k9 => k_is)
    (case a10 => k_is)
    (case l10 => k_is)
    (case c10 => k_is)
    (case k10 => k_is)
    (case z0 => k_is)
    (case z1 => k_is)
    (case z2 => k_is)
    (case z3 => k_is)
    (case z4 => k_is)
    (case z5 => k_is)
    (case z6 => k_is)
    (case z7 => k_is)
    (case g0a => k_is)
    (case g0l => k_is)
    (case g0c => first | exact rfl | exact ⟨_, rfl⟩ | k_is | decide)
    (case g0d => first | exact rfl | exact ⟨_, rfl⟩ | k_is | decide)
    (case g0s => first | exact rfl | exact ⟨_, rfl⟩ | k_is | decide)
    (case g0v => exact .cons ⟨_, rfl⟩ (.cons ⟨_, rfl⟩ (.cons ⟨_, rfl⟩ (.cons ⟨_, rfl⟩ (.nil)))))
