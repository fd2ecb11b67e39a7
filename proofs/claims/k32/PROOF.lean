import PyProof.Rows.All
import Wide.All
import OpenK.AllK
import Wide.FinOn
import HandS.ForMost
import HandS.EndBits
import HandS.Wide
import HandS.WideBits
import HandS.IsInst
import HandS.Style
import HandS.Codes
import HandS.Text
import PySem.Challenge.RW_slackfigures_k32_whole_many_summed
set_option Elab.async false
set_option linter.all false
set_option maxRecDepth 100000
set_option maxHeartbeats 4000000
namespace My
open PySem L2
def top (i : Nat) : Stmt := PySem.Challenge.pw_slackfigures_k32_whole_many_summed.main.body.getD i (.Pass ⟨0, 0, 0, 0⟩)
abbrev s_pair_worth : Stmt := top 1
abbrev s_look_of : Stmt := top 2
abbrev s_three_in_two : Stmt := top 3
abbrev s__law_deck : Stmt := top 5
abbrev s__law_pick : Stmt := top 6
abbrev s__law_whole : Stmt := top 7
abbrev s__law_worth : Stmt := top 8
abbrev s__law_word : Stmt := top 9
abbrev s_law : Stmt := top 10
theorem sc_pair_worth : FnScope ["width", "pair", "whole", "total"] ["width", "pair"] (defScope s_pair_worth) := ⟨rfl, rfl, rfl, by decide +kernel, rfl, by decide +kernel, by decide +kernel⟩
theorem sc_look_of : FnScope ["width", "pair", "low"] ["width", "pair", "low"] (defScope s_look_of) := ⟨rfl, rfl, rfl, by decide +kernel, rfl, by decide +kernel, by decide +kernel⟩
theorem sc_three_in_two : FnScope ["width", "one", "other", "third", "single", "carried"] ["width", "one", "other", "third"] (defScope s_three_in_two) := ⟨rfl, rfl, rfl, by decide +kernel, rfl, by decide +kernel, by decide +kernel⟩
theorem sc__law_deck : FnScope ["cell", "turn"] ["cell", "turn"] (defScope s__law_deck) := ⟨rfl, rfl, rfl, by decide +kernel, rfl, by decide +kernel, by decide +kernel⟩
theorem sc__law_pick : FnScope ["deck", "many", "found", "number"] ["deck", "many"] (defScope s__law_pick) := ⟨rfl, rfl, rfl, by decide +kernel, rfl, by decide +kernel, by decide +kernel⟩
theorem sc__law_whole : FnScope ["thing"] ["thing"] (defScope s__law_whole) := ⟨rfl, rfl, rfl, by decide +kernel, rfl, by decide +kernel, by decide +kernel⟩
theorem sc__law_worth : FnScope ["width", "total", "size", "rest"] ["width", "total"] (defScope s__law_worth) := ⟨rfl, rfl, rfl, by decide +kernel, rfl, by decide +kernel, by decide +kernel⟩
theorem sc__law_word : FnScope ["deck", "width", "found", "turn", "size"] ["deck", "width"] (defScope s__law_word) := ⟨rfl, rfl, rfl, by decide +kernel, rfl, by decide +kernel, by decide +kernel⟩
theorem sc_law : FnScope ["script", "deck", "width", "size", "pair", "total", "turn", "number", "low", "unit", "look", "whole", "many"] ["script"] (defScope s_law) := ⟨rfl, rfl, rfl, by decide +kernel, rfl, by decide +kernel, by decide +kernel⟩
/-- what the top has left -/
structure Txt (K : PySem.W.Frag) (mg : Str → Option Value) where
  a_pair_worth : Addr
  fd_pair_worth : FuncData
  F_pair_worth : Fun K "pair_worth" "pair_worth" s_pair_worth a_pair_worth fd_pair_worth
  m_pair_worth : mg "pair_worth" = some (.ref a_pair_worth)
  b_pair_worth : Binds K fd_pair_worth ["width", "pair"] []
  a_look_of : Addr
  fd_look_of : FuncData
  F_look_of : Fun K "look_of" "look_of" s_look_of a_look_of fd_look_of
  m_look_of : mg "look_of" = some (.ref a_look_of)
  b_look_of : Binds K fd_look_of ["width", "pair", "low"] []
  a_three_in_two : Addr
  fd_three_in_two : FuncData
  F_three_in_two : Fun K "three_in_two" "three_in_two" s_three_in_two a_three_in_two fd_three_in_two
  m_three_in_two : mg "three_in_two" = some (.ref a_three_in_two)
  b_three_in_two : Binds K fd_three_in_two ["width", "one", "other", "third"] []
  a__law_deck : Addr
  fd__law_deck : FuncData
  F__law_deck : Fun K "_law_deck" "_law_deck" s__law_deck a__law_deck fd__law_deck
  m__law_deck : mg "_law_deck" = some (.ref a__law_deck)
  b__law_deck : Binds K fd__law_deck ["cell", "turn"] []
  a__law_pick : Addr
  fd__law_pick : FuncData
  F__law_pick : Fun K "_law_pick" "_law_pick" s__law_pick a__law_pick fd__law_pick
  m__law_pick : mg "_law_pick" = some (.ref a__law_pick)
  b__law_pick : Binds K fd__law_pick ["deck", "many"] []
  a__law_whole : Addr
  fd__law_whole : FuncData
  F__law_whole : Fun K "_law_whole" "_law_whole" s__law_whole a__law_whole fd__law_whole
  m__law_whole : mg "_law_whole" = some (.ref a__law_whole)
  b__law_whole : Binds K fd__law_whole ["thing"] []
  a__law_worth : Addr
  fd__law_worth : FuncData
  F__law_worth : Fun K "_law_worth" "_law_worth" s__law_worth a__law_worth fd__law_worth
  m__law_worth : mg "_law_worth" = some (.ref a__law_worth)
  b__law_worth : Binds K fd__law_worth ["width", "total"] []
  a__law_word : Addr
  fd__law_word : FuncData
  F__law_word : Fun K "_law_word" "_law_word" s__law_word a__law_word fd__law_word
  m__law_word : mg "_law_word" = some (.ref a__law_word)
  b__law_word : Binds K fd__law_word ["deck", "width"] []
  a_law : Addr
  fd_law : FuncData
  F_law : Fun K "law" "law" s_law a_law fd_law
  m_law : mg "law" = some (.ref a_law)
  b_law : Binds K fd_law ["script"] []
  z_isinstance : mg "isinstance" = none
  z_int : mg "int" = none
  z_bool : mg "bool" = none
  z_range : mg "range" = none
  z_tuple : mg "tuple" = none
section
variable {P : Program} {w : World} {K : PySem.W.Frag} {mg : Str → Option Value} {base : Heap}
local macro_rules | `(tactic| walk_at "rd1") => `(tactic| first
  | refine ⟨_, rfl, ?_⟩
  | refine ⟨_, _, rfl, rfl, ?_⟩
  | refine ⟨_, _, _, _, rfl, rfl, SqL.of (by assumption), rfl, ?_⟩
  | refine ⟨_, _, _, _, rfl, rfl, SqT.of (by assumption), rfl, ?_⟩
  | refine ⟨_, _, _, _, rfl, rfl, by assumption, rfl, ?_⟩
  | refine ⟨_, _, rfl, .inl (SqL.of (by assumption)), ?_⟩
  | refine ⟨_, _, rfl, ?_⟩
  | refine ⟨_, _, rfl, .inr (SqT.of (by assumption)), ?_⟩
  | refine ⟨(show (0 : Int) < _ by first | assumption | decide | omega), ?_⟩
  | refine ⟨(rfl : scal _ _ = true), ?_⟩
  | refine ⟨⟨by decide, by decide⟩, ?_⟩
  | refine ⟨⟨by decide, by decide, by decide⟩, ?_⟩
  | refine ⟨Or.inl ⟨by decide, by decide⟩, ?_⟩
  | refine ⟨Or.inr ⟨by decide, by decide⟩, ?_⟩
  | fail "rd")
local macro_rules | `(tactic| walk_at "rd") => `(tactic| (walk_at "rd1"; repeat walk_at "rd1"))
/-! ### heaps -/
/-- what stood at another place than a stands as it was -/
def Keep (a : Addr) (H H' : Hp) : Prop := ∀ b o, b ≠ a → H b = some o → H' b = some o
theorem Keep.refl (a : Addr) (H : Hp) : Keep a H H := fun _ _ _ h => h
theorem Keep.trans {a : Addr} {H H1 H2 : Hp} (x : Keep a H H1) (y : Keep a H1 H2) : Keep a H H2 := fun b o n h => y b o n (x b o n h)
theorem Keep.upd {a : Addr} {H : Hp} {o : HO} : Keep a H (upd H a o) := fun b u n h => by
  rw [upd_ne n]
  exact h
theorem Keep.new {a p : Addr} {H : Hp} {o : HO} (h : H p = none) : Keep a H (L2.upd H p o) := fun b u _ e => by
  rw [upd_ne (ne_of_none e h)]
  exact e
theorem Keep.same {a : Addr} {H H' : Hp} (h : Same H H') : Keep a H H' := fun b o _ e => h b o e
theorem same_new {H : Hp} {p : Addr} (h : H p = none) (o : HO) : Same H (upd H p o) := fun b u q => by
  rw [upd_ne (ne_of_none q h)]
  exact q
/-! ### + of lists that are read (the script among them) -/
section
open PySem.Spec PyProof.Rows
def rCatR (K : PySem.W.Frag) : R2 := fun x y H Q => ∃ l b us zs, x = .ref l ∧ y = .ref b ∧ SqL K H l us ∧ SqL K H b zs ∧ us.length + zs.length ≤ sizeLine ∧ ∀ p, H p = none → Q (.ref p) (upd H p (.lst (us ++ zs)))
theorem op_catR {X : Cx} : OpR X (binaryOp .Add) (rCatR X.K) := by
  intro pins sh sg H x y v u Q I rx ry hyp
  obtain ⟨l, b, us, zs, rfl, rfl, hl, hb, hz, q⟩ := hyp
  cases rx
  cases ry
  obtain ⟨i1, r1, p1, _⟩ := I.list hl
  obtain ⟨i2, r2, p2, _⟩ := I.list hb
  have n1 := r1.length
  have n2 := r2.length
  obtain ⟨⟨c1, d1, t1, s1⟩, g1, e1, m1, f1⟩ := p1.isList
  obtain ⟨⟨c2, d2, t2, s2⟩, g2, e2, m2, f2⟩ := p2.isList
  simp only at e1 f1 e2 f2
  subst e1 f1 e2 f2
  refine concat_meets ⟨_, g1, rfl⟩ ⟨_, g2, rfl⟩ noFill_list_add seq_list_add PySem.F.slot_list_add PySem.F.entry_list_add (PySem.F.args_list_add_2 _ _)
    (list_addW l b i1.toArray i2.toArray m1 m2 d1 d2 s1 s2 (by simp only [List.size_toArray]; omega)) ⟨g1, g2, ?_⟩
  rw [show i1.toArray ++ i2.toArray = (i1 ++ i2).toArray by simp]
  exact ⟨.ref _, _, I.lnew (t' := sh.toks) (r1.append r2) (by rw [List.length_append]; exact hz), rfl, q _ I.fresh⟩
end
/-! ### the deck -/
def Deck (H : Hp) (a : Addr) (n : Nat) : Prop := ∃ d0 d1 d2 : Int, H a = some (.lst [.int d0, .int d1, .int d2]) ∧ 0 ≤ d0 ∧ 0 ≤ d1 ∧ d1 < 2147483648 ∧ 0 ≤ d2 ∧ d2 ≤ n
theorem Deck.le {H : Hp} {a : Addr} {n m : Nat} (h : Deck H a n) (e : n ≤ m) : Deck H a m := by
  obtain ⟨d0, d1, d2, h1, h2, h3, h4, h5, h6⟩ := h
  exact ⟨d0, d1, d2, h1, h2, h3, h4, h5, by omega⟩
theorem Deck.same {H H' : Hp} {a : Addr} {n : Nat} (h : Deck H a n) (e : Same H H') : Deck H' a n := by
  obtain ⟨d0, d1, d2, h1, r⟩ := h
  exact ⟨d0, d1, d2, e _ _ h1, r⟩
theorem Deck.some {H : Hp} {a : Addr} {n : Nat} (h : Deck H a n) : ∃ o, H a = some o := by
  obtain ⟨d0, d1, d2, h1, r⟩ := h
  exact ⟨_, h1⟩
theorem Deck.ne {H : Hp} {a p : Addr} {n : Nat} (h : Deck H a n) (e : H p = none) : p ≠ a := by
  obtain ⟨d0, d1, d2, h1, r⟩ := h
  exact fun z => by rw [z, h1] at e; cases e
def sp__law_deck (K : PySem.W.Frag) : Sp := fun vs H Q _ => ∃ (c t : Int) (n : Nat), vs = [.int c, .int t] ∧ 0 ≤ t ∧ t ≤ n ∧
  ∀ p H', H p = none → Same H H' → Deck H' p n → Q (.ref p) H'
def sp__law_pick (K : PySem.W.Frag) : Sp := fun vs H Q _ => ∃ (a : Addr) (many : Int) (n : Nat), vs = [.ref a, .int many] ∧ Deck H a n ∧ n ≤ 1000000000 ∧ 0 < many ∧ many.natAbs.log2 < 9000 ∧
  ∀ v H', 0 ≤ v → v < many → Keep a H H' → Deck H' a (n + 1) → Q (.int v) H'
theorem ok__law_deck (T : Txt K mg) : FnOk P w K mg base CX0 1 T.a__law_deck T.fd__law_deck ["cell", "turn"] (sp__law_deck K) := by
  refine T.F__law_deck.ok sc__law_deck (fun vs H Q E h => ?_) (fun cdv A outer s H vs Q E hr h => ?_)
  · obtain ⟨c, t, n, rfl, _⟩ := h
    rfl
  obtain ⟨c, t, n, rfl, ht, htn, q⟩ := h
  refine ⟨_, (pss_cons (ps_if (pt_cmpR op_ge (pv 0) (pe_op op_pow pe_int pe_int) (nomark _)) (pss_one (ps_ret (pe_lst (pa_cons (pe_op op_sub (pv 0) (pe_op op_pow pe_int pe_int)) (pa_cons (pe_op op_mod (pv 0) pe_int) (pa_cons (pv 1) pa_nil)))))) pss_nil)
      (pss_one (ps_ret (pe_lst (pa_cons pe_int (pa_cons (pe_op op_mod (pv 0) pe_int) (pa_cons (pv 1) pa_nil))))))), ?_⟩
  walk_at "rd"
  have e18 : (10 : Int) ^ (18 : Int).toNat = 1000000000000000000 := by decide +kernel
  refine ite2 (fun c' => ?_) (fun _ => ?_)
  · have c1 : (10 : Int) ^ (18 : Int).toNat ≤ c := of_decide_eq_true c'
    walk_at "rd"
    refine ⟨by show 3 ≤ sizeLine; decide, fun p hp => ?_⟩
    refine q p _ hp (same_new hp _) ⟨_, _, _, upd_same, ?_, ?_, ?_, ht, htn⟩ <;> omega
  · walk_at "rd"
    refine ⟨by show 3 ≤ sizeLine; decide, fun p hp => ?_⟩
    refine q p _ hp (same_new hp _) ⟨_, _, _, upd_same, ?_, ?_, ?_, ht, htn⟩ <;> omega
theorem ok__law_pick (T : Txt K mg) : FnOk P w K mg base CX0 1 T.a__law_pick T.fd__law_pick ["deck", "many"] (sp__law_pick K) := by
  refine T.F__law_pick.ok sc__law_pick (fun vs H Q E h => ?_) (fun cdv A outer s H vs Q E hr h => ?_)
  · obtain ⟨a, many, n, rfl, _⟩ := h
    rfl
  obtain ⟨a, many, n, rfl, ⟨d0, d1, d2, hd, h0, h1, h1', h2, h2'⟩, hn, hm, hm', q⟩ := h
  refine ⟨_, (pss_cons (ps_if (pt_cmpR op_gt (pe_ix ix_list (pv 0) pe_int (fun _ _ => rfl)) pe_int (nomark _)) (pss_cons (ps_set (i := 2) sc__law_pick.nd rfl (Or.inl rfl) (pe_op op_mod (pe_ix ix_list (pv 0) pe_int (fun _ _ => rfl)) (pv 1)))
      (pss_cons (ps_asg (pe_op op_fdivW (pe_ix ix_list (pv 0) pe_int (fun _ _ => rfl)) (pv 1)) (pg_sub (pv 0) pe_int set_list))
      (pss_one (ps_ret (pv 2))))) pss_nil)
      (pss_cons (ps_asg (pe_op op_add (pe_ix ix_list (pv 0) pe_int (fun _ _ => rfl)) pe_int) (pg_sub (pv 0) pe_int set_list))
      (pss_cons (ps_set (i := 3) sc__law_pick.nd rfl (Or.inl rfl) (pe_op op_mod (pe_op op_pow (pe_op op_add (pe_ix ix_list (pv 0) pe_int (fun _ _ => rfl)) (pe_op op_mul pe_int (pe_ix ix_list (pv 0) pe_int (fun _ _ => rfl)))) pe_int) pe_int))
      (pss_cons (ps_set (i := 2) sc__law_pick.nd rfl (Or.inl rfl) (pe_op op_fdivW (pe_op op_mod (pe_op op_pow (pe_op op_add (pv 3) (pe_op op_mul pe_int (pe_ix ix_list (pv 0) pe_int (fun _ _ => rfl)))) pe_int) pe_int) pe_int))
      (pss_cons (ps_if (pt_cmpR op_gt (pv 1) pe_int (nomark _)) (pss_one (ps_ret (pe_op op_mod (pe_op op_add (pe_op op_mul (pv 2) pe_int) (pv 3)) (pv 1)))) pss_nil)
      (pss_one (ps_ret (pe_op op_mod (pv 2) (pv 1))))))))), ?_⟩
  walk_at "rd"
  refine ite2 (fun c => ?_) (fun c => ?_)
  · walk_at "rd"
    refine ⟨⟨hm, hm'⟩, ?_⟩
    walk_at "rd"
    exact q _ _ (Int.emod_nonneg _ (by omega)) (Int.emod_lt_of_pos _ hm) Keep.upd ⟨_, _, _, upd_same, Int.ediv_nonneg h0 (by omega), h1, h1', h2, by omega⟩
  · walk_at "rd"
    have hd2 : (upd H a (.lst ([V.int d0, .int d1, .int d2].set 2 (.int (d2 + 1))))) a = some (.lst [.int d0, .int d1, .int (d2 + 1)]) := upd_same
    walk_at "rd"
    refine ⟨⟨by decide, by decide, by omega⟩, ?_⟩
    walk_at "rd"
    refine ⟨⟨by decide, by decide, by omega⟩, ?_⟩
    walk_at "rd"
    refine ite2 (fun c2 => ?_) (fun c2 => ?_)
    · walk_at "rd"
      exact q _ _ (Int.emod_nonneg _ (by omega)) (Int.emod_lt_of_pos _ hm) Keep.upd ⟨_, _, _, upd_same, h0, h1, h1', by omega, by omega⟩
    · walk_at "rd"
      exact q _ _ (Int.emod_nonneg _ (by omega)) (Int.emod_lt_of_pos _ hm) Keep.upd ⟨_, _, _, upd_same, h0, h1, h1', by omega, by omega⟩
/-! ### a written list at a drawn place -/
theorem at_some {α : Type} {xs : List α} {i : Int} (h0 : 0 ≤ i) (h1 : i < xs.length) : ∃ y, atI xs i = some y ∧ y ∈ xs := by
  obtain ⟨k, rfl⟩ := Int.eq_ofNat_of_zero_le h0
  have hk : k < xs.length := by omega
  exact ⟨xs[k], atI_nat (List.getElem?_eq_getElem hk), List.getElem_mem hk⟩
theorem lt_pow {z : Int} (h0 : 0 ≤ z) (h : z < 2 ^ 63) : z.natAbs.log2 < 9000 := by
  by_cases e : z.natAbs = 0
  · rw [e]; decide
  · have h1 : z.natAbs < 2 ^ 63 := by omega
    have h2 := (Nat.log2_lt e).mpr h1
    omega
/-! ### what is known of a heap beside the deck: facts that stay -/
structure Fact (a : Addr) where
  P : Hp → Prop
  mono : ∀ {H H' : Hp}, Keep a H H' → P H → P H'
def Fs (a : Addr) (H : Hp) : List (Fact a) → Prop
  | [] => True
  | f :: L => f.P H ∧ Fs a H L
theorem Fs.keep {a : Addr} {H H' : Hp} (k : Keep a H H') : ∀ {L : List (Fact a)}, Fs a H L → Fs a H' L
  | [], _ => trivial
  | f :: _, h => ⟨f.mono k h.1, Fs.keep k h.2⟩
theorem Fs.get {a : Addr} {H : Hp} {f : Fact a} : ∀ {L : List (Fact a)}, Fs a H L → f ∈ L → f.P H
  | _ :: _, h, .head _ => h.1
  | _ :: _, h, .tail _ m => Fs.get h.2 m
/-- the object o stands at p, which is not the deck -/
def At (a p : Addr) (o : HO) : Fact a := ⟨fun H => p ≠ a ∧ H p = some o, fun k h => ⟨h.1, k _ _ h.1 h.2⟩⟩
/-- p is no deck, and something stands there -/
def Bd (a p : Addr) : Fact a := ⟨fun H => p ≠ a ∧ ∃ o, H p = some o, fun k h => ⟨h.1, h.2.choose, k _ _ h.1 h.2.choose_spec⟩⟩
structure S (a : Addr) (n : Nat) (H : Hp) (L : List (Fact a)) : Prop where
  d : Deck H a n
  f : Fs a H L
namespace S
variable {a : Addr} {n m : Nat} {H H' : Hp} {L : List (Fact a)}
theorem le (s : S a n H L) (h : n ≤ m) : S a m H L := ⟨s.d.le h, s.f⟩
theorem keep (s : S a n H L) (k : Keep a H H') (d : Deck H' a m) : S a m H' L := ⟨d, s.f.keep k⟩
theorem same (s : S a n H L) (e : Same H H') : S a n H' L := ⟨s.d.same e, s.f.keep (Keep.same e)⟩
theorem get {f : Fact a} (s : S a n H L) (h : f ∈ L) : f.P H := s.f.get h
theorem at_ {p : Addr} {o : HO} (s : S a n H L) (h : At a p o ∈ L) : H p = some o := (s.f.get h).2
theorem ne_ {p : Addr} {o : HO} (s : S a n H L) (h : At a p o ∈ L) : p ≠ a := (s.f.get h).1
theorem add {f : Fact a} (s : S a n H L) (h : f.P H) : S a n H (f :: L) := ⟨s.d, h, s.f⟩
theorem drop {f : Fact a} (s : S a n H (f :: L)) : S a n H L := ⟨s.d, s.f.2⟩
theorem only {f : Fact a} (s : S a n H (f :: L)) : S a n H [f] := ⟨s.d, s.f.1, trivial⟩
theorem new {p : Addr} (s : S a n H L) (h : H p = none) (o : HO) : S a n (upd H p o) (At a p o :: L) :=
  (s.same (same_new h o)).add ⟨s.d.ne h, upd_same⟩
theorem fresh {p : Addr} {o : HO} (s : S a n H L) (h : H p = none) (e : Same H H') (h2 : H' p = some o) : S a n H' (At a p o :: L) :=
  (s.same e).add ⟨s.d.ne h, h2⟩
/-- behind a draw -/
theorem next {many : Int} {R : Int → Hp → Prop} (s : S a n H L) (k : ∀ (v : Int) (H' : Hp), 0 ≤ v → v < many → Keep a H H' → S a (n + 1) H' L → R v H') :
    ∀ (v : Int) (H' : Hp), 0 ≤ v → v < many → Keep a H H' → Deck H' a (n + 1) → R v H' := fun v H' v0 v1 kk d => k v H' v0 v1 kk (s.keep kk d)
/-- a displayed list, read at a drawn place -/
theorem choose {K : PySem.W.Frag} {xs : List V} {many : Int} {Q : VK} {p : Addr} (s : S a n H L) (hp : H p = none) (h1 : many ≤ xs.length)
    (k : ∀ (y : V) (H' : Hp), y ∈ xs → Keep a H H' → S a (n + 1) H' L → Q y H') :
    ∀ (v : Int) (H' : Hp), 0 ≤ v → v < many → Keep a (upd H p (.lst xs)) H' → Deck H' a (n + 1) → rIxL K (.ref p) (.int v) H' Q := by
  intro v H' v0 v1 kk d
  have s2 := (s.new hp (.lst xs)).keep kk d
  obtain ⟨y, hy, my⟩ := at_some (xs := xs) v0 (by omega)
  exact ⟨p, xs, v, y, rfl, rfl, SqL.of (s2.at_ (.head _)), hy, k y H' my ((Keep.new hp).trans kk) s2.drop⟩
theorem disp {o : HO} {R : Addr → Hp → Prop} (s : S a n H L) (k : ∀ p, H p = none → S a n (upd H p o) (At a p o :: L) → R p (upd H p o)) : ∀ p, H p = none → R p (upd H p o) := fun p hp => k p hp (s.new hp o)
end S
/-- a deck made -/
theorem S.of_deck {n : Nat} {H : Hp} {R : Addr → Hp → Prop} (k : ∀ (a : Addr) (H' : Hp), H a = none → Same H H' → S a n H' [] → R a H') :
    ∀ p H', H p = none → Same H H' → Deck H' p n → R p H' := fun p H' hp e d => k p H' hp e ⟨d, trivial⟩
/-! ### tests that are decided -/
section
variable {c A B : Prop} [Decidable c] {i j : Int}
theorem iteY (h : c) (x : A) : if decide c = true then A else B := by rw [if_pos (decide_eq_true h)]; exact x
theorem iteN (h : ¬ c) (x : B) : if decide c = true then A else B := by rw [if_neg (by rw [decide_eq_false h]; decide)]; exact x
theorem iteY' (h : ¬ c) (x : A) : if (!decide c) = true then A else B := by rw [decide_eq_false h, if_pos (by decide)]; exact x
theorem iteN' (h : c) (x : B) : if (!decide c) = true then A else B := by rw [decide_eq_true h, if_neg (by decide)]; exact x
theorem iteVY (h : i = j) (x : A) : if decide (V.int i = V.int j) = true then A else B := iteY (by rw [h]) x
theorem iteVN (h : i ≠ j) (x : B) : if decide (V.int i = V.int j) = true then A else B := iteN (fun e => h (by injection e)) x
theorem iteVY' (h : i ≠ j) (x : A) : if (!decide (V.int i = V.int j)) = true then A else B := iteY' (fun e => h (by injection e)) x
theorem iteVN' (h : i = j) (x : B) : if (!decide (V.int i = V.int j)) = true then A else B := iteN' (by rw [h]) x
end
local macro_rules | `(tactic| walk_at "mem") => `(tactic| first
  | exact .head _
  | exact .tail _ (.head _)
  | exact .tail _ (.tail _ (.head _))
  | exact .tail _ (.tail _ (.tail _ (.head _)))
  | exact .tail _ (.tail _ (.tail _ (.tail _ (.head _))))
  | exact .tail _ (.tail _ (.tail _ (.tail _ (.tail _ (.head _)))))
  | exact .tail _ (.tail _ (.tail _ (.tail _ (.tail _ (.tail _ (.head _)))))))
local macro_rules | `(tactic| walk_at "rd1") => `(tactic| first
  | refine ⟨_, rfl, ?_⟩
  | refine ⟨_, _, rfl, rfl, ?_⟩
  | refine ⟨_, _, _, _, rfl, rfl, SqL.of (by assumption), rfl, ?_⟩
  | refine ⟨_, _, _, _, rfl, rfl, SqT.of (by assumption), rfl, ?_⟩
  | refine ⟨_, _, _, _, rfl, rfl, by assumption, rfl, ?_⟩
  | refine ⟨_, _, rfl, .inl (SqL.of (by assumption)), ?_⟩
  | refine ⟨_, _, rfl, ?_⟩
  | refine ⟨_, _, rfl, .inr (SqT.of (by assumption)), ?_⟩
  | refine ⟨(show (0 : Int) < _ by first | assumption | decide | omega), ?_⟩
  | refine ⟨(rfl : scal _ _ = true), ?_⟩
  | refine ⟨⟨by decide, by decide⟩, ?_⟩
  | refine ⟨⟨by decide, by decide, by decide⟩, ?_⟩
  | refine ⟨Or.inl ⟨by decide, by decide⟩, ?_⟩
  | refine ⟨Or.inr ⟨by decide, by decide⟩, ?_⟩
  | refine ⟨_, rfl, rfl, (by omega), ?_⟩
  | refine ⟨_, _, rfl, rfl, (by omega), ?_⟩
  | refine ⟨_, _, _, _, rfl, rfl, SqL.of (S.at_ (by assumption) (by walk_at "mem")), rfl, ?_⟩
  | refine ⟨_, _, _, _, rfl, rfl, SqT.of (S.at_ (by assumption) (by walk_at "mem")), rfl, ?_⟩
  | refine ⟨_, _, _, _, true, rfl, .ty _, .base (.tup (S.at_ (by assumption) (by walk_at "mem"))), kit_ty (by decide +kernel), ?_⟩
  | refine ⟨_, _, _, _, true, rfl, .ty _, .base (.lst (S.at_ (by assumption) (by walk_at "mem"))), kit_ty (by decide +kernel), ?_⟩
  | fail "rd")
local macro_rules | `(tactic| walk_at "if") => `(tactic| first
  | refine iteY (by omega) ?_
  | refine iteN (by omega) ?_
  | refine iteY' (by omega) ?_
  | refine iteN' (by omega) ?_
  | refine iteVY (by omega) ?_
  | refine iteVN (by omega) ?_
  | refine iteVY' (by omega) ?_
  | refine iteVN' (by omega) ?_
  | refine iteT ?_
  | refine iteF ?_)
local macro_rules | `(tactic| walk_at "go") => `(tactic| repeat (first | walk_at "rd1" | walk_at "if"))
local macro_rules | `(tactic| walk_at "pick") => `(tactic| (
  refine ⟨_, _, _, rfl, S.d (by assumption), (by omega), (by first | omega | decide +kernel), lt_pow (by first | omega | decide +kernel) (by first | omega | decide +kernel), ?_⟩
  refine S.next (by assumption) ?_))
local macro_rules | `(tactic| walk_at "choose") => `(tactic| (
  refine ⟨(by simp only [List.length_cons, List.length_nil]; decide), fun p hp => ?_⟩
  walk_at "rd"
  refine ⟨_, _, _, rfl, S.d (S.same (by assumption) (same_new hp _)), (by omega), (by decide), lt_pow (by decide) (by decide), ?_⟩
  refine S.choose (by assumption) hp (by simp only [List.length_cons, List.length_nil]; decide) ?_))
theorem Keep.mut {a r : Addr} {H H' : Hp} {o : HO} (k : Keep a H H') (h : H r = none) : Keep a H (L2.upd H' r o) := fun b u n e => by
  rw [upd_ne (ne_of_none e h)]
  exact k b u n e
theorem Deck.mut {a r : Addr} {H : Hp} {n : Nat} {o : HO} (d : Deck H a n) (h : r ≠ a) : Deck (upd H r o) a n := by
  obtain ⟨d0, d1, d2, h1, q⟩ := d
  exact ⟨d0, d1, d2, by rw [upd_ne (Ne.symm h)]; exact h1, q⟩
theorem nat_of {v : Int} (h : 0 ≤ v) : ∃ n : Nat, v = (n : Int) := Int.eq_ofNat_of_zero_le h
/-! ### things of any kind -/
inductive Th (B : Addr → Prop) (H : Hp) : V → Prop where
  | int (i : Int) : Th B H (.int i)
  | bl (b : Bool) : Th B H (.bl b)
  | non : Th B H .non
  | str (z : Str) : Th B H (.str z)
  | lst (p : Addr) (xs : List V) (n : B p) (h : H p = some (.lst xs)) (t : ∀ x ∈ xs, Th B H x) : Th B H (.ref p)
  | tup (p : Addr) (xs : List V) (n : B p) (h : H p = some (.tup xs)) (t : ∀ x ∈ xs, Th B H x) : Th B H (.ref p)
theorem Th.keep {B B' : Addr → Prop} {H H' : Hp} {v : V} (k : ∀ p o, B p → H p = some o → H' p = some o) (e : ∀ p, B p → B' p) (h : Th B H v) : Th B' H' v := by
  induction h with
  | int i => exact .int i
  | bl b => exact .bl b
  | non => exact .non
  | str z => exact .str z
  | lst p xs n h t ih => exact .lst p xs (e p n) (k _ _ n h) ih
  | tup p xs n h t ih => exact .tup p xs (e p n) (k _ _ n h) ih
def isI : V → Bool
  | .int _ => true
  | _ => false
def sp_isI (K : PySem.W.Frag) : Sp := fun vs H Q _ => ∃ (B : Addr → Prop) (v : V), vs = [v] ∧ Th B H v ∧ Q (.bl (isI v)) H
theorem ok__law_whole (T : Txt K mg) : FnOk P w K mg base CX0 1 T.a__law_whole T.fd__law_whole ["thing"] (sp_isI K) := by
  refine T.F__law_whole.ok sc__law_whole (fun vs H Q E h => ?_) (fun cdv A outer s H vs Q E hr h => ?_)
  · obtain ⟨B, v, rfl, _⟩ := h
    rfl
  obtain ⟨B, v, rfl, ht, q⟩ := h
  refine ⟨_, (pss_one (ps_ret (pe_and (pe_callB call_isi (by rfl) T.z_isinstance (by decide +kernel) (pa_cons (pv 0) (pa_cons (pe_bltn (v := .ty "int") (u := .type "int") (by rfl) T.z_int (by decide +kernel) rfl) pa_nil))) (pe_one (pe_not (pe_callB call_isi (by rfl) T.z_isinstance (by decide +kernel) (pa_cons (pv 0) (pa_cons (pe_bltn (v := .ty "bool") (u := .type "bool") (by rfl) T.z_bool (by decide +kernel) rfl) pa_nil)))))))), ?_⟩
  cases ht with
  | int i => exact ⟨_, rfl, _, _, _, _, true, rfl, .ty _, .base (.int i), kit_ty (by decide +kernel), _, rfl, iteT ⟨_, rfl, _, _, _, _, false, rfl, .ty _, .base (.int i), kit_ty (by decide +kernel), _, rfl, q⟩⟩
  | bl b => exact ⟨_, rfl, _, _, _, _, true, rfl, .ty _, .base (.bl b), kit_ty (by decide +kernel), _, rfl, iteT ⟨_, rfl, _, _, _, _, true, rfl, .ty _, .base (.bl b), kit_ty (by decide +kernel), _, rfl, q⟩⟩
  | non => exact ⟨_, rfl, _, _, _, _, false, rfl, .ty _, .base .non, kit_ty (by decide +kernel), _, rfl, iteF q⟩
  | str z => exact ⟨_, rfl, _, _, _, _, false, rfl, .ty _, .base (.str z), kit_ty (by decide +kernel), _, rfl, iteF q⟩
  | lst p xs n h t => exact ⟨_, rfl, _, _, _, _, false, rfl, .ty _, .base (.lst h), kit_ty (by decide +kernel), _, rfl, iteF q⟩
  | tup p xs n h t => exact ⟨_, rfl, _, _, _, _, false, rfl, .ty _, .base (.tup h), kit_ty (by decide +kernel), _, rfl, iteF q⟩
/-! ### bits of numbers from 0 on -/
theorem bitAnd_nat (a b : Nat) : Builtin.bitAnd (a : Int) (b : Int) = ((a &&& b : Nat) : Int) := by
  unfold Builtin.bitAnd
  rw [decide_eq_true (Int.natCast_nonneg a), decide_eq_true (Int.natCast_nonneg b)]
  rfl
theorem xor_and (m : Nat) : ∀ n : Nat, (m ^^^ n) + 2 * (m &&& n) = m + n := by
  induction m using Nat.strongRecOn with
  | _ m ih =>
    intro n
    by_cases h0 : m = 0
    · subst h0
      simp
    · have ih' := ih (m / 2) (by omega) (n / 2)
      rw [← Nat.xor_div_two, ← Nat.and_div_two] at ih'
      have o1 := @Nat.xor_mod_two_eq_one m n
      have a1 := @Nat.and_mod_two_eq_one m n
      omega
theorem bitXor_nat (a b : Nat) : Builtin.bitXor (a : Int) (b : Int) = ((a ^^^ b : Nat) : Int) := by
  rw [PyProof.Rows.bitXor_and, bitAnd_nat]
  have := xor_and a b
  omega
theorem or_and (a : Nat) : ∀ b : Nat, (a ||| b) + (a &&& b) = a + b := by
  induction a using Nat.strongRecOn with
  | _ a ih =>
    intro b
    by_cases h0 : a = 0
    · subst h0
      simp
    · have h := ih (a / 2) (by omega) (b / 2)
      rw [← Nat.or_div_two, ← Nat.and_div_two] at h
      have o1 := @Nat.or_mod_two_eq_one a b
      have a1 := @Nat.and_mod_two_eq_one a b
      omega
theorem bitOr_nat (a b : Nat) : Builtin.bitOr (a : Int) (b : Int) = ((a ||| b : Nat) : Int) := by
  rw [PyProof.Rows.bitOr_and, bitAnd_nat]
  have := or_and a b
  omega
/-! ### worths of pairs: the mathematics -/
/-- the worth by the size S -/
def pwS (S t : Int) : Int := if 2 * (t % S) < S then t % S else t % S - S
/-- the law's own -/
def lwS (S t : Int) : Int := if t % S ≥ S - S / 2 then t % S - S else t % S
theorem two_pos (k : Nat) : (0 : Int) < 2 ^ k := by
  have h := Nat.two_pow_pos k
  have e : (2 : Int) ^ k = ((2 ^ k : Nat) : Int) := by rw [Int.natCast_pow]; rfl
  rw [e]; omega
theorem two_cast (k : Nat) : (2 : Int) ^ k = ((2 ^ k : Nat) : Int) := by rw [Int.natCast_pow]; rfl
theorem two_even {w : Nat} (h : 1 ≤ w) : (2 : Int) ^ w = 2 * 2 ^ (w - 1) := by
  obtain ⟨k, rfl⟩ : ∃ k, w = k + 1 := ⟨w - 1, by omega⟩
  rw [Int.pow_succ, Nat.add_sub_cancel]; omega
theorem lw_pw {S t : Int} (h : ∃ Z, S = 2 * Z) : lwS S t = pwS S t := by
  obtain ⟨Z, rfl⟩ := h
  unfold lwS pwS
  generalize t % (2 * Z) = r
  by_cases c : 2 * r < 2 * Z
  · rw [if_pos c, if_neg (by omega)]
  · rw [if_neg c, if_pos (by omega)]
theorem lw_pw2 {w : Nat} {t : Int} (h : 1 ≤ w) : lwS (2 ^ w) t = pwS (2 ^ w) t := lw_pw ⟨_, two_even h⟩
theorem pw_range {S t : Int} (h : 0 < S) : -S ≤ 2 * pwS S t ∧ 2 * pwS S t < S := by
  have h1 := Int.emod_nonneg t (b := S) (by omega)
  have h2 := Int.emod_lt_of_pos t h
  unfold pwS
  split <;> omega
theorem pw_cong (S t : Int) : ∃ k, pwS S t = t + k * S := by
  have h := Int.emod_add_mul_ediv t S
  unfold pwS
  split
  · exact ⟨-(t / S), by rw [Int.neg_mul, Int.mul_comm (t / S)]; omega⟩
  · refine ⟨-(t / S) - 1, ?_⟩
    rw [Int.sub_mul, Int.neg_mul, Int.mul_comm (t / S)]; omega
theorem pw_mod {S t t' : Int} (h : t % S = t' % S) : pwS S t = pwS S t' := by
  unfold pwS; rw [h]
theorem pw_addmod {S a b : Int} : pwS S (a + b % S) = pwS S (a + b) := pw_mod (by rw [Int.add_emod, Int.emod_emod, ← Int.add_emod])
theorem mulk {k S x : Int} (h : 0 < S) (h1 : -(2 * S) < x) (h2 : x < S) (e : x = k * S) : k = 0 ∨ k = -1 := by
  rcases Int.lt_trichotomy k 0 with c | c | c
  · by_cases c2 : k = -1
    · exact .inr c2
    · have := Int.mul_le_mul_of_nonneg_right (show k ≤ -2 by omega) (Int.le_of_lt h)
      omega
  · exact .inl c
  · have := Int.mul_le_mul_of_nonneg_right (show 1 ≤ k by omega) (Int.le_of_lt h)
    omega
/-- the look and the worth -/
theorem look_right {V u a b : Int} (hV : 0 < V) (hu : 0 < u) (hZ : ∃ Z, V = 2 * Z) (h : pwS (V * u) (a + b) ≥ u - V * u / 2) :
    pwS V (a / u + b / u) * u ≤ pwS (V * u) (a + b) ∧ pwS (V * u) (a + b) ≤ pwS V (a / u + b / u) * u + 2 * u - 2 := by
  obtain ⟨Z, rfl⟩ := hZ
  have hS : 0 < 2 * Z * u := Int.mul_pos hV hu
  have r1 := pw_range (t := a + b) hS
  have r2 := pw_range (t := a / u + b / u) hV
  obtain ⟨k1, e1⟩ := pw_cong (2 * Z * u) (a + b)
  obtain ⟨k2, e2⟩ := pw_cong (2 * Z) (a / u + b / u)
  have ea := Int.emod_add_mul_ediv a u
  have eb := Int.emod_add_mul_ediv b u
  have a1 := Int.emod_nonneg a (b := u) (by omega)
  have a2 := Int.emod_lt_of_pos a hu
  have b1 := Int.emod_nonneg b (b := u) (by omega)
  have b2 := Int.emod_lt_of_pos b hu
  generalize pwS (2 * Z * u) (a + b) = F at *
  generalize pwS (2 * Z) (a / u + b / u) = L at *
  generalize a / u = A at *
  generalize b / u = B at *
  generalize a % u = x at *
  generalize b % u = y at *
  have e3 : L * u = u * A + u * B + k2 * (2 * Z * u) := by
    rw [e2, Int.add_mul, Int.add_mul, Int.mul_comm A, Int.mul_comm B, Int.mul_assoc k2]
  have e4 : F - L * u - (x + y) = (k1 - k2) * (2 * Z * u) := by
    rw [Int.sub_mul]; omega
  have hL1 : -(Z * u) ≤ L * u := by
    have := Int.mul_le_mul_of_nonneg_right (show -Z ≤ L by omega) (Int.le_of_lt hu)
    rw [Int.neg_mul] at this; exact this
  have hL2 : L * u ≤ Z * u - u := by
    have := Int.mul_le_mul_of_nonneg_right (show L ≤ Z - 1 by omega) (Int.le_of_lt hu)
    rw [Int.sub_mul, Int.one_mul] at this; exact this
  have eZ : 2 * Z * u = 2 * (Z * u) := by rw [Int.mul_assoc]
  have hu' : u ≤ Z * u := by
    have := Int.mul_le_mul_of_nonneg_right (show 1 ≤ Z by omega) (Int.le_of_lt hu)
    rw [Int.one_mul] at this; exact this
  rw [eZ] at e4 r1 h hS
  generalize L * u = Lu at *
  generalize Z * u = M at *
  rcases mulk hS (by omega) (by omega) e4 with c | c <;> rw [c] at e4 <;> omega
/-- two looks at the same -/
theorem look_near {V u a b t : Int} (hV : 0 < V) (hu : 0 < u) (h : t % (V * u) = (a + b) % (V * u)) :
    ((t % (V * u)) / u - pwS V (a / u + b / u)) % V = 0 ∨ ((t % (V * u)) / u - pwS V (a / u + b / u)) % V = 1 % V := by
  obtain ⟨k2, e2⟩ := pw_cong V (a / u + b / u)
  have ea := Int.emod_add_mul_ediv a u
  have eb := Int.emod_add_mul_ediv b u
  have a1 := Int.emod_nonneg a (b := u) (by omega)
  have a2 := Int.emod_lt_of_pos a hu
  have b1 := Int.emod_nonneg b (b := u) (by omega)
  have b2 := Int.emod_lt_of_pos b hu
  have e0 := Int.emod_add_mul_ediv (a + b) (V * u)
  rw [h]
  have e1 : (a + b) % (V * u) = (a % u + b % u) + u * (a / u + b / u - V * ((a + b) / (V * u))) := by
    rw [Int.mul_sub, Int.mul_add, ← Int.mul_assoc u V, Int.mul_comm u V]; omega
  have e5 : (a + b) % (V * u) / u = (a % u + b % u) / u + (a / u + b / u - V * ((a + b) / (V * u))) := by
    rw [e1, Int.add_mul_ediv_left _ _ (by omega)]
  rw [e5, e2]
  have e6 : (a % u + b % u) / u + (a / u + b / u - V * ((a + b) / (V * u))) - (a / u + b / u + k2 * V) = (a % u + b % u) / u + V * (-((a + b) / (V * u)) - k2) := by
    rw [Int.mul_sub, Int.mul_neg, Int.mul_comm V k2]; omega
  rw [e6, Int.add_mul_emod_self_left]
  by_cases c : a % u + b % u < u
  · left
    rw [Int.ediv_eq_zero_of_lt (by omega) c]
    exact Int.zero_emod _
  · right
    have e7 : (a % u + b % u) / u = 1 := by
      clear ea eb e0 e1 e5 e6 e2
      generalize a % u = a at *
      generalize b % u = b at *
      have := Int.add_mul_ediv_left (a + b - u) (b := u) 1 (by omega)
      rw [Int.mul_one, Int.sub_add_cancel, Int.ediv_eq_zero_of_lt (a := a + b - u) (by omega) (by omega)] at this
      omega
    rw [e7]
/-! three in two -/
def maj (a b c : Nat) : Nat := a &&& b ||| a &&& c ||| b &&& c
theorem csa (a : Nat) : ∀ b c : Nat, (a ^^^ b ^^^ c) + 2 * maj a b c = a + b + c := by
  induction a using Nat.strongRecOn with
  | _ a ih =>
    intro b c
    by_cases h0 : a = 0
    · subst h0
      induction b using Nat.strongRecOn generalizing c with
      | _ b ihb =>
        by_cases hb : b = 0
        · subst hb
          simp [maj]
        · have h := ihb (b / 2) (by omega) (c / 2)
          unfold maj at h ⊢
          rw [Nat.zero_xor, Nat.zero_and, Nat.zero_and, Nat.zero_or, Nat.zero_or] at h ⊢
          rw [← Nat.xor_div_two, ← Nat.and_div_two] at h
          have o1 := @Nat.xor_mod_two_eq_one b c
          have a1 := @Nat.and_mod_two_eq_one b c
          omega
    · have h := ih (a / 2) (by omega) (b / 2) (c / 2)
      unfold maj at h ⊢
      rw [← Nat.xor_div_two, ← Nat.xor_div_two, ← Nat.and_div_two, ← Nat.and_div_two, ← Nat.and_div_two, ← Nat.or_div_two, ← Nat.or_div_two] at h
      have o1 := @Nat.xor_mod_two_eq_one a b
      have o2 := @Nat.xor_mod_two_eq_one (a ^^^ b) c
      have a1 := @Nat.and_mod_two_eq_one a b
      have a2 := @Nat.and_mod_two_eq_one a c
      have a3 := @Nat.and_mod_two_eq_one b c
      have r1 := @Nat.or_mod_two_eq_one (a &&& b) (a &&& c)
      have r2 := @Nat.or_mod_two_eq_one (a &&& b ||| a &&& c) (b &&& c)
      omega
theorem xor_bit (a b c k : Nat) : (a ^^^ b ^^^ c) / 2 ^ k % 2 = (a / 2 ^ k % 2 + b / 2 ^ k % 2 + c / 2 ^ k % 2) % 2 := by
  rw [← Nat.shiftRight_eq_div_pow, ← Nat.shiftRight_eq_div_pow, ← Nat.shiftRight_eq_div_pow, ← Nat.shiftRight_eq_div_pow, Nat.shiftRight_xor_distrib, Nat.shiftRight_xor_distrib]
  have o1 := @Nat.xor_mod_two_eq_one (a >>> k) (b >>> k)
  have o2 := @Nat.xor_mod_two_eq_one (a >>> k ^^^ b >>> k) (c >>> k)
  omega
theorem maj_bit (a b c k : Nat) : maj a b c / 2 ^ k % 2 = (a / 2 ^ k % 2 + b / 2 ^ k % 2 + c / 2 ^ k % 2) / 2 := by
  unfold maj
  rw [← Nat.shiftRight_eq_div_pow, ← Nat.shiftRight_eq_div_pow, ← Nat.shiftRight_eq_div_pow, ← Nat.shiftRight_eq_div_pow, Nat.shiftRight_or_distrib, Nat.shiftRight_or_distrib, Nat.shiftRight_and_distrib, Nat.shiftRight_and_distrib, Nat.shiftRight_and_distrib]
  generalize a >>> k = a
  generalize b >>> k = b
  generalize c >>> k = c
  have a1 := @Nat.and_mod_two_eq_one a b
  have a2 := @Nat.and_mod_two_eq_one a c
  have a3 := @Nat.and_mod_two_eq_one b c
  have r1 := @Nat.or_mod_two_eq_one (a &&& b) (a &&& c)
  have r2 := @Nat.or_mod_two_eq_one (a &&& b ||| a &&& c) (b &&& c)
  omega
theorem xor3_lt {a b c w : Nat} (ha : a < 2 ^ w) (hb : b < 2 ^ w) (hc : c < 2 ^ w) : a ^^^ b ^^^ c < 2 ^ w := Nat.xor_lt_two_pow (Nat.xor_lt_two_pow ha hb) hc
theorem carry_bit {m w k : Nat} (h : k + 1 < w) : (2 * m % 2 ^ w) / 2 ^ (k + 1) % 2 = m / 2 ^ k % 2 := by
  have e : (2 * m % 2 ^ w).testBit (k + 1) = (2 * m).testBit (k + 1) := by
    rw [Nat.testBit_mod_two_pow]; simp [h]
  rw [Nat.testBit_eq_decide_div_mod_eq, Nat.testBit_eq_decide_div_mod_eq] at e
  have e2 : 2 * m / 2 ^ (k + 1) = m / 2 ^ k := by
    rw [Nat.pow_succ, Nat.mul_comm (2 ^ k), ← Nat.div_div_eq_div_mul]
    congr 1; omega
  rw [e2] at e
  have e3 := decide_eq_decide.mp e
  omega
theorem carry_even {m w : Nat} (h : 1 ≤ w) : (2 * m % 2 ^ w) % 2 = 0 := by
  obtain ⟨k, rfl⟩ : ∃ k, w = k + 1 := ⟨w - 1, by omega⟩
  rw [Nat.pow_succ, Nat.mul_comm (2 ^ k), Nat.mul_mod_mul_left]
  omega
/-! ### rules for bits of numbers from 0 on -/
section
variable {X : Cx}
theorem op_andNN : OpR X (binaryOp .BitAnd) (fun x y H Q => ∃ n m : Nat, x = .int (n : Int) ∧ y = .int (m : Int) ∧ Q (.int ((n &&& m : Nat) : Int)) H) := by
  intro pins s σ H x y v u Q I rx ry h
  obtain ⟨n, m, rfl, rfl, q⟩ := h
  rw [← bitAnd_nat] at q
  exact op_and pins s σ H _ _ v u Q I rx ry ⟨_, _, rfl, rfl, q⟩
theorem op_orNN : OpR X (binaryOp .BitOr) (fun x y H Q => ∃ n m : Nat, x = .int (n : Int) ∧ y = .int (m : Int) ∧ Q (.int ((n ||| m : Nat) : Int)) H) := by
  intro pins s σ H x y v u Q I rx ry h
  obtain ⟨n, m, rfl, rfl, q⟩ := h
  rw [← bitOr_nat] at q
  exact op_or pins s σ H _ _ v u Q I rx ry ⟨_, _, rfl, rfl, q⟩
theorem op_xorNN : OpR X (binaryOp .BitXor) (fun x y H Q => ∃ n m : Nat, x = .int (n : Int) ∧ y = .int (m : Int) ∧ Q (.int ((n ^^^ m : Nat) : Int)) H) := by
  intro pins s σ H x y v u Q I rx ry h
  obtain ⟨n, m, rfl, rfl, q⟩ := h
  rw [← bitXor_nat] at q
  exact op_xor pins s σ H _ _ v u Q I rx ry ⟨_, _, rfl, rfl, q⟩
end
theorem div2 {i : Int} {l : Nat} (h : l < 9000) : CDivW i (2 ^ l) := ⟨two_pos l, by
  rw [two_cast, Int.natAbs_natCast, Nat.log2_two_pow]; exact h⟩
theorem inV_in {x : Int} {xs : List Int} (h : x ∈ xs) : inV (.int x) (xs.map V.int) = true := by
  induction xs with
  | nil => cases h
  | cons y r ih =>
    show (eqV (.int y) (.int x) || inV (.int x) (r.map V.int)) = true
    rcases List.mem_cons.mp h with e | e
    · rw [e]; simp [eqV]
    · rw [ih e, Bool.or_true]
def sp_pair_worth (K : PySem.W.Frag) : Sp := fun vs H Q _ => ∃ (w : Nat) (p : Addr) (a b : Int), vs = [.int (w : Int), .ref p] ∧ SqT K H p [.int a, .int b] ∧ w ≤ 100000 ∧ Q (.int (pwS (2 ^ w) (a + b))) H
theorem ok_pair_worth (T : Txt K mg) : FnOk P w K mg base CX0 1 T.a_pair_worth T.fd_pair_worth ["width", "pair"] (sp_pair_worth K) := by
  refine T.F_pair_worth.ok sc_pair_worth (fun vs H Q E h => ?_) (fun cdv A outer s H vs Q E hr h => ?_)
  · obtain ⟨n, p, a, b, rfl, _⟩ := h
    rfl
  obtain ⟨n, p, a, b, rfl, hp, hn, q⟩ := h
  refine ⟨_, (pss_cons (ps_set (i := 2) sc_pair_worth.nd rfl (Or.inl rfl) (pe_op op_oneShl pe_int (pv 0)))
      (pss_cons (ps_set (i := 3) sc_pair_worth.nd rfl (Or.inl rfl) (pe_op op_mod (pe_op op_add (pe_ix ix_tup (pv 1) pe_int (fun _ _ => rfl)) (pe_ix ix_tup (pv 1) pe_int (fun _ _ => rfl))) (pv 2)))
      (pss_one (ps_ret (pe_ifExp (pt_cmpR op_lt (pe_op op_mul pe_int (pv 3)) (pv 2) (nomark _)) (pv 3) (pe_op op_sub (pv 3) (pv 2))))))), ?_⟩
  have h2 := two_pos n
  walk_at "rd"
  unfold pwS at q
  refine ite2 (fun c => ?_) (fun c => ?_)
  · have c1 : 2 * ((a + b) % 2 ^ n) < 2 ^ n := of_decide_eq_true c
    rw [if_pos c1] at q
    walk_at "rd"
    exact q
  · have c1 : ¬ 2 * ((a + b) % 2 ^ n) < 2 ^ n := of_decide_eq_false (Bool.eq_false_iff.mpr c)
    rw [if_neg c1] at q
    walk_at "rd"
    exact q
def sp_look_of (K : PySem.W.Frag) : Sp := fun vs H Q _ => ∃ (w l : Nat) (p : Addr) (a b : Int), vs = [.int (w : Int), .ref p, .int (l : Int)] ∧ SqT K H p [.int a, .int b] ∧ w ≤ 100000 ∧ l ≤ w ∧
  ∀ r o, H r = none → Q (.int (pwS (2 ^ (w - l)) (a / 2 ^ l + b / 2 ^ l))) (upd H r o)
theorem ok_look_of (T : Txt K mg) : FnOk P w K mg base CX0 2 T.a_look_of T.fd_look_of ["width", "pair", "low"] (sp_look_of K) := by
  refine T.F_look_of.ok sc_look_of (fun vs H Q E h => ?_) (fun cdv A outer s H vs Q E hr h => ?_)
  · obtain ⟨n, l, p, a, b, rfl, _⟩ := h
    rfl
  obtain ⟨n, l, p, a, b, rfl, hp, hn, hl, q⟩ := h
  refine ⟨_, (pss_one (ps_ret (pe_call (ok_pair_worth T) (hr.mono (by first | decide | omega)) rfl T.m_pair_worth T.F_pair_worth.kp T.b_pair_worth .nil pass0 (pa_cons (pe_op op_subN (pv 0) (pv 2)) (pa_cons (pe_tup (pa_cons (pe_op op_shrN (pe_ix ix_tup (pv 1) pe_int (fun _ _ => rfl)) (pv 2)) (pa_cons (pe_op op_shrN (pe_ix ix_tup (pv 1) pe_int (fun _ _ => rfl)) (pv 2)) pa_nil))) pa_nil))))), ?_⟩
  walk_at "rd"
  refine ⟨hl, ?_⟩
  walk_at "rd"
  refine ⟨by show 2 ≤ sizeLine; decide, fun r hr0 => ?_⟩
  exact ⟨n - l, r, _, _, rfl, SqT.of upd_same, by omega, q r _ hr0⟩
def sp_three_in_two (K : PySem.W.Frag) : Sp := fun vs H Q _ => ∃ (w a b c : Nat), vs = [.int (w : Int), .int (a : Int), .int (b : Int), .int (c : Int)] ∧ w ≤ 100000 ∧
  ∀ r, H r = none → Q (.ref r) (upd H r (.tup [.int ((a ^^^ b ^^^ c : Nat) : Int), .int ((2 * maj a b c % 2 ^ w : Nat) : Int)]))
theorem ok_three_in_two (T : Txt K mg) : FnOk P w K mg base CX0 1 T.a_three_in_two T.fd_three_in_two ["width", "one", "other", "third"] (sp_three_in_two K) := by
  refine T.F_three_in_two.ok sc_three_in_two (fun vs H Q E h => ?_) (fun cdv A outer s H vs Q E hr h => ?_)
  · obtain ⟨n, a, b, c, rfl, _⟩ := h
    rfl
  obtain ⟨n, a, b, c, rfl, hn, q⟩ := h
  refine ⟨_, (pss_cons (ps_set (i := 4) sc_three_in_two.nd rfl (Or.inl rfl) (pe_op op_xorNN (pe_op op_xorNN (pv 1) (pv 2)) (pv 3)))
      (pss_cons (ps_set (i := 5) sc_three_in_two.nd rfl (Or.inl rfl) (pe_op op_orNN (pe_op op_orNN (pe_op op_andNN (pv 1) (pv 2)) (pe_op op_andNN (pv 1) (pv 3))) (pe_op op_andNN (pv 2) (pv 3))))
      (pss_one (ps_ret (pe_tup (pa_cons (pv 4) (pa_cons (pe_op op_mod (pe_op op_mul pe_int (pv 5)) (pe_op op_oneShl pe_int (pv 0))) pa_nil))))))), ?_⟩
  have h2 := two_pos n
  have e : ((2 * maj a b c % 2 ^ n : Nat) : Int) = 2 * (maj a b c : Int) % 2 ^ n := by rw [Int.natCast_emod, Int.natCast_mul, two_cast n]; rfl
  rw [e] at q
  walk_at "rd"
  exact ⟨by show 2 ≤ sizeLine; decide, q⟩
def sp__law_worth (K : PySem.W.Frag) : Sp := fun vs H Q _ => ∃ (w : Nat) (t : Int), vs = [.int (w : Int), .int t] ∧ 1 ≤ w ∧ w ≤ 100000 ∧ Q (.int (pwS (2 ^ w) t)) H
theorem ok__law_worth (T : Txt K mg) : FnOk P w K mg base CX0 1 T.a__law_worth T.fd__law_worth ["width", "total"] (sp__law_worth K) := by
  refine T.F__law_worth.ok sc__law_worth (fun vs H Q E h => ?_) (fun cdv A outer s H vs Q E hr h => ?_)
  · obtain ⟨n, t, rfl, _⟩ := h
    rfl
  obtain ⟨n, t, rfl, hn, hn2, q⟩ := h
  refine ⟨_, (pss_cons (ps_set (i := 2) sc__law_worth.nd rfl (Or.inl rfl) (pe_op op_oneShl pe_int (pv 0)))
      (pss_cons (ps_set (i := 3) sc__law_worth.nd rfl (Or.inl rfl) (pe_op op_mod (pv 1) (pv 2)))
      (pss_one (ps_ret (pe_ifExp (pt_cmpR op_ge (pv 3) (pe_op op_sub (pv 2) (pe_op op_fdiv (pv 2) pe_int)) (nomark _)) (pe_op op_sub (pv 3) (pv 2)) (pv 3)))))), ?_⟩
  have h2 := two_pos n
  rw [← lw_pw2 hn] at q
  unfold lwS at q
  walk_at "rd"
  refine ite2 (fun c => ?_) (fun c => ?_)
  · have c1 : t % 2 ^ n ≥ 2 ^ n - 2 ^ n / 2 := of_decide_eq_true c
    rw [if_pos c1] at q
    walk_at "rd"
    exact q
  · have c1 : ¬ t % 2 ^ n ≥ 2 ^ n - 2 ^ n / 2 := of_decide_eq_false (Bool.eq_false_iff.mpr c)
    rw [if_neg c1] at q
    walk_at "rd"
    exact q
def sp__law_word (K : PySem.W.Frag) : Sp := fun vs H Q _ => ∃ (a : Addr) (w n : Nat), vs = [.ref a, .int (w : Int)] ∧ Deck H a n ∧ n ≤ 900000000 ∧ 2 ≤ w ∧ w ≤ 2000 ∧
  ∀ (v : Nat) H', v < 2 ^ w → Keep a H H' → Deck H' a (n + 60) → Q (.int (v : Int)) H'
theorem ok__law_word (T : Txt K mg) : FnOk P w K mg base CX0 2 T.a__law_word T.fd__law_word ["deck", "width"] (sp__law_word K) := by
  refine T.F__law_word.ok sc__law_word (fun vs H Q E h => ?_) (fun cdv A outer s H vs Q E hr h => ?_)
  · obtain ⟨a, k, n, rfl, _⟩ := h
    rfl
  obtain ⟨a, k, n, rfl, hd, hn, hk, hk2, q⟩ := h
  have h2 := two_pos k
  refine ⟨_, (pss_cons (ps_set (i := 2) sc__law_word.nd rfl (Or.inl rfl) pe_int)
      (pss_cons (ps_for PassesOwn.never rfl (pi_range1 (by rfl) T.z_range (pa_cons (pe_op op_add pe_int (pe_op op_fdiv (pv 1) pe_int)) pa_nil)) (pg_name (i := 3) sc__law_word.nd rfl (Or.inl rfl)) (pss_one (ps_set (i := 2) sc__law_word.nd rfl (Or.inl rfl) (pe_op op_add (pe_op op_mul (pv 2) (pe_op op_pow pe_int pe_int)) (pe_call (ok__law_pick T) (hr.mono (by first | decide | omega)) rfl T.m__law_pick T.F__law_pick.kp T.b__law_pick .nil pass0 (pa_cons (pv 0) (pa_cons (pe_op op_pow pe_int pe_int) pa_nil)))))))
      (pss_cons (ps_set (i := 4) sc__law_word.nd rfl (Or.inl rfl) (pe_op op_oneShl pe_int (pv 1)))
      (pss_one (ps_ret (pe_ix ix_list (pe_lst (pa_cons (pe_op op_mod (pv 2) (pv 4)) (pa_cons (pe_op op_sub (pe_op op_sub (pv 4) pe_int) (pe_op op_mod (pe_op op_mod (pv 2) pe_int) (pv 4))) (pa_cons (pe_op op_shrN (pe_op op_mod (pv 2) (pv 4)) (pe_call (ok__law_pick T) (hr.mono (by first | decide | omega)) rfl T.m__law_pick T.F__law_pick.kp T.b__law_pick .nil pass0 (pa_cons (pv 0) (pa_cons (pv 1) pa_nil)))) pa_nil)))) (pe_call (ok__law_pick T) (hr.mono (by first | decide | omega)) rfl T.m__law_pick T.F__law_pick.kp T.b__law_pick .nil pass0 (pa_cons (pv 0) (pa_cons pe_int pa_nil))) (fun _ _ => rfl))))))), ?_⟩
  walk_at "rd"
  refine ⟨by omega, by omega, for_range (lo := 0) (n := (1 + (k : Int) / 40).toNat) (fun i σ H' => Keep a H H' ∧ Deck H' a (n + i) ∧ ∃ (f : Nat) (t : Option V), σ = [some (.ref a), some (.int (k : Int)), some (.int (f : Int)), t, none]) ⟨Keep.refl _ _, hd, 0, none, rfl⟩ ?_ ?_⟩
  · rintro i σ H' hi ⟨k1, d1, f, t, rfl⟩
    walk_at "rd"
    have s1 : S a _ H' [] := ⟨d1, trivial⟩
    walk_at "pick"
    intro v H2 v0 v1 k2 s2
    obtain ⟨v, rfl⟩ := nat_of v0
    walk_at "rd1"
    refine ⟨k1.trans k2, s2.d, f * 10 ^ 13 + v, some (.int (0 + i)), ?_⟩
    have e : (f : Int) * 10 ^ (13 : Int).toNat + (v : Int) = ((f * 10 ^ 13 + v : Nat) : Int) := by
      rw [Int.natCast_add, Int.natCast_mul, Int.natCast_pow]; rfl
    rw [← e]
    rfl
  · rintro σ H' ⟨k1, d1, f, t, rfl⟩
    have s1 : S a _ H' [] := ⟨d1, trivial⟩
    walk_at "rd"
    walk_at "pick"
    intro v H2 v0 v1 k2 s2
    obtain ⟨v, rfl⟩ := nat_of v0
    walk_at "rd"
    walk_at "choose"
    intro y H3 my k3 s3
    have h5 : (f : Int) % 2 ^ k < 2 ^ k := Int.emod_lt_of_pos _ h2
    have h6 : 0 ≤ (f : Int) % 2 ^ k := Int.emod_nonneg _ (by omega)
    have h7 : (f : Int) % 5 % 2 ^ k < 2 ^ k := Int.emod_lt_of_pos _ h2
    have h8 : 0 ≤ (f : Int) % 5 % 2 ^ k := Int.emod_nonneg _ (by omega)
    obtain ⟨z, rfl, hz⟩ : ∃ z : Nat, y = .int (z : Int) ∧ z < 2 ^ k := by
      have e2 := two_cast k
      simp only [List.mem_cons, List.not_mem_nil, or_false] at my
      rcases my with e | e | e
      · obtain ⟨z, hz⟩ := nat_of h6
        exact ⟨z, by rw [e, ← hz], by omega⟩
      · obtain ⟨z, hz⟩ := nat_of (v := 2 ^ k - 1 - (f : Int) % 5 % 2 ^ k) (by omega)
        exact ⟨z, by rw [e, ← hz], by omega⟩
      · obtain ⟨z, hz⟩ := nat_of (v := (f : Int) % 2 ^ k / 2 ^ v) (Int.ediv_nonneg h6 (Int.le_of_lt (two_pos v)))
        have := Int.ediv_le_self (2 ^ v) h6
        exact ⟨z, by rw [e, ← hz], by omega⟩
    exact q z H3 hz (k1.trans (k2.trans k3)) (s3.d.le (by omega))
theorem size_lt {w : Nat} (h : w ≤ 400) : (2 : Int) ^ w < 2 ^ 4000 := by
  rw [two_cast, two_cast]
  exact Int.ofNat_lt.mpr (Nat.pow_lt_pow_right (by decide) (by omega))
def sp_law (K : PySem.W.Frag) : Sp := fun vs H Q _ => ∃ (a : Addr) (ns : List Int), vs = [.ref a] ∧ SqL K H a (ns.map V.int) ∧ ns.length ≤ 63 ∧ (∀ z ∈ ns, Builtin.Int.intBits z ≤ 1048576) ∧ ∀ H', Q (.bl true) H'
theorem ok_law (T : Txt K mg) : FnOk P w K mg base CX0 3 T.a_law T.fd_law ["script"] (sp_law K) := by
  refine T.F_law.ok sc_law (fun vs H Q E h => ?_) (fun cdv A outer s H vs Q E hr h => ?_)
  · obtain ⟨a, ns, rfl, _⟩ := h
    rfl
  obtain ⟨sa, ns, rfl, hS, h63, hbits, q⟩ := h
  refine ⟨_, (pss_cons (ps_set (i := 1) sc_law.nd rfl (Or.inl rfl) (pe_call (ok__law_deck T) (hr.mono (by first | decide | omega)) rfl T.m__law_deck T.F__law_deck.kp T.b__law_deck .nil pass0 (pa_cons (pe_ix ix_list (pe_op op_catR (pv 0) (pe_lst (pa_cons pe_int pa_nil))) pe_int (fun _ _ => rfl)) (pa_cons pe_int pa_nil))))
      (pss_cons (ps_set (i := 2) sc_law.nd rfl (Or.inl rfl) (pe_ix ix_list (pe_lst (pa_cons (pe_op op_add pe_int (pe_call (ok__law_pick T) (hr.mono (by first | decide | omega)) rfl T.m__law_pick T.F__law_pick.kp T.b__law_pick .nil pass0 (pa_cons (pv 1) (pa_cons pe_int pa_nil)))) (pa_cons (pe_op op_add pe_int (pe_call (ok__law_pick T) (hr.mono (by first | decide | omega)) rfl T.m__law_pick T.F__law_pick.kp T.b__law_pick .nil pass0 (pa_cons (pv 1) (pa_cons pe_int pa_nil)))) pa_nil))) (pe_call (ok__law_pick T) (hr.mono (by first | decide | omega)) rfl T.m__law_pick T.F__law_pick.kp T.b__law_pick .nil pass0 (pa_cons (pv 1) (pa_cons pe_int pa_nil))) (fun _ _ => rfl)))
      (pss_cons (ps_set (i := 3) sc_law.nd rfl (Or.inl rfl) (pe_op op_oneShl pe_int (pv 2)))
      (pss_cons (ps_set (i := 4) sc_law.nd rfl (Or.inl rfl) (pe_tup (pa_cons (pe_call (ok__law_word T) (hr.mono (by first | decide | omega)) rfl T.m__law_word T.F__law_word.kp T.b__law_word .nil pass0 (pa_cons (pv 1) (pa_cons (pv 2) pa_nil))) (pa_cons pe_int pa_nil))))
      (pss_cons (ps_set (i := 5) sc_law.nd rfl (Or.inl rfl) (pe_ix ix_tup (pv 4) pe_int (fun _ _ => rfl)))
      (pss_cons (ps_for PassesOwn.never rfl (pi_range1 (by rfl) T.z_range (pa_cons (pe_ix ix_list (pe_lst (pa_cons pe_int (pa_cons (pe_op op_add pe_int (pe_call (ok__law_pick T) (hr.mono (by first | decide | omega)) rfl T.m__law_pick T.F__law_pick.kp T.b__law_pick .nil pass0 (pa_cons (pv 1) (pa_cons pe_int pa_nil)))) pa_nil))) (pe_callTy call_int1 (by rfl) T.z_int (by decide +kernel) (pa_cons (pe_cmpR op_gt (pe_call (ok__law_pick T) (hr.mono (by first | decide | omega)) rfl T.m__law_pick T.F__law_pick.kp T.b__law_pick .nil pass0 (pa_cons (pv 1) (pa_cons pe_int pa_nil))) pe_int (nomark _)) pa_nil)) (fun _ _ => rfl)) pa_nil)) (pg_name (i := 6) sc_law.nd rfl (Or.inl rfl)) (pss_cons (ps_set (i := 7) sc_law.nd rfl (Or.inl rfl) (pe_call (ok__law_word T) (hr.mono (by first | decide | omega)) rfl T.m__law_word T.F__law_word.kp T.b__law_word .nil pass0 (pa_cons (pv 1) (pa_cons (pv 2) pa_nil))))
      (pss_cons (ps_set (i := 5) sc_law.nd rfl (Or.inl rfl) (pe_op op_add (pv 5) (pv 7)))
      (pss_cons (ps_set (i := 4) sc_law.nd rfl (Or.inl rfl) (pe_call (ok_three_in_two T) (hr.mono (by first | decide | omega)) rfl T.m_three_in_two T.F_three_in_two.kp T.b_three_in_two .nil pass0 (pa_cons (pv 2) (pa_cons (pe_ix ix_tup (pv 4) pe_int (fun _ _ => rfl)) (pa_cons (pe_ix ix_tup (pv 4) pe_int (fun _ _ => rfl)) (pa_cons (pv 7) pa_nil))))))
      (pss_cons (ps_if (PW.pt (pw_or (pt_not (pt_val (pe_callB call_isi (by rfl) T.z_isinstance (by decide +kernel) (pa_cons (pv 4) (pa_cons (pe_bltn (v := .ty "tuple") (u := .type "tuple") (by rfl) T.z_tuple (by decide +kernel) rfl) pa_nil))))) (pw_or (pt_not (pt_chain op_le op_lt pe_int (pe_ix ix_tup (pv 4) pe_int (fun _ _ => rfl)) (pv 3))) (pw_or1 (pt_not (pt_chain op_le op_lt pe_int (pe_ix ix_tup (pv 4) pe_int (fun _ _ => rfl)) (pv 3))))))) (pss_one (ps_ret pe_bl)) pss_nil)
      (pss_cons (ps_if (pt_cmpR op_ne (pe_call (ok_pair_worth T) (hr.mono (by first | decide | omega)) rfl T.m_pair_worth T.F_pair_worth.kp T.b_pair_worth .nil pass0 (pa_cons (pv 2) (pa_cons (pv 4) pa_nil))) (pe_call (ok__law_worth T) (hr.mono (by first | decide | omega)) rfl T.m__law_worth T.F__law_worth.kp T.b__law_worth .nil pass0 (pa_cons (pv 2) (pa_cons (pv 5) pa_nil))) (nomark _)) (pss_one (ps_ret pe_bl)) pss_nil)
      (pss_cons (ps_set (i := 8) sc_law.nd rfl (Or.inl rfl) (pe_call (ok__law_pick T) (hr.mono (by first | decide | omega)) rfl T.m__law_pick T.F__law_pick.kp T.b__law_pick .nil pass0 (pa_cons (pv 1) (pa_cons (pv 2) pa_nil))))
      (pss_cons (ps_set (i := 9) sc_law.nd rfl (Or.inl rfl) (pe_op op_oneShl pe_int (pv 8)))
      (pss_cons (ps_set (i := 10) sc_law.nd rfl (Or.inl rfl) (pe_call (ok_look_of T) (hr.mono (by first | decide | omega)) rfl T.m_look_of T.F_look_of.kp T.b_look_of .nil pass0 (pa_cons (pv 2) (pa_cons (pv 4) (pa_cons (pv 8) pa_nil)))))
      (pss_cons (ps_set (i := 11) sc_law.nd rfl (Or.inl rfl) (pe_op op_fdivW (pe_op op_mod (pv 5) (pv 3)) (pv 9)))
      (pss_cons (ps_set (i := 12) sc_law.nd rfl (Or.inl rfl) (pe_op op_fdivW (pv 3) (pv 9)))
      (pss_one (ps_if (PW.pt (pw_or (pt_not (pt_val (pe_call (ok__law_whole T) (hr.mono (by first | decide | omega)) rfl T.m__law_whole T.F__law_whole.kp T.b__law_whole .nil pass0 (pa_cons (pv 10) pa_nil)))) (pw_or1 (pt_cmpR op_notIn_seq (pe_op op_mod (pe_op op_sub (pv 11) (pv 10)) (pv 12)) (pe_tup (pa_cons pe_int (pa_cons pe_int pa_nil))) (by rfl))))) (pss_one (ps_ret pe_bl)) pss_nil)))))))))))))
      (pss_one (ps_ret pe_bl)))))))), ?_⟩
  walk_at "rd"
  refine ⟨by show 1 ≤ sizeLine; decide, fun z1 hz1 => ?_⟩
  refine ⟨sa, z1, _, _, rfl, rfl, (same_new hz1 _).seq hS, SqL.of upd_same, ?_, fun z2 hz2 => ?_⟩
  · rw [List.length_map]
    exact small1000 (by show ns.length + 1 ≤ 1000; omega) |> Nat.le_of_lt
  obtain ⟨c0, hc0⟩ : ∃ c0 : Int, atI (ns.map V.int ++ [V.int 0]) 0 = some (.int c0) := by
    cases ns with
    | nil => exact ⟨0, rfl⟩
    | cons x r => exact ⟨x, atI_nat (j := 0) rfl⟩
  refine ⟨z2, _, 0, _, rfl, rfl, SqL.of upd_same, hc0, ?_⟩
  refine ⟨_, _, 0, rfl, by decide, by decide, S.of_deck fun a H1 _ _ s1 => ?_⟩
  walk_at "rd"
  walk_at "pick"
  intro v H1 v0 v1 _ s1
  walk_at "rd"
  walk_at "pick"
  intro v' H1 v0' v1' _ s1
  walk_at "rd"
  walk_at "choose"
  intro y H1 my _ s1
  obtain ⟨k, rfl, hk0, hk1⟩ : ∃ k : Nat, y = .int (k : Int) ∧ 2 ≤ k ∧ k ≤ 400 := by
    simp only [List.mem_cons, List.not_mem_nil, or_false] at my
    rcases my with e | e
    · exact ⟨(2 + v).toNat, by rw [e, Int.toNat_of_nonneg (by omega)], by omega, by omega⟩
    · exact ⟨(2 + v').toNat, by rw [e, Int.toNat_of_nonneg (by omega)], by omega, by omega⟩
  walk_at "rd"
  refine ⟨a, k, _, rfl, s1.d, by omega, hk0, by omega, fun v0 H2 hv0 k2 d2 => ?_⟩
  have s2 := s1.keep k2 d2
  refine ⟨by show 2 ≤ sizeLine; decide, fun pr hpr => ?_⟩
  have s3 := s2.new hpr (.tup [.int (v0 : Int), .int 0])
  walk_at "rd"
  walk_at "pick"
  intro v3 H3 v30 v31 _ s3
  walk_at "rd"
  refine ⟨by show 2 ≤ sizeLine; decide, fun l hl => ?_⟩
  have s4 := s3.new hl (.lst [.int 200, .int (1 + v3)])
  walk_at "rd"
  walk_at "pick"
  intro v5 H5 v50 v51 _ s5
  walk_at "rd"
  obtain ⟨c, hc, ec⟩ : ∃ c : Int, (c = 0 ∨ c = 1) ∧ c = if decide (0 < v5) = true then 1 else 0 := ⟨_, by split <;> simp, rfl⟩
  refine .inr ⟨_, rfl, ?_⟩
  rw [← ec]
  obtain ⟨tn, hn1, hn2, hn3⟩ : ∃ tn : Int, atI [V.int 200, V.int (1 + v3)] c = some (.int tn) ∧ 0 ≤ tn ∧ tn ≤ 200 := by
    rcases hc with e | e <;> rw [e]
    · exact ⟨200, rfl, by decide, by decide⟩
    · exact ⟨1 + v3, rfl, by omega, by omega⟩
  refine ⟨l, _, _, _, rfl, rfl, SqL.of (s5.at_ (.head _)), hn1, ?_⟩
  have s5 := s5.drop
  have h2 := two_pos k
  have e2 := two_cast k
  refine ⟨_, rfl, by omega, by omega, for_range (lo := 0) (n := tn.toNat) (fun i σ H' => ∃ (p : Addr) (x y t : Nat), S a (1000 + i * 100) H' [At a p (.tup [.int (x : Int), .int (y : Int)])] ∧ x < 2 ^ k ∧ y < 2 ^ k ∧ (x + y) % 2 ^ k = t % 2 ^ k ∧
    ∃ t6 t7 t8 t9 t10 t11 t12 : Option V, σ = [some (.ref sa), some (.ref a), some (.int (k : Int)), some (.int (2 ^ k)), some (.ref p), some (.int (t : Int)), t6, t7, t8, t9, t10, t11, t12])
    ⟨pr, v0, 0, v0, s5.le (by omega), hv0, Nat.two_pow_pos k, rfl, none, none, none, none, none, none, none, rfl⟩ ?_ ?_⟩
  · rintro i σ H' hi ⟨p, x, y, t, s6, hx, hy, hxy, t6, t7, t8, t9, t10, t11, t12, rfl⟩
    walk_at "rd"
    refine ⟨a, k, _, rfl, s6.d, by omega, hk0, by omega, fun z H7 hz k7 d7 => ?_⟩
    have s7 := s6.keep k7 d7
    walk_at "rd"
    refine ⟨k, x, y, z, rfl, by omega, fun r hr7 => ?_⟩
    have s8 := s7.new hr7 (.tup [.int ((x ^^^ y ^^^ z : Nat) : Int), .int ((2 * maj x y z % 2 ^ k : Nat) : Int)])
    have hX := xor3_lt hx hy hz
    have hY : 2 * maj x y z % 2 ^ k < 2 ^ k := Nat.mod_lt _ (Nat.two_pow_pos k)
    have hXY : ((x ^^^ y ^^^ z) + 2 * maj x y z % 2 ^ k) % 2 ^ k = (t + z) % 2 ^ k := by
      rw [Nat.add_mod, Nat.mod_mod, ← Nat.add_mod, csa, Nat.add_mod, hxy, ← Nat.add_mod]
    generalize hXe : x ^^^ y ^^^ z = X at *
    generalize hYe : 2 * maj x y z % 2 ^ k = Y at *
    walk_at "go"
    refine ⟨k, r, _, _, rfl, SqT.of (s8.at_ (.head _)), by omega, ?_⟩
    walk_at "rd"
    refine ⟨by omega, by omega, ?_⟩
    have ew : pwS (2 ^ k) ((X : Int) + (Y : Int)) = pwS (2 ^ k) ((t : Int) + (z : Int)) := pw_mod (by
      rw [e2, ← Int.natCast_add, ← Int.natCast_add, ← Int.natCast_emod, ← Int.natCast_emod, hXY])
    walk_at "rd"
    refine iteVN' ew ?_
    walk_at "rd"
    walk_at "pick"
    intro v9 H9 v90 v91 _ s9
    obtain ⟨l, rfl⟩ := nat_of v90
    walk_at "rd"
    refine ⟨k, l, r, _, _, rfl, SqT.of (s9.at_ (.head _)), by omega, by omega, fun r2 o2 hr2 => ?_⟩
    have s10 := s9.same (same_new hr2 o2)
    generalize upd H9 r2 o2 = H10 at *
    have hl2 := two_pos l
    have hV := two_pos (k - l)
    have eS : (2 : Int) ^ k = 2 ^ (k - l) * 2 ^ l := by rw [← Int.pow_add, Nat.sub_add_cancel (by omega)]
    have eV : (2 : Int) ^ k / 2 ^ l = 2 ^ (k - l) := by rw [eS, Int.mul_ediv_cancel _ (by omega)]
    walk_at "rd"
    refine ⟨div2 (by omega), ?_⟩
    walk_at "rd"
    refine ⟨div2 (by omega), ?_⟩
    have hm : (0 : Int) < 2 ^ k / 2 ^ l := by rw [eV]; exact hV
    walk_at "rd"
    refine ⟨fun _ => True, _, rfl, .int _, ?_⟩
    walk_at "go"
    refine ⟨by show 2 ≤ sizeLine; decide, fun t2 ht2 => ?_⟩
    have s11 := s10.new ht2 (.tup [.int 0, .int 1])
    refine ⟨t2, _, rfl, .inr (SqT.of (s11.at_ (.head _))), rfl, rfl, _, rfl, ?_⟩
    have hin : inV (.int (((((t : Int) + (z : Int)) % 2 ^ k / 2 ^ l) - pwS (2 ^ (k - l)) ((X : Int) / 2 ^ l + (Y : Int) / 2 ^ l)) % (2 ^ k / 2 ^ l))) [.int 0, .int 1] = true := by
      refine inV_in (xs := [0, 1]) ?_
      have hn := look_near (a := (X : Int)) (b := (Y : Int)) (t := (t : Int) + (z : Int)) hV hl2 (by
        rw [← eS, e2, ← Int.natCast_add, ← Int.natCast_add, ← Int.natCast_emod, ← Int.natCast_emod, hXY])
      rw [← eS] at hn
      rw [eV]
      have e1 : (1 : Int) % 2 ^ (k - l) = 1 := by
        rw [two_even (w := k - l) (by omega)]
        exact Int.emod_eq_of_lt (by decide) (by have := two_pos (k - l - 1); omega)
      rw [e1] at hn
      rcases hn with h | h <;> rw [h] <;> simp
    show if (!inV (.int (((((t : Int) + (z : Int)) % 2 ^ k / 2 ^ l) - pwS (2 ^ (k - l)) ((X : Int) / 2 ^ l + (Y : Int) / 2 ^ l)) % (2 ^ k / 2 ^ l))) [.int 0, .int 1]) = true then _ else _
    rw [hin]
    refine iteF ?_
    have s12 := S.le (m := 1000 + (i + 1) * 100) s11.drop.only (by omega)
    exact ⟨r, X, Y, t + z, s12, hX, hY, hXY, _, _, _, _, _, _, _, rfl⟩
  · rintro σ H' ⟨p, x, y, t, s6, hx, hy, hxy, t6, t7, t8, t9, t10, t11, t12, rfl⟩
    exact q _
end
theorem all_mk {l : PySem.W.OpenLaw} {w : World} {K : PySem.W.Frag} {h : Heap} {mg : Str → Option Value} {fa : Addr} (X : K.In h) (G : h.Ns mainGlobals mg) (hfa : mg "law" = some (.ref fa))
    {f0 : Addr} {od0 an0 : Option Addr} {sl0 : Array (Option Value)} {oc0 kV0 dc0 pm0 cd0 ct0 : Value}
    {f1 : Addr} {od1 an1 : Option Addr} {sl1 : Array (Option Value)} {oc1 kV1 dc1 pm1 cd1 ct1 : Value}
    {f2 : Addr} {od2 an2 : Option Addr} {sl2 : Array (Option Value)} {oc2 kV2 dc2 pm2 cd2 ct2 : Value}
    {f3 : Addr} {od3 an3 : Option Addr} {sl3 : Array (Option Value)} {oc3 kV3 dc3 pm3 cd3 ct3 : Value}
    {f4 : Addr} {od4 an4 : Option Addr} {sl4 : Array (Option Value)} {oc4 kV4 dc4 pm4 cd4 ct4 : Value}
    {f5 : Addr} {od5 an5 : Option Addr} {sl5 : Array (Option Value)} {oc5 kV5 dc5 pm5 cd5 ct5 : Value}
    {f6 : Addr} {od6 an6 : Option Addr} {sl6 : Array (Option Value)} {oc6 kV6 dc6 pm6 cd6 ct6 : Value}
    {f7 : Addr} {od7 an7 : Option Addr} {sl7 : Array (Option Value)} {oc7 kV7 dc7 pm7 cd7 ct7 : Value}
    {f8 : Addr} {od8 an8 : Option Addr} {sl8 : Array (Option Value)} {oc8 kV8 dc8 pm8 cd8 ct8 : Value}
    (a0 : PySem.W.nsIn K mainGlobals "pair_worth" = some (some (.ref f0))) (l0 : K.lookup f0 = some ⟨oc0, od0, .func (PySem.W.fnOf "pair_worth" "pair_worth" (defArgs s_pair_worth) (defBody s_pair_worth) (defScope s_pair_worth) .none kV0 dc0 pm0 an0 cd0 ct0), sl0⟩) (c0 : PySem.W.codeIn K cd0 "pair_worth" = true) (k0 : PySem.W.keepIn K (.ref f0) = true)
    (a1 : PySem.W.nsIn K mainGlobals "look_of" = some (some (.ref f1))) (l1 : K.lookup f1 = some ⟨oc1, od1, .func (PySem.W.fnOf "look_of" "look_of" (defArgs s_look_of) (defBody s_look_of) (defScope s_look_of) .none kV1 dc1 pm1 an1 cd1 ct1), sl1⟩) (c1 : PySem.W.codeIn K cd1 "look_of" = true) (k1 : PySem.W.keepIn K (.ref f1) = true)
    (a2 : PySem.W.nsIn K mainGlobals "three_in_two" = some (some (.ref f2))) (l2 : K.lookup f2 = some ⟨oc2, od2, .func (PySem.W.fnOf "three_in_two" "three_in_two" (defArgs s_three_in_two) (defBody s_three_in_two) (defScope s_three_in_two) .none kV2 dc2 pm2 an2 cd2 ct2), sl2⟩) (c2 : PySem.W.codeIn K cd2 "three_in_two" = true) (k2 : PySem.W.keepIn K (.ref f2) = true)
    (a3 : PySem.W.nsIn K mainGlobals "_law_deck" = some (some (.ref f3))) (l3 : K.lookup f3 = some ⟨oc3, od3, .func (PySem.W.fnOf "_law_deck" "_law_deck" (defArgs s__law_deck) (defBody s__law_deck) (defScope s__law_deck) .none kV3 dc3 pm3 an3 cd3 ct3), sl3⟩) (c3 : PySem.W.codeIn K cd3 "_law_deck" = true) (k3 : PySem.W.keepIn K (.ref f3) = true)
    (a4 : PySem.W.nsIn K mainGlobals "_law_pick" = some (some (.ref f4))) (l4 : K.lookup f4 = some ⟨oc4, od4, .func (PySem.W.fnOf "_law_pick" "_law_pick" (defArgs s__law_pick) (defBody s__law_pick) (defScope s__law_pick) .none kV4 dc4 pm4 an4 cd4 ct4), sl4⟩) (c4 : PySem.W.codeIn K cd4 "_law_pick" = true) (k4 : PySem.W.keepIn K (.ref f4) = true)
    (a5 : PySem.W.nsIn K mainGlobals "_law_whole" = some (some (.ref f5))) (l5 : K.lookup f5 = some ⟨oc5, od5, .func (PySem.W.fnOf "_law_whole" "_law_whole" (defArgs s__law_whole) (defBody s__law_whole) (defScope s__law_whole) .none kV5 dc5 pm5 an5 cd5 ct5), sl5⟩) (c5 : PySem.W.codeIn K cd5 "_law_whole" = true) (k5 : PySem.W.keepIn K (.ref f5) = true)
    (a6 : PySem.W.nsIn K mainGlobals "_law_worth" = some (some (.ref f6))) (l6 : K.lookup f6 = some ⟨oc6, od6, .func (PySem.W.fnOf "_law_worth" "_law_worth" (defArgs s__law_worth) (defBody s__law_worth) (defScope s__law_worth) .none kV6 dc6 pm6 an6 cd6 ct6), sl6⟩) (c6 : PySem.W.codeIn K cd6 "_law_worth" = true) (k6 : PySem.W.keepIn K (.ref f6) = true)
    (a7 : PySem.W.nsIn K mainGlobals "_law_word" = some (some (.ref f7))) (l7 : K.lookup f7 = some ⟨oc7, od7, .func (PySem.W.fnOf "_law_word" "_law_word" (defArgs s__law_word) (defBody s__law_word) (defScope s__law_word) .none kV7 dc7 pm7 an7 cd7 ct7), sl7⟩) (c7 : PySem.W.codeIn K cd7 "_law_word" = true) (k7 : PySem.W.keepIn K (.ref f7) = true)
    (a8 : PySem.W.nsIn K mainGlobals "law" = some (some (.ref f8))) (l8 : K.lookup f8 = some ⟨oc8, od8, .func (PySem.W.fnOf "law" "law" (defArgs s_law) (defBody s_law) (defScope s_law) .none kV8 dc8 pm8 an8 cd8 ct8), sl8⟩) (c8 : PySem.W.codeIn K cd8 "law" = true) (k8 : PySem.W.keepIn K (.ref f8) = true)
    (z0 : PySem.W.nsIn K mainGlobals "isinstance" = some none)
    (z1 : PySem.W.nsIn K mainGlobals "int" = some none)
    (z2 : PySem.W.nsIn K mainGlobals "bool" = some none)
    (z3 : PySem.W.nsIn K mainGlobals "range" = some none)
    (z4 : PySem.W.nsIn K mainGlobals "tuple" = some none) :
    ∃ fd : FuncData, (∀ (s : Shared) (v : Value), BindsTo s fd ⟨[v], []⟩ [("script", v)]) ∧ ∀ base : Heap, K.In base → base.Ns mainGlobals mg → FnOk l.prog w K mg base CX0 3 fa fd ["script"] (sp_law K) := by
  have e := hfa.symm.trans (PySem.W.mg_of X G a8)
  cases e
  have F0 := fun_mk (st := s_pair_worth) l0 c0 k0
  have b0 := F0.binds (ps := ["width", "pair"]) fun _ _ _ _ _ _ us hl => match us, hl with | [_, _], _ => rfl
  have F1 := fun_mk (st := s_look_of) l1 c1 k1
  have b1 := F1.binds (ps := ["width", "pair", "low"]) fun _ _ _ _ _ _ us hl => match us, hl with | [_, _, _], _ => rfl
  have F2 := fun_mk (st := s_three_in_two) l2 c2 k2
  have b2 := F2.binds (ps := ["width", "one", "other", "third"]) fun _ _ _ _ _ _ us hl => match us, hl with | [_, _, _, _], _ => rfl
  have F3 := fun_mk (st := s__law_deck) l3 c3 k3
  have b3 := F3.binds (ps := ["cell", "turn"]) fun _ _ _ _ _ _ us hl => match us, hl with | [_, _], _ => rfl
  have F4 := fun_mk (st := s__law_pick) l4 c4 k4
  have b4 := F4.binds (ps := ["deck", "many"]) fun _ _ _ _ _ _ us hl => match us, hl with | [_, _], _ => rfl
  have F5 := fun_mk (st := s__law_whole) l5 c5 k5
  have b5 := F5.binds (ps := ["thing"]) fun _ _ _ _ _ _ us hl => match us, hl with | [_], _ => rfl
  have F6 := fun_mk (st := s__law_worth) l6 c6 k6
  have b6 := F6.binds (ps := ["width", "total"]) fun _ _ _ _ _ _ us hl => match us, hl with | [_, _], _ => rfl
  have F7 := fun_mk (st := s__law_word) l7 c7 k7
  have b7 := F7.binds (ps := ["deck", "width"]) fun _ _ _ _ _ _ us hl => match us, hl with | [_, _], _ => rfl
  have F8 := fun_mk (st := s_law) l8 c8 k8
  have b8 := F8.binds (ps := ["script"]) fun _ _ _ _ _ _ us hl => match us, hl with | [_], _ => rfl
  let T : Txt K mg := { a_pair_worth := f0, fd_pair_worth := _, F_pair_worth := F0, m_pair_worth := PySem.W.mg_of X G a0, b_pair_worth := b0, a_look_of := f1, fd_look_of := _, F_look_of := F1, m_look_of := PySem.W.mg_of X G a1, b_look_of := b1, a_three_in_two := f2, fd_three_in_two := _, F_three_in_two := F2, m_three_in_two := PySem.W.mg_of X G a2, b_three_in_two := b2, a__law_deck := f3, fd__law_deck := _, F__law_deck := F3, m__law_deck := PySem.W.mg_of X G a3, b__law_deck := b3, a__law_pick := f4, fd__law_pick := _, F__law_pick := F4, m__law_pick := PySem.W.mg_of X G a4, b__law_pick := b4, a__law_whole := f5, fd__law_whole := _, F__law_whole := F5, m__law_whole := PySem.W.mg_of X G a5, b__law_whole := b5, a__law_worth := f6, fd__law_worth := _, F__law_worth := F6, m__law_worth := PySem.W.mg_of X G a6, b__law_worth := b6, a__law_word := f7, fd__law_word := _, F__law_word := F7, m__law_word := PySem.W.mg_of X G a7, b__law_word := b7, a_law := fa, fd_law := _, F_law := F8, m_law := PySem.W.mg_of X G a8, b_law := b8, z_isinstance := PySem.W.mg_none_of X G z0, z_int := PySem.W.mg_none_of X G z1, z_bool := PySem.W.mg_none_of X G z2, z_range := PySem.W.mg_none_of X G z3, z_tuple := PySem.W.mg_none_of X G z4 }
  exact ⟨PySem.W.fnOf "law" "law" (defArgs s_law) (defBody s_law) (defScope s_law) .none kV8 dc8 pm8 an8 cd8 ct8, fun s v => .of_eq rfl, fun base _ _ => ok_law T⟩
theorem walk {l : PySem.W.OpenLaw} {q : Program} {loose : List Str} {XP : (Str → Option Value) → Heap → Prop} {YP : World → Heap → Prop} {d : DefRec} {K : Params → PySem.W.Frag} (hn : l.most = some 63) (hdf : d.params.defaults = [])
    (hY : ∀ (w : World) (h : Heap), YP w h → (K w.params).In h)
    (F : ∀ (w : World) (mg : Str → Option Value) (fa : Addr) (h : Heap), (K w.params).In h → h.Ns mainGlobals mg → mg d.name = some (.ref fa) →
      ∃ fd : FuncData, (∀ (s : Shared) (u : Value), BindsTo s fd ⟨[u], []⟩ [("script", u)]) ∧ ∀ base : Heap, (K w.params).In base → base.Ns mainGlobals mg → FnOk l.prog w (K w.params) mg base CX0 3 fa fd ["script"] (sp_law (K w.params))) :
    PySem.W.WalkO q loose XP YP l.row.toRowW d [] (fun f vs => PySem.call f vs) :=
  L2.walk_ofB (n := 63) (k := 3) (x := "script") (CX := fun _ => CX0) (sp := fun w => sp_law (K w.params)) hn (by decide) hdf ⟨rfl, by decide, by decide⟩ hY F (fun _ _ a ns hl hb _ hS => ⟨a, ns, rfl, hS, hl, hb, fun _ => rfl⟩) fun _ _ _ _ _ z => z
end My
open PySem PySem.W PyProof.Rows
set_option maxRecDepth 100000 in
set_option maxHeartbeats 0 in
theorem PySem.Challenge.cw_slackfigures_k32_whole_many_summed_holds : PySem.Challenge.rw_slackfigures_k32_whole_many_summed.Holds := by
  w_on; o_law; k_head; (case hw => w_witness2)
  k_fill
  refine My.walk (l := PySem.Challenge.rw_slackfigures_k32_whole_many_summed) rfl rfl (fun w h Y => PySem.W.kIn_of Y) ?F
  case F =>
    intro w mg fa h KX G hmg
    refine' My.all_mk KX G hmg ?a0 ?l0 ?c0 ?k0 ?a1 ?l1 ?c1 ?k1 ?a2 ?l2 ?c2 ?k2 ?a3 ?l3 ?c3 ?k3 ?a4 ?l4 ?c4 ?k4 ?a5 ?l5 ?c5 ?k5 ?a6 ?l6 ?c6 ?k6 ?a7 ?l7 ?c7 ?k7 ?a8 ?l8 ?c8 ?k8 ?z0 ?z1 ?z2 ?z3 ?z4
    (case a0 => k_is)
    (case l0 => k_is)
    (case c0 => k_is)
    (case k0 => k_is)
    (case a1 => k_is)
    (case l1 => k_is)
    (case c1 => k_is)
    (case k1 => k_is)
    (case a2 => k_is)
    (case l2 => k_is)
    (case c2 => k_is)
    (case k2 => k_is)
    (case a3 => k_is)
    (case l3 => k_is)
    (case c3 => k_is)
    (case k3 => k_is)
    (case a4 => k_is)
    (case l4 => k_is)
    (case c4 => k_is)
    (case k4 => k_is)
    (case a5 => k_is)
    (case l5 => k_is)
    (case c5 => k_is)
    (case k5 => k_is)
    (case a6 => k_is)
    (case l6 => k_is)
    (case c6 => k_is)
    (case k6 => k_is)
    (case a7 => k_is)
    (case l7 => k_is)
    (case c7 => k_is)
    (case k7 => k_is)
    (case a8 => k_is)
    (case l8 => k_is)
    (case c8 => k_is)
    (case k8 => k_is)
    (case z0 => k_is)
    (case z1 => k_is)
    (case z2 => k_is)
    (case z3 => k_is)
    (case z4 => k_is)
