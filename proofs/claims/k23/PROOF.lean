import PyProof.Rows.All
import Wide.All
import OpenK.AllK
import Wide.FinOn
import HandS.ForMost
import HandS.EndBits
import HandS.Wide
import HandS.WideBits
import HandS.IsInst
import HandS.Style
import HandS.Codes
import HandS.Text
import HandS.Conv
import HandS.Zip
import HandS.Rev
import HandS.SetFor
import HandS.NoneIn
import KE.GoesEnumKw
import KE.GoesMore
import KE.KMinBuiltin
import HandS.FStr
import HandS.ExcCtx
import HandS.ExcInit
import HandS.ExcIs
import HandS.ExcField
import HandS.HotCalls
import HandS.ClsMeth
import KE.KExcIs
import HandS.Head0
import HandS.Head1
import HandS.Head2
import HandS.HeadEnd
import HandS.HeadHook1
import HandS.HeadHook2
import PySem.Challenge.RW_slackfigures_k23_tables_for_roots
set_option Elab.async false
set_option linter.all false
set_option maxRecDepth 100000
set_option maxHeartbeats 4000000
set_option Elab.async false
set_option linter.all false
set_option maxRecDepth 100000
set_option maxHeartbeats 4000000
namespace My
open PySem L2
def top (i : Nat) : Stmt := PySem.Challenge.pw_slackfigures_k23_tables_for_roots.main.body.getD i (.Pass ⟨0, 0, 0, 0⟩)
theorem ls0 {α : Type} {l : List α} (h : l.length = 0) : l = [] := List.eq_nil_of_length_eq_zero h
theorem ls1 {α : Type} {l : List α} (h : l.length = 1) : ∃ a0, l = [a0] := by
  cases l with
  | nil => cases h
  | cons b l =>
    obtain rfl := ls0 (l := l) (Nat.succ.inj h)
    exact ⟨b, rfl⟩
theorem ls2 {α : Type} {l : List α} (h : l.length = 2) : ∃ a0 a1, l = [a0, a1] := by
  cases l with
  | nil => cases h
  | cons b l =>
    obtain ⟨a0, rfl⟩ := ls1 (l := l) (Nat.succ.inj h)
    exact ⟨b, a0, rfl⟩
theorem ls3 {α : Type} {l : List α} (h : l.length = 3) : ∃ a0 a1 a2, l = [a0, a1, a2] := by
  cases l with
  | nil => cases h
  | cons b l =>
    obtain ⟨a0, a1, rfl⟩ := ls2 (l := l) (Nat.succ.inj h)
    exact ⟨b, a0, a1, rfl⟩
theorem ls4 {α : Type} {l : List α} (h : l.length = 4) : ∃ a0 a1 a2 a3, l = [a0, a1, a2, a3] := by
  cases l with
  | nil => cases h
  | cons b l =>
    obtain ⟨a0, a1, a2, rfl⟩ := ls3 (l := l) (Nat.succ.inj h)
    exact ⟨b, a0, a1, a2, rfl⟩
theorem ls5 {α : Type} {l : List α} (h : l.length = 5) : ∃ a0 a1 a2 a3 a4, l = [a0, a1, a2, a3, a4] := by
  cases l with
  | nil => cases h
  | cons b l =>
    obtain ⟨a0, a1, a2, a3, rfl⟩ := ls4 (l := l) (Nat.succ.inj h)
    exact ⟨b, a0, a1, a2, a3, rfl⟩
abbrev s_upper_ends : Stmt := top 10
abbrev s_spans_between : Stmt := top 11
abbrev s_bare_look : Stmt := top 12
abbrev s_first_bare : Stmt := top 13
abbrev s_refuse_bare : Stmt := top 14
abbrev s_plain_row : Stmt := top 15
abbrev s_plain_rows : Stmt := top 16
abbrev s_is_right : Stmt := top 17
abbrev s_wrong_looks : Stmt := top 18
abbrev s_first_wrong : Stmt := top 19
abbrev s_half_of : Stmt := top 21
abbrev s_first_top : Stmt := top 22
abbrev s_tops_of : Stmt := top 23
abbrev s_ends_of_top : Stmt := top 25
abbrev s_curved : Stmt := top 26
abbrev s_start_of : Stmt := top 27
abbrev s_asked_bounds : Stmt := top 28
abbrev s_root_spans : Stmt := top 29
abbrev s_root_sheet : Stmt := top 30
abbrev s_first_root_fault : Stmt := top 31
abbrev s_root_table : Stmt := top 32
abbrev s__law_deck : Stmt := top 34
abbrev s__law_pick : Stmt := top 35
abbrev s__law_half : Stmt := top 36
abbrev s__law_sides : Stmt := top 37
abbrev s__law_cut : Stmt := top 38
abbrev s__law_places : Stmt := top 39
abbrev s__law_root_good : Stmt := top 40
abbrev s__law_root_set : Stmt := top 41
abbrev s__law_root_table : Stmt := top 42
abbrev s__law_spoilt : Stmt := top 43
abbrev s__law_name_of : Stmt := top 44
abbrev s__law_told : Stmt := top 45
abbrev s__law_first : Stmt := top 46
abbrev s_law : Stmt := top 47
abbrev s_NoTable_init : Stmt := inClass (top 3) 0
def fGd (K : PySem.W.Frag) (x : Str) : Bool := decide (PySem.W.nsIn K mainGlobals x = some (some (.ref (He.fAd K (x, none)))))
def fZd (K : PySem.W.Frag) (x : Str) : Bool := decide (PySem.W.nsIn K mainGlobals x = some none)
def fKd (K : PySem.W.Frag) (p : Str × Option Str) : Bool := PySem.W.keepIn K (.ref (He.fAd K p))
def fMd (K : PySem.W.Frag) (x m : Str) : Bool := decide (PySem.W.findIn K (.ref (He.ga K x)) m = some (some (.ref (He.fAd K (x, some m)))))
def fSd (K : PySem.W.Frag) (x y : Str) (b : Bool) : Bool := decide (PySem.W.subIn K (.ref (He.ga K x)) (.ref (He.ga K y)) = some b)
def fCd (K : PySem.W.Frag) (x : Str) : Bool := decide (PySem.W.nsIn K mainGlobals x = some (some (.ref (He.ga K x))))
def fNd (K : PySem.W.Frag) (x m : Str) : Bool := decide (PySem.W.findIn K (.ref (He.ga K x)) m = some none)
def fk (p : Str × Option Str) (n q : Str) (s : Stmt) : He.FnD := ⟨p, n, q, defArgs s, defBody s, defScope s⟩
/-- an own exception's class with an own beginning, over S -/
def xlB (K : PySem.W.Frag) (C S : Addr) : Bool := match K.lookup C with
  | some ⟨.type "type", _, .cls cd, sl⟩ => (match cd.mro, sl.toList with
    | .ref C' :: bm, [_, _, _, _, some (.builtin n), _] => C' == C && (n == "ValueError.__new__" && (!cd.hasDel && (cd.hasDict && decide (bm = [.ref S, .type "ValueError", .type "Exception", .type "BaseException", .type "object"]))))
    | _, _ => false)
  | _ => false
theorem xlB_ok {K : PySem.W.Frag} {C S : Addr} (q : xlB K C S = true) : ∃ nm qn N bs sn sub ab col dd k0 k1 k2 k3 k5,
    K.lookup C = some (excClassObj nm qn C N bs [.ref S, .type "ValueError", .type "Exception", .type "BaseException", .type "object"] true sn sub ab col dd k0 k1 k2 k3 k5 "ValueError.__new__") := by
  unfold xlB at q
  split at q
  · rename_i dd cd sl ho
    split at q
    · rename_i D0 bm k0 k1 k2 k3 n0 k5 hm hs
      obtain ⟨q1, q⟩ := He.ba q
      obtain ⟨q2, q⟩ := He.ba q
      obtain ⟨q3, q⟩ := He.ba q
      obtain ⟨q4, q5⟩ := He.ba q
      have q6 := of_decide_eq_true q5
      simp only [beq_iff_eq, Bool.not_eq_true'] at q1 q2 q3
      obtain ⟨nm, bs, mr, N0, qn, hd, sn, sub, ab, col, dl⟩ := cd
      dsimp only at hm q3 q4
      subst hm q3 q4 q6 q1 q2
      have hsl : sl = #[k0, k1, k2, k3, some (.builtin "ValueError.__new__"), k5] := by
        obtain ⟨l⟩ := sl
        simp only at hs
        rw [hs]
      subst hsl
      exact ⟨nm, qn, N0, bs, sn, sub, ab, col, dd, k0, k1, k2, k3, k5, ho⟩
    · cases q
  · cases q
def fcB (r : Option PySem.W.CFound) (v : Value) : Bool := match r with
  | some (.val u) => decide (u = v)
  | _ => false
theorem fcB_ok {r : Option PySem.W.CFound} {v : Value} (h : fcB r v = true) : r = some (.val v) := by
  unfold fcB at h
  split at h
  · rw [of_decide_eq_true h]
  · cases h
def factsK0 (K : PySem.W.Frag) : List Bool :=
  [fCd K "NoTable", fCd K "NoFigure", fCd K "NoLooks", fCd K "NoRoom", fCd K "NoRow", fCd K "NoText", fCd K "Spoilt", fCd K "SlackError", decide (PySem.W.subIn K (.ref (He.ga K "SlackError")) (.type "BaseException") = some true), PySem.W.hasDictIn K (He.ga K "SlackError"), decide (PySem.W.typeIn K (.ref (He.ga K "SlackError")) = some (.type "type")), fSd K "NoTable" "SlackError" true, PySem.W.readsIn K (He.ga K "SlackError") (.type "type"), decide (PySem.W.specialIn K (.ref (He.ga K "SlackError")) "__getattribute__" = some (some (.builtin "type.__getattribute__"))), fcB (PySem.W.findCls K (.ref (He.ga K "SlackError")) (.type "type") "__init__") (.builtin "ValueError.__init__"), PySem.W.keepIn K (.ref (He.ga K "NoTable")), decide (PySem.W.subIn K (.ref (He.ga K "NoTable")) (.type "BaseException") = some true), decide (PySem.W.typeIn K (.ref (He.ga K "NoTable")) = some (.type "type")), PySem.W.hasDictIn K (He.ga K "NoTable"), decide (PySem.W.findIn K (.ref (He.ga K "NoTable")) "__getattribute__" = some (some (.builtin "BaseException.__getattribute__"))), fNd K "NoTable" "__getattr__", decide (PySem.W.findIn K (.ref (He.ga K "NoTable")) "__class__" = some (some (.builtin "object.__class__"))), decide (PySem.W.mroIn K (He.ga K "NoTable") (.type "object") = some true), decide (PySem.W.findIn K (.ref (He.ga K "NoTable")) "__setattr__" = some (some (.builtin "object.__setattr__"))), fNd K "NoTable" "top"]
def factsK1 (K : PySem.W.Frag) : List Bool :=
  [fNd K "NoTable" "look", xlB K (He.ga K "NoTable") (He.ga K "SlackError"), fSd K "NoTable" "NoTable" true, fSd K "NoTable" "NoFigure" false, fSd K "NoTable" "NoLooks" false, fSd K "NoTable" "NoRoom" false, fSd K "NoTable" "NoRow" false, fSd K "NoTable" "NoTable" true, fSd K "NoTable" "NoText" false, fSd K "NoTable" "Spoilt" false, decide (PySem.W.subIn K (.ref (He.ga K "NoTable")) (.type "ValueError") = some true), PySem.W.hasDictIn K (He.ga K "NoFigure"), decide (PySem.W.typeIn K (.ref (He.ga K "NoFigure")) = some (.type "type")), PySem.W.hasDictIn K (He.ga K "NoLooks"), decide (PySem.W.typeIn K (.ref (He.ga K "NoLooks")) = some (.type "type")), PySem.W.hasDictIn K (He.ga K "NoRoom"), decide (PySem.W.typeIn K (.ref (He.ga K "NoRoom")) = some (.type "type")), PySem.W.hasDictIn K (He.ga K "NoRow"), decide (PySem.W.typeIn K (.ref (He.ga K "NoRow")) = some (.type "type")), PySem.W.hasDictIn K (He.ga K "NoTable"), decide (PySem.W.typeIn K (.ref (He.ga K "NoTable")) = some (.type "type")), PySem.W.hasDictIn K (He.ga K "NoText"), decide (PySem.W.typeIn K (.ref (He.ga K "NoText")) = some (.type "type")), PySem.W.hasDictIn K (He.ga K "Spoilt"), decide (PySem.W.typeIn K (.ref (He.ga K "Spoilt")) = some (.type "type"))]
def factsK2 (K : PySem.W.Frag) : List Bool :=
  [decide (PySem.W.specialIn K (.builtin "object.__class__") "__get__" = some (some (.builtin "getset_descriptor.__get__"))), decide (PySem.W.takesIn K (.builtin "object.__class__") = some true), fGd K "upper_ends", fKd K ("upper_ends", none), fGd K "spans_between", fKd K ("spans_between", none), fGd K "bare_look", fKd K ("bare_look", none), fGd K "first_bare", fKd K ("first_bare", none), fGd K "refuse_bare", fKd K ("refuse_bare", none), fGd K "plain_row", fKd K ("plain_row", none), fGd K "plain_rows", fKd K ("plain_rows", none), fGd K "is_right", fKd K ("is_right", none), fGd K "wrong_looks", fKd K ("wrong_looks", none), fGd K "first_wrong", fKd K ("first_wrong", none), fGd K "half_of", fKd K ("half_of", none), fGd K "first_top"]
def factsK3 (K : PySem.W.Frag) : List Bool :=
  [fKd K ("first_top", none), fGd K "tops_of", fKd K ("tops_of", none), fGd K "ends_of_top", fKd K ("ends_of_top", none), fGd K "curved", fKd K ("curved", none), fGd K "start_of", fKd K ("start_of", none), fGd K "asked_bounds", fKd K ("asked_bounds", none), fGd K "root_spans", fKd K ("root_spans", none), fGd K "root_sheet", fKd K ("root_sheet", none), fGd K "first_root_fault", fKd K ("first_root_fault", none), fGd K "root_table", fKd K ("root_table", none), fGd K "_law_deck", fKd K ("_law_deck", none), fGd K "_law_pick", fKd K ("_law_pick", none), fGd K "_law_half", fKd K ("_law_half", none)]
def factsK4 (K : PySem.W.Frag) : List Bool :=
  [fGd K "_law_sides", fKd K ("_law_sides", none), fGd K "_law_cut", fKd K ("_law_cut", none), fGd K "_law_places", fKd K ("_law_places", none), fGd K "_law_root_good", fKd K ("_law_root_good", none), fGd K "_law_root_set", fKd K ("_law_root_set", none), fGd K "_law_root_table", fKd K ("_law_root_table", none), fGd K "_law_spoilt", fKd K ("_law_spoilt", none), fGd K "_law_name_of", fKd K ("_law_name_of", none), fGd K "_law_told", fKd K ("_law_told", none), fGd K "_law_first", fKd K ("_law_first", none), fGd K "law", fKd K ("law", none), fMd K "NoTable" "__init__", decide (PySem.W.typeIn K (.ref (He.fAd K ("NoTable", some "__init__"))) = some (.type "function")), fKd K ("NoTable", some "__init__")]
def factsK5 (K : PySem.W.Frag) : List Bool :=
  [fZd K "range", fZd K "list", fZd K "zip", fZd K "max", fZd K "enumerate", fZd K "len", fZd K "min", fZd K "tuple", fZd K "abs", fZd K "int", fZd K "isinstance", fZd K "ValueError"]
def factsB (K : PySem.W.Frag) : Bool := (factsK0 K).all id && ((factsK1 K).all id && ((factsK2 K).all id && ((factsK3 K).all id && ((factsK4 K).all id && ((factsK5 K).all id)))))
theorem allK {l : List Bool} (h : l.all id = true) (i : Nat) {b : Bool} (e : l[i]? = some b) : b = true := List.all_eq_true.mp h b (List.mem_of_getElem? e)
def fnK0 : List He.FnD :=
  [fk ("upper_ends", none) "upper_ends" "upper_ends" s_upper_ends,
  fk ("spans_between", none) "spans_between" "spans_between" s_spans_between,
  fk ("bare_look", none) "bare_look" "bare_look" s_bare_look,
  fk ("first_bare", none) "first_bare" "first_bare" s_first_bare,
  fk ("refuse_bare", none) "refuse_bare" "refuse_bare" s_refuse_bare,
  fk ("plain_row", none) "plain_row" "plain_row" s_plain_row,
  fk ("plain_rows", none) "plain_rows" "plain_rows" s_plain_rows,
  fk ("is_right", none) "is_right" "is_right" s_is_right,
  fk ("wrong_looks", none) "wrong_looks" "wrong_looks" s_wrong_looks,
  fk ("first_wrong", none) "first_wrong" "first_wrong" s_first_wrong,
  fk ("half_of", none) "half_of" "half_of" s_half_of,
  fk ("first_top", none) "first_top" "first_top" s_first_top,
  fk ("tops_of", none) "tops_of" "tops_of" s_tops_of,
  fk ("ends_of_top", none) "ends_of_top" "ends_of_top" s_ends_of_top,
  fk ("curved", none) "curved" "curved" s_curved,
  fk ("start_of", none) "start_of" "start_of" s_start_of,
  fk ("asked_bounds", none) "asked_bounds" "asked_bounds" s_asked_bounds,
  fk ("root_spans", none) "root_spans" "root_spans" s_root_spans,
  fk ("root_sheet", none) "root_sheet" "root_sheet" s_root_sheet,
  fk ("first_root_fault", none) "first_root_fault" "first_root_fault" s_first_root_fault,
  fk ("root_table", none) "root_table" "root_table" s_root_table,
  fk ("_law_deck", none) "_law_deck" "_law_deck" s__law_deck,
  fk ("_law_pick", none) "_law_pick" "_law_pick" s__law_pick,
  fk ("_law_half", none) "_law_half" "_law_half" s__law_half,
  fk ("_law_sides", none) "_law_sides" "_law_sides" s__law_sides,
  fk ("_law_cut", none) "_law_cut" "_law_cut" s__law_cut,
  fk ("_law_places", none) "_law_places" "_law_places" s__law_places,
  fk ("_law_root_good", none) "_law_root_good" "_law_root_good" s__law_root_good,
  fk ("_law_root_set", none) "_law_root_set" "_law_root_set" s__law_root_set,
  fk ("_law_root_table", none) "_law_root_table" "_law_root_table" s__law_root_table]
def fnK1 : List He.FnD :=
  [fk ("_law_spoilt", none) "_law_spoilt" "_law_spoilt" s__law_spoilt,
  fk ("_law_name_of", none) "_law_name_of" "_law_name_of" s__law_name_of,
  fk ("_law_told", none) "_law_told" "_law_told" s__law_told,
  fk ("_law_first", none) "_law_first" "_law_first" s__law_first,
  fk ("law", none) "law" "law" s_law,
  fk ("NoTable", some "__init__") "__init__" "NoTable.__init__" s_NoTable_init]
def fnK : List He.FnD := fnK0 ++ fnK1
def looseK0 : List Str :=
  ["__name__",
  "SlackError",
  "NoFigure",
  "NoTable",
  "NoLooks",
  "NoRoom",
  "Spoilt",
  "NoText",
  "NoRow",
  "upper_ends",
  "spans_between",
  "bare_look",
  "first_bare",
  "refuse_bare",
  "plain_row",
  "plain_rows",
  "is_right",
  "wrong_looks",
  "first_wrong",
  "half_of",
  "first_top",
  "tops_of",
  "ends_of_top",
  "curved",
  "start_of",
  "asked_bounds",
  "root_spans",
  "root_sheet",
  "first_root_fault",
  "root_table"]
def looseK1 : List Str :=
  ["_law_deck",
  "_law_pick",
  "_law_half",
  "_law_sides",
  "_law_cut",
  "_law_places",
  "_law_root_good",
  "_law_root_set",
  "_law_root_table",
  "_law_spoilt",
  "_law_name_of",
  "_law_told",
  "_law_first"]
def looseK : List Str := looseK0 ++ looseK1
def SaysK (K : PySem.W.Frag) : Prop := He.SaysE [] fnK K ∧ factsB K = true
abbrev AlK : Type := He.Al × Bool
def obK (K : PySem.W.Frag) : AlK := (He.obsE [] fnK K, factsB K)
def hookK (n : Nat) : PySem.W.Hook where
  α := AlK
  obs := fun s => obK (He.frG s.heap.get? (List.range n))
  val := fun _ => (He.valE fnK, true)
  says := fun _ h => ∃ K : PySem.W.Frag, K.In h ∧ SaysK K
  of := fun _ _ e => ⟨_, He.frG_in, congrArg (fun z : AlK => z.1) e, congrArg (fun z : AlK => z.2) e⟩
  keeps := fun _ _ _ ⟨F, hF, cF⟩ kp => ⟨F, PySem.W.Frag.In.keeps hF kp, cF⟩
abbrev RowK : PySem.W.OpenRow := PySem.W.OpenLaw.row PySem.Challenge.rw_slackfigures_k23_tables_for_roots
abbrev hkK : PySem.W.Hook := hookK 1000
def obS (s : PySem.W.SharedT) : AlK := obK (He.frG (HandSHeadRun.getT s) (List.range 1000))
def obS1 (s : PySem.W.SharedT) : He.Al := He.obsE [] fnK (He.frG (HandSHeadRun.getT s) (List.range 1000))
theorem obS_eq (s : PySem.W.SharedT) : obS s = hkK.obs s.abs := by
  have e : HandSHeadRun.getT s = s.abs.heap.get? := funext (HandSHeadRun.getT_eq s)
  unfold obS
  rw [e]; rfl
set_option maxHeartbeats 0 in
theorem run_a (w : World) (os : OsState) : (HandSHeadRun.endF (HandSHeadRun.stepQ (HandSHeadRun.denQ HandSHeadRun.tabQ) RowK.prog w) 20000 RowK.prog w os).map (fun s => HandSHeadRun.looksF RowK.prog (PySem.W.boot_heap w.params) s.abs) = some true := by
  kernel_rfl
set_option maxHeartbeats 0 in
theorem run_b (w : World) (os : OsState) : (HandSHeadRun.endF (HandSHeadRun.stepQ (HandSHeadRun.denQ HandSHeadRun.tabQ) RowK.prog w) 20000 RowK.prog w os).map (fun s => HandSHeadRun.seenQ (PySem.W.view RowK.prog [47]) looseK (importedModules RowK.prog.main.body) (fun s => PySem.W.xlAt (PySem.W.view RowK.prog [47]) [] s && PySem.W.recOk RowK.toRowW.records s) s.abs) = some (PySem.W.openGood (PySem.W.view RowK.prog [47]) looseK) := by
  kernel_rfl
set_option maxHeartbeats 0 in
theorem run_c (w : World) (os : OsState) : (HandSHeadRun.endF (HandSHeadRun.stepQ (HandSHeadRun.denQ HandSHeadRun.tabQ) RowK.prog w) 20000 RowK.prog w os).map obS1 = some (He.valE fnK) := by
  kernel_rfl
def obF (s : PySem.W.SharedT) : Bool := factsB (He.frG (HandSHeadRun.getT s) (List.range 1000))
set_option maxHeartbeats 0 in
theorem run_f (w : World) (os : OsState) : (HandSHeadRun.endF (HandSHeadRun.stepQ (HandSHeadRun.denQ HandSHeadRun.tabQ) RowK.prog w) 20000 RowK.prog w os).map obF = some true := by
  kernel_rfl
theorem mapN {α β : Type} {x : Option α} {f : α → β} {b : β} (h : x.map f = some b) : ∀ a, x = some a → f a = b := by
  intro a e
  rw [e] at h
  exact Option.some.inj h
theorem run_k (w : World) : HandSHeadRun.RunEq RowK (PySem.W.view RowK.prog [47]) hkK obS 20000 looseK w := by
  intro os
  have ha := run_a w os
  have hb := mapN (run_b w os)
  have hc := mapN (run_c w os)
  have hf := mapN (run_f w os)
  have hne : ∃ s, (HandSHeadRun.endF (HandSHeadRun.stepQ (HandSHeadRun.denQ HandSHeadRun.tabQ) RowK.prog w) 20000 RowK.prog w os) = some s ∧ HandSHeadRun.looksF RowK.prog (PySem.W.boot_heap w.params) s.abs = true := by
    cases q : (HandSHeadRun.endF (HandSHeadRun.stepQ (HandSHeadRun.denQ HandSHeadRun.tabQ) RowK.prog w) 20000 RowK.prog w os) with
    | none => rw [q] at ha; cases ha
    | some s => rw [q] at ha; exact ⟨s, rfl, Option.some.inj ha⟩
  obtain ⟨s, hs, hl⟩ := hne
  have hb2 := hb s hs
  have hc2 := hc s hs
  have hf2 : factsB (He.frG (HandSHeadRun.getT s) (List.range 1000)) = true := hf s hs
  have e3 : obS s = hkK.val w := by
    show obK (He.frG (HandSHeadRun.getT s) (List.range 1000)) = _
    unfold obK
    rw [hf2, show He.obsE [] fnK (He.frG (HandSHeadRun.getT s) (List.range 1000)) = He.valE fnK from hc2]
    rfl
  show Option.map _ (HandSHeadRun.endF (HandSHeadRun.stepQ (HandSHeadRun.denQ HandSHeadRun.tabQ) RowK.prog w) 20000 RowK.prog w os) = _
  rw [hs]
  show some (_, _, _) = _
  rw [hl, hb2, e3]
abbrev D := PyData
inductive Rs (μ α : Type) where
  | ok (a : α) (m : μ)
  | exc (e : D) (m : μ)
  | bad
def SM (μ α : Type) : Type := μ → Rs μ α
namespace SM
variable {μ α β γ : Type}
def pu (a : α) : SM μ α := fun m => .ok a m
def bd (x : SM μ α) (f : α → SM μ β) : SM μ β := fun m => match x m with
  | .ok a m' => f a m'
  | .exc e m' => .exc e m'
  | .bad => .bad
instance : Monad (SM μ) where
  pure := pu
  bind := bd
theorem bd_ok {x : SM μ α} {f : α → SM μ β} {m m' : μ} {a : α} (h : x m = .ok a m') : bd x f m = f a m' := by unfold bd; rw [h]
theorem bd_exc {x : SM μ α} {f : α → SM μ β} {m m' : μ} {e : D} (h : x m = .exc e m') : bd x f m = .exc e m' := by unfold bd; rw [h]
theorem bd_bad {x : SM μ α} {f : α → SM μ β} {m : μ} (h : x m = .bad) : bd x f m = .bad := by unfold bd; rw [h]
theorem pu_bd (a : α) (f : α → SM μ β) : bd (pu a) f = f a := rfl
theorem bd_assoc (x : SM μ α) (f : α → SM μ β) (g : β → SM μ γ) : bd (bd x f) g = bd x fun a => bd (f a) g := by
  funext m
  unfold bd
  cases x m <;> rfl
def raise (e : D) : SM μ α := fun m => .exc e m
def bad : SM μ α := fun _ => .bad
/-- an answer, or nothing told -/
def of (x : Option α) : SM μ α := match x with
  | some a => pu a
  | none => bad
/-- a thing without a state, within one -/
def p0 (x : SM Unit α) : SM μ α := fun m => match x () with
  | .ok a _ => .ok a m
  | .exc e _ => .exc e m
  | .bad => .bad
theorem p0_ok {x : SM Unit α} {a : α} {m : μ} (h : x () = .ok a ()) : p0 x m = .ok a m := by unfold p0; rw [h]
theorem p0_exc {x : SM Unit α} {e : D} {m : μ} (h : x () = .exc e ()) : (p0 x : SM μ α) m = .exc e m := by unfold p0; rw [h]
theorem p0_bad {x : SM Unit α} {m : μ} (h : x () = .bad) : (p0 x : SM μ α) m = .bad := by unfold p0; rw [h]
/-- a thing without a state that is not to raise, within one -/
def px (x : SM Unit α) : SM μ α := fun m => match x () with
  | .ok a _ => .ok a m
  | _ => .bad
theorem px_ok {x : SM Unit α} {a : α} {m : μ} (h : x () = .ok a ()) : px x m = .ok a m := by unfold px; rw [h]
theorem px_nb {x : SM Unit α} {m : μ} (h : (px x : SM μ α) m ≠ .bad) : ∃ a, x () = .ok a () := by
  unfold px at h
  cases e : x () with
  | ok a u => exact ⟨a, rfl⟩
  | exc e' u => rw [e] at h; exact absurd rfl h
  | bad => rw [e] at h; exact absurd rfl h
/-- the same of a thing that has the state -/
def qx (x : SM μ α) : SM μ α := fun m => match x m with
  | .ok a m' => .ok a m'
  | _ => .bad
theorem qx_ok {x : SM μ α} {a : α} {m m' : μ} (h : x m = .ok a m') : qx x m = .ok a m' := by unfold qx; rw [h]
theorem qx_nb {x : SM μ α} {m : μ} (h : qx x m ≠ .bad) : ∃ a m', x m = .ok a m' := by
  unfold qx at h
  cases e : x m with
  | ok a u => exact ⟨a, u, rfl⟩
  | exc e' u => rw [e] at h; exact absurd rfl h
  | bad => rw [e] at h; exact absurd rfl h
end SM
section
variable (K : PySem.W.Frag)
def wrT (a : Addr) (xs : List V) : Prop := ∃ (o : Obj) (its : Array Value) (n : Nat), K.lookup a = some o ∧ o.cls = .type "tuple" ∧ o.data = .seq its n ∧ its.size ≤ sizeLine ∧ Vals xs its.toList
def FzL (B : Addr → Prop) (H : Hp) (p : Addr) (xs : List V) : Prop := B p ∧ H p = some (.lst xs)
/-- the script stands locked -/
def scrD (ds : List D) : D := .dict [(.none, .list ds)]
def wrL (a : Addr) (xs : List V) : Prop := ∃ (o : Obj) (its : Array Value) (n : Nat), K.lookup a = some o ∧ o.cls = .type "list" ∧ o.dict = none ∧ o.data = .seq its n ∧ its.size ≤ sizeLine ∧ Vals xs its.toList
def FzS (B : Addr → Prop) (H : Hp) (p : Addr) (xs : List V) : Prop := (B p ∧ Rd H p (.lst xs)) ∨ wrL K p xs
def FzT (B : Addr → Prop) (H : Hp) (p : Addr) (xs : List V) : Prop := (B p ∧ Rd H p (.tup xs)) ∨ wrT K p xs
mutual
inductive Dt (B : Addr → Prop) (H : Hp) : V → PyData → Prop
  | non : Dt B H .non .none
  | bl (z : Bool) : Dt B H (.bl z) (.bool z)
  | int (i : Int) : Dt B H (.int i) (.int i)
  | str (x : Str) : Dt B H (.str x) (.str x)
  | lst {p : Addr} {xs : List V} {ds : List PyData} : FzL B H p xs → DtAll B H xs ds → Dt B H (.ref p) (.list ds)
  | tup {p : Addr} {xs : List V} {ds : List PyData} : FzT K B H p xs → DtAll B H xs ds → Dt B H (.ref p) (.tuple ds)
  | scr {p : Addr} {xs : List V} {ds : List PyData} : FzS K B H p xs → DtAll B H xs ds → Dt B H (.ref p) (.dict [(.none, .list ds)])
inductive DtAll (B : Addr → Prop) (H : Hp) : List V → List PyData → Prop
  | nil : DtAll B H [] []
  | cons {v : V} {vs : List V} {d : PyData} {ds : List PyData} : Dt B H v d → DtAll B H vs ds → DtAll B H (v :: vs) (d :: ds)
end
end
section
variable {K : PySem.W.Frag} {B B' : Addr → Prop} {H H' : Hp} {p : Addr} {xs : List V}
theorem FzL.sq (h : FzL B H p xs) : SqL K H p xs := .inl (.inl h.2)
theorem FzS.sq (h : FzS K B H p xs) : SqL K H p xs := h.elim (fun x => .inl x.2) .inr
theorem FzT.sq (h : FzT K B H p xs) : SqT K H p xs := h.elim (fun x => .inl x.2) .inr
/-- what stays of what is frozen -/
def Kp (B : Addr → Prop) (H : Hp) (B' : Addr → Prop) (H' : Hp) : Prop := ∀ p o, B p → H p = some o → B' p ∧ H' p = some o
theorem Kp.refl : Kp B H B H := fun _ _ b h => ⟨b, h⟩
theorem Kp.trans {B'' : Addr → Prop} {H'' : Hp} (k : Kp B H B' H') (k' : Kp B' H' B'' H'') : Kp B H B'' H'' := fun p o b h => k' p o (k p o b h).1 (k p o b h).2
theorem rd_mono (k : Kp B H B' H') {o : HO} (b : B p) (h : Rd H p o) : B' p ∧ Rd H' p o := by
  rcases h with h | ⟨u, h⟩
  · exact ⟨(k _ _ b h).1, .inl (k _ _ b h).2⟩
  · exact ⟨(k _ _ b h).1, .inr ⟨u, (k _ _ b h).2⟩⟩
theorem FzL.mono (k : Kp B H B' H') (h : FzL B H p xs) : FzL B' H' p xs := k _ _ h.1 h.2
theorem FzS.mono (k : Kp B H B' H') (h : FzS K B H p xs) : FzS K B' H' p xs := h.elim (fun x => .inl (rd_mono k x.1 x.2)) .inr
theorem FzT.mono (k : Kp B H B' H') (h : FzT K B H p xs) : FzT K B' H' p xs := h.elim (fun x => .inl (rd_mono k x.1 x.2)) .inr
mutual
theorem Dt.mono (k : Kp B H B' H') : ∀ (d : PyData) (v : V), Dt K B H v d → Dt K B' H' v d
  | .none, _, h => by cases h; exact .non
  | .bool _, _, h => by cases h; exact .bl _
  | .int _, _, h => by cases h; exact .int _
  | .str _, _, h => by cases h; exact .str _
  | .list ds, _, h => by
    cases h with
    | lst b a => exact .lst (b.mono k) (Dt.monoAll k ds _ a)
  | .tuple ds, _, h => by
    cases h with
    | tup b a => exact .tup (b.mono k) (Dt.monoAll k ds _ a)
  | .dict kvs, v, h => by
    cases kvs with
    | nil => cases h
    | cons z r =>
      obtain ⟨k1, k2⟩ := z
      cases k1 with
      | none =>
        cases k2 with
        | list ds =>
          cases r with
          | nil =>
            cases h with
            | scr b a => exact .scr (b.mono k) (Dt.monoAll k ds _ a)
          | cons _ _ => cases h
        | _ => cases h
      | _ => cases h
theorem Dt.monoAll (k : Kp B H B' H') : ∀ (ds : List PyData) (vs : List V), DtAll K B H vs ds → DtAll K B' H' vs ds
  | [], _, h => by cases h; exact .nil
  | d :: ds, _, h => by
    cases h with
    | cons x y => exact .cons (Dt.mono k d _ x) (Dt.monoAll k ds _ y)
end
mutual
theorem Dt.dp : ∀ (d : PyData) (v : V), d.canLay0 = true → Dt K B H v d → Dp K H v d
  | .none, _, _, h => by cases h; exact .non
  | .bool _, _, _, h => by cases h; exact .bl _
  | .int _, _, _, h => by cases h; exact .int _
  | .str _, _, _, h => by cases h; exact .str _
  | .list ds, _, c, h => by
    cases h with
    | lst b a => exact .lst b.sq (Dt.dpAll ds _ (by simpa only [PyData.canLay0] using c) a)
  | .tuple ds, _, c, h => by
    cases h with
    | tup b a => exact .tup b.sq (Dt.dpAll ds _ (by simpa only [PyData.canLay0] using c) a)
  | .dict _, _, c, h => by simp only [PyData.canLay0] at c; cases c
theorem Dt.dpAll : ∀ (ds : List PyData) (vs : List V), PyData.canLayAll0 ds = true → DtAll K B H vs ds → DpAll K H vs ds
  | [], _, _, h => by cases h; exact .nil
  | d :: ds, _, c, h => by
    simp only [PyData.canLayAll0, Bool.and_eq_true] at c
    cases h with
    | cons x y => exact .cons (Dt.dp d _ c.1 x) (Dt.dpAll ds _ c.2 y)
end
theorem DtAll.app : ∀ {vs : List V} {ds : List PyData} {us : List V} {es : List PyData}, DtAll K B H vs ds → DtAll K B H us es → DtAll K B H (vs ++ us) (ds ++ es)
  | [], _, _, _, h, g => by cases h; exact g
  | v :: vs, _, _, _, h, g => by
    cases h with
    | cons x y => exact .cons x (DtAll.app y g)
theorem DtAll.len : ∀ {vs : List V} {ds : List PyData}, DtAll K B H vs ds → vs.length = ds.length
  | [], _, h => by cases h; rfl
  | v :: vs, _, h => by
    cases h with
    | cons x y => rw [List.length_cons, List.length_cons, DtAll.len y]
theorem DtAll.get : ∀ {vs : List V} {ds : List PyData} {i : Nat} {d : D}, DtAll K B H vs ds → ds[i]? = some d → ∃ v, vs[i]? = some v ∧ Dt K B H v d
  | _, [], i, d, h, e => by cases e
  | _, x :: ds, 0, d, h, e => by
    cases h with
    | cons a b => cases e; exact ⟨_, rfl, a⟩
  | _, x :: ds, i + 1, d, h, e => by
    cases h with
    | cons a b => exact DtAll.get (i := i) b e
theorem DtAll.set : ∀ {vs : List V} {ds : List PyData} {i : Nat} {v : V} {d : D}, DtAll K B H vs ds → Dt K B H v d → DtAll K B H (vs.set i v) (ds.set i d)
  | [], _, i, v, d, h, g => by cases h; exact .nil
  | x :: vs, _, 0, v, d, h, g => by
    cases h with
    | cons a b => exact .cons g b
  | x :: vs, _, i + 1, v, d, h, g => by
    cases h with
    | cons a b => exact .cons a (DtAll.set b g)
theorem DtAll.drop : ∀ {vs : List V} {ds : List PyData} (n : Nat), DtAll K B H vs ds → DtAll K B H (vs.drop n) (ds.drop n)
  | _, _, 0, h => h
  | [], _, n + 1, h => by cases h; exact .nil
  | v :: vs, _, n + 1, h => by
    cases h with
    | cons a b => exact DtAll.drop n b
theorem DtAll.take : ∀ {vs : List V} {ds : List PyData} (n : Nat), DtAll K B H vs ds → DtAll K B H (vs.take n) (ds.take n)
  | [], _, 0, h => by cases h; exact .nil
  | v :: vs, _, 0, h => by cases h; exact .nil
  | [], _, n + 1, h => by cases h; exact .nil
  | v :: vs, _, n + 1, h => by
    cases h with
    | cons a b => exact .cons a (DtAll.take n b)
theorem DtAll.flat : ∀ (n : Nat) {vs : List V} {ds : List PyData}, DtAll K B H vs ds → DtAll K B H (List.replicate n vs).flatten (List.replicate n ds).flatten
  | 0, _, _, _ => .nil
  | n + 1, _, _, h => by rw [List.replicate_succ, List.replicate_succ, List.flatten_cons, List.flatten_cons]; exact DtAll.app h (DtAll.flat n h)
theorem DtAll.ints : ∀ (ns : List Int), DtAll K B H (ns.map V.int) (ns.map PyData.int)
  | [] => .nil
  | n :: r => .cons (.int n) (DtAll.ints r)
theorem Dt.int_inv {v : V} {i : Int} (h : Dt K B H v (.int i)) : v = .int i := by cases h; rfl
theorem Dt.bl_inv {v : V} {z : Bool} (h : Dt K B H v (.bool z)) : v = .bl z := by cases h; rfl
theorem Dt.non_inv {v : V} (h : Dt K B H v .none) : v = .non := by cases h; rfl
theorem Dt.str_inv {v : V} {z : Str} (h : Dt K B H v (.str z)) : v = .str z := by cases h; rfl
theorem Dt.lst_inv {v : V} {ds : List D} (h : Dt K B H v (.list ds)) : ∃ p xs, v = .ref p ∧ FzL B H p xs ∧ DtAll K B H xs ds := by cases h with | lst a b => exact ⟨_, _, rfl, a, b⟩
theorem Dt.tup_inv {v : V} {ds : List D} (h : Dt K B H v (.tuple ds)) : ∃ p xs, v = .ref p ∧ FzT K B H p xs ∧ DtAll K B H xs ds := by cases h with | tup a b => exact ⟨_, _, rfl, a, b⟩
theorem Dt.scr_inv {v : V} {kvs : List (D × D)} (h : Dt K B H v (.dict kvs)) : ∃ p xs ds, kvs = [(.none, .list ds)] ∧ v = .ref p ∧ SqL K H p xs ∧ DtAll K B H xs ds := by
  cases h with
  | scr a c => exact ⟨_, _, _, rfl, rfl, a.sq, c⟩
end
structure Root where
  fp : Hp → List Addr
  P : (Addr → Prop) → Hp → Prop
  mono : ∀ {B B' : Addr → Prop} {H H' : Hp}, Kp B H B' H' → (∀ p ∈ fp H, H' p = H p) → P B H → P B' H'
  same : ∀ {B B' : Addr → Prop} {H H' : Hp}, Kp B H B' H' → (∀ p ∈ fp H, H' p = H p) → P B H → fp H' = fp H
  occ : ∀ {B : Addr → Prop} {H : Hp}, P B H → ∀ p ∈ fp H, ∃ o, H p = some o
structure Og where
  B : Addr → Prop
  H : Hp
  fp : List Addr
def fps (C : List Root) (H : Hp) : List Addr := C.flatMap (·.fp H)
theorem fps_app (C F : List Root) (H : Hp) : fps (C ++ F) H = fps C H ++ fps F H := List.flatMap_append
theorem fps_cons (c : Root) (F : List Root) (H : Hp) : fps (c :: F) H = c.fp H ++ fps F H := rfl
theorem mem_fps {C : List Root} {c : Root} {p : Addr} {H : Hp} (h : c ∈ C) (hp : p ∈ c.fp H) : p ∈ fps C H := List.mem_flatMap.mpr ⟨c, h, hp⟩
theorem fps_same {C : List Root} {B B' : Addr → Prop} {H H' : Hp} (k : Kp B H B' H') : (∀ c ∈ C, c.P B H) → (∀ p ∈ fps C H, H' p = H p) → fps C H' = fps C H := by
  induction C with
  | nil => intro _ _; rfl
  | cons c C ih =>
    intro h e
    rw [fps_cons, fps_cons, c.same k (fun p hp => e p (by rw [fps_cons]; exact List.mem_append.mpr (.inl hp))) (h c (.head _)), ih (fun c' hc => h c' (.tail _ hc)) fun p hp => e p (by rw [fps_cons]; exact List.mem_append.mpr (.inr hp))]
structure Wb (K : PySem.W.Frag) (O : Og) (B : Addr → Prop) (L : List (V × D)) (C : List Root) (H : Hp) : Prop where
  lo : ∀ p, O.B p → B p
  hi : ∀ p, B p → O.B p ∨ O.H p = none
  nd : (fps C H).Nodup
  nb : ∀ p ∈ fps C H, ¬ B p
  fr : ∀ p ∈ fps C H, p ∈ O.fp ∨ O.H p = none
  rt : ∀ c ∈ C, c.P B H
  ft : ∀ f ∈ L, Dt K B H f.1 f.2
  kp : ∀ p o, p ∉ O.fp → O.H p = some o → H p = some o
  oc : ∀ p ∈ O.fp, ∃ o, H p = some o
  bo : ∀ p, B p → ∃ o, H p = some o
def Wd (K : PySem.W.Frag) (O : Og) (L : List (V × D)) (C : List Root) (H : Hp) : Prop := ∃ B, Wb K O B L C H
section
variable {K : PySem.W.Frag} {O : Og} {B : Addr → Prop} {L L' : List (V × D)} {C F : List Root} {H H' : Hp} {p : Addr}
theorem Wb.none (w : Wb K O B L C H) (h : H p = Option.none) : O.H p = Option.none := by
  cases e : O.H p with
  | none => rfl
  | some o =>
    by_cases hp : p ∈ O.fp
    · obtain ⟨u, hu⟩ := w.oc p hp
      rw [hu] at h; cases h
    · rw [w.kp p o hp e] at h; cases h
theorem Wb.free (w : Wb K O B L C H) (h : H p = Option.none) : p ∉ fps C H := fun hm => by
  obtain ⟨c, hc, hp⟩ := List.mem_flatMap.mp hm
  obtain ⟨o, ho⟩ := c.occ (w.rt c hc) p hp
  rw [ho] at h; cases h
theorem Wb.nofp (w : Wb K O B L C H) (h : H p = Option.none) : p ∉ O.fp := fun hm => by
  obtain ⟨o, ho⟩ := w.oc p hm
  rw [ho] at h; cases h
theorem Wd.sub (w : Wd K O L C H) (h : ∀ f ∈ L', f ∈ L) : Wd K O L' C H := by
  obtain ⟨B, w⟩ := w
  exact ⟨B, { w with ft := fun f hf => w.ft f (h f hf) }⟩
theorem Wd.dt (w : Wd K O L C H) {v : V} {d : D} (h : (v, d) ∈ L) : ∃ B, Dt K B H v d := by
  obtain ⟨B, w⟩ := w
  exact ⟨B, w.ft _ h⟩
/-- a frozen heap that grows -/
theorem Wb.grow {B' : Addr → Prop} (w : Wb K O B L C H) (s : Same H H') (h1 : ∀ p, B p → B' p) (h2 : ∀ p, B' p → B p ∨ (H p = Option.none ∧ ∃ o, H' p = some o)) : Wb K O B' L C H' := by
  have k : Kp B H B' H' := fun p o b e => ⟨h1 p b, s p o e⟩
  have hfp : ∀ c ∈ C, ∀ p ∈ c.fp H, H' p = H p := fun c hc p hp => by
    obtain ⟨o, ho⟩ := c.occ (w.rt c hc) p hp
    rw [ho]; exact s p o ho
  have es : fps C H' = fps C H := fps_same k w.rt fun p hp => by
    obtain ⟨c, hc, hp⟩ := List.mem_flatMap.mp hp
    exact hfp c hc p hp
  refine ⟨fun p b => h1 p (w.lo p b), fun p b => ?_, by rw [es]; exact w.nd, fun p hp b => ?_, fun p hp => w.fr p (by rw [← es]; exact hp), fun c hc => c.mono k (hfp c hc) (w.rt c hc), fun f hf => Dt.mono k _ _ (w.ft f hf), fun p o hp e => s p o (w.kp p o hp e), fun p hp => ?_, fun p b => ?_⟩
  · rcases h2 p b with b | n
    · exact w.hi p b
    · exact .inr (w.none n.1)
  · rw [es] at hp
    rcases h2 p b with b | n
    · exact w.nb p hp b
    · exact w.free n.1 hp
  · obtain ⟨o, ho⟩ := w.oc p hp
    exact ⟨o, s p o ho⟩
  · rcases h2 p b with b | n
    · obtain ⟨o, ho⟩ := w.bo p b
      exact ⟨o, s p o ho⟩
    · exact n.2
theorem Wb.same (w : Wb K O B L C H) (s : Same H H') : fps C H' = fps C H := by
  have k : Kp B H B H' := fun p o b e => ⟨b, s p o e⟩
  refine fps_same k w.rt fun p hp => ?_
  obtain ⟨c, hc, hp⟩ := List.mem_flatMap.mp hp
  obtain ⟨o, ho⟩ := c.occ (w.rt c hc) p hp
  rw [ho]; exact s p o ho
theorem Wb.fts (w : Wb K O B L C H) (h : ∀ f ∈ L', Dt K B H f.1 f.2) : Wb K O B L' C H := { w with ft := h }
theorem Wb.fact {v : V} {d : D} (w : Wb K O B L C H) (h : Dt K B H v d) : Wb K O B ((v, d) :: L) C H :=
  w.fts fun f hf => (List.mem_cons.mp hf).elim (fun e => by subst e; exact h) (w.ft f)
theorem Wd.fact (w : Wd K O L C H) {v : V} {d : D} (h : ∀ B, (∀ f ∈ L, Dt K B H f.1 f.2) → Dt K B H v d) : Wd K O ((v, d) :: L) C H := by
  obtain ⟨B, w⟩ := w
  exact ⟨B, w.fact (h B w.ft)⟩
inductive In2 (L : List (V × D)) : List V → List D → Prop
  | nil : In2 L [] []
  | cons {v : V} {d : D} {vs : List V} {ds : List D} : (v, d) ∈ L → In2 L vs ds → In2 L (v :: vs) (d :: ds)
theorem In2.mono (h : ∀ f ∈ L, f ∈ L') : ∀ {vs : List V} {ds : List D}, In2 L vs ds → In2 L' vs ds
  | _, _, .nil => .nil
  | _, _, .cons a b => .cons (h _ a) (In2.mono h b)
theorem In2.dt (h : ∀ f ∈ L, Dt K B H f.1 f.2) : ∀ {vs : List V} {ds : List D}, In2 L vs ds → DtAll K B H vs ds
  | _, _, .nil => .nil
  | _, _, .cons a b => .cons (h _ a) (In2.dt h b)
theorem In2.len : ∀ {vs : List V} {ds : List D}, In2 L vs ds → vs.length = ds.length
  | _, _, .nil => rfl
  | _, _, .cons a b => by rw [List.length_cons, List.length_cons, In2.len b]
/-- a new tuple, a new list, frozen -/
theorem Wd.new (w : Wd K O L C H) (hp : H p = Option.none) {o : HO} {d : D} (h : ∀ B, (∀ f ∈ L, Dt K B (upd H p o) f.1 f.2) → B p → Dt K B (upd H p o) (.ref p) d) : Wd K O ((.ref p, d) :: L) C (upd H p o) := by
  obtain ⟨B, w⟩ := w
  have s : Same H (upd H p o) := fun b u q => by rw [upd_ne (ne_of_none q hp)]; exact q
  have w2 := w.grow (B' := fun q => B q ∨ q = p) s (fun q b => .inl b) (fun q b => b.elim .inl fun e => .inr (by rw [e]; exact ⟨hp, _, upd_same⟩))
  exact ⟨_, w2.fact (h _ w2.ft (.inr rfl))⟩
theorem Wd.tup (w : Wd K O L C H) (hp : H p = Option.none) {vs : List V} {ds : List D} (h : In2 L vs ds) : Wd K O ((.ref p, .tuple ds) :: L) C (upd H p (.tup vs)) :=
  w.new hp fun _ f b => .tup (.inl ⟨b, .inl upd_same⟩) (h.dt f)
theorem Wd.lst (w : Wd K O L C H) (hp : H p = Option.none) {vs : List V} {ds : List D} (h : In2 L vs ds) : Wd K O ((.ref p, .list ds) :: L) C (upd H p (.lst vs)) :=
  w.new hp fun _ f b => .lst ⟨b, upd_same⟩ (h.dt f)
theorem Wb.lstD (w : Wb K O B L C H) (hp : H p = Option.none) {vs : List V} {ds : List D} (h : DtAll K B H vs ds) : Wd K O ((.ref p, .list ds) :: L) C (upd H p (.lst vs)) := by
  have s : Same H (upd H p (.lst vs)) := fun b u q => by rw [upd_ne (ne_of_none q hp)]; exact q
  have w2 := w.grow (B' := fun q => B q ∨ q = p) s (fun q b => .inl b) (fun q b => b.elim .inl fun e => .inr (by rw [e]; exact ⟨hp, _, upd_same⟩))
  exact ⟨_, w2.fact (.lst ⟨.inr rfl, upd_same⟩ (Dt.monoAll (B := B) (H := H) (fun q o b e => ⟨.inl b, s q o e⟩) _ _ h))⟩
theorem Wb.tupD (w : Wb K O B L C H) (hp : H p = Option.none) {vs : List V} {ds : List D} (h : DtAll K B H vs ds) : Wd K O ((.ref p, .tuple ds) :: L) C (upd H p (.tup vs)) := by
  have s : Same H (upd H p (.tup vs)) := fun b u q => by rw [upd_ne (ne_of_none q hp)]; exact q
  have w2 := w.grow (B' := fun q => B q ∨ q = p) s (fun q b => .inl b) (fun q b => b.elim .inl fun e => .inr (by rw [e]; exact ⟨hp, _, upd_same⟩))
  exact ⟨_, w2.fact (.tup (.inl ⟨.inr rfl, .inl upd_same⟩) (Dt.monoAll (B := B) (H := H) (fun q o b e => ⟨.inl b, s q o e⟩) _ _ h))⟩
/-- a list at a, its items frozen; the data is .list ds -/
def rootL (K : PySem.W.Frag) (a : Addr) (d : D) : Root where
  fp := fun _ => [a]
  same := fun _ _ _ => rfl
  P := fun B H => ∃ ds vs, d = .list ds ∧ H a = some (.lst vs) ∧ DtAll K B H vs ds
  mono := fun k e h => by
    obtain ⟨ds, vs, h1, h2, h3⟩ := h
    exact ⟨ds, vs, h1, by rw [e a (.head _)]; exact h2, Dt.monoAll k _ _ h3⟩
  occ := fun h q hq => by
    obtain ⟨ds, vs, h1, h2, h3⟩ := h
    rw [List.mem_singleton] at hq
    subst hq
    exact ⟨_, h2⟩
/-- a new root -/
theorem Wd.root (w : Wd K O L C H) (hp : H p = Option.none) {vs : List V} {ds : List D} (h : In2 L vs ds) : Wd K O L (rootL K p (.list ds) :: C) (upd H p (.lst vs)) := by
  obtain ⟨B, w⟩ := w
  have s : Same H (upd H p (.lst vs)) := fun b u q => by rw [upd_ne (ne_of_none q hp)]; exact q
  have w2 := w.grow (B' := B) s (fun q b => b) (fun q b => .inl b)
  have nb : ¬ B p := fun b => by
    obtain ⟨o, ho⟩ := w.bo p b
    rw [ho] at hp; cases hp
  have es := w.same s
  refine ⟨B, w2.lo, w2.hi, ?_, ?_, ?_, ?_, w2.ft, w2.kp, w2.oc, w2.bo⟩
  · rw [fps_cons]
    exact List.nodup_cons.mpr ⟨by rw [show ([] : List Addr).append (fps C (upd H p (HO.lst vs))) = fps C (upd H p (HO.lst vs)) from rfl, es]; exact w.free hp, w2.nd⟩
  · intro q hq
    rw [fps_cons] at hq
    rcases List.mem_cons.mp hq with e | e
    · subst e; exact nb
    · exact w2.nb q e
  · intro q hq
    rw [fps_cons] at hq
    rcases List.mem_cons.mp hq with e | e
    · subst e; exact .inr (w.none hp)
    · exact w2.fr q e
  · intro c hc
    rcases List.mem_cons.mp hc with e | e
    · subst e; exact ⟨ds, vs, rfl, upd_same, h.dt w2.ft⟩
    · exact w2.rt c e
/-- the first root gets other items -/
theorem Wd.put {a : Addr} {d : D} {ds : List D} {vs : List V} (w : Wd K O L (rootL K a d :: C) H) (h : ∀ B, (∀ f ∈ L, Dt K B H f.1 f.2) → (rootL K a d).P B H → DtAll K B H vs ds) : Wd K O L (rootL K a (.list ds) :: C) (upd H a (.lst vs)) := by
  obtain ⟨B, w⟩ := w
  have ha : ¬ B a := w.nb a (by rw [fps_cons]; exact .head _)
  obtain ⟨_, vs0, _, h0, _⟩ := w.rt _ (.head _)
  have k : Kp B H B (upd H a (.lst vs)) := fun q o b e => ⟨b, by rw [upd_ne (fun z => ha (by rw [← z]; exact b))]; exact e⟩
  have hnd := w.nd
  rw [fps_cons] at hnd
  have hna : a ∉ fps C H := (List.nodup_cons.mp hnd).1
  have es : fps (rootL K a (.list ds) :: C) (upd H a (.lst vs)) = fps (rootL K a d :: C) H := by
    rw [fps_cons, fps_cons, fps_same k (fun c hc => w.rt c (.tail _ hc)) fun q hq => upd_ne fun z => hna (by rw [← z]; exact hq)]; rfl
  refine ⟨B, w.lo, w.hi, by rw [es]; exact w.nd, fun p hp => w.nb p (by rw [← es]; exact hp), fun p hp => w.fr p (by rw [← es]; exact hp), ?_, fun f hf => Dt.mono k _ _ (w.ft f hf), ?_, ?_, ?_⟩
  · intro c hc
    rcases List.mem_cons.mp hc with e | e
    · subst e
      exact ⟨ds, vs, rfl, upd_same, Dt.monoAll k _ _ (h B w.ft (w.rt _ (.head _)))⟩
    · refine c.mono k (fun q hq => upd_ne fun z => hna ?_) (w.rt c (.tail _ e))
      rw [← z]; exact mem_fps e hq
  · intro q o hq e
    by_cases z : q = a
    · subst z
      rcases w.fr q (by rw [fps_cons]; exact .head _) with y | y
      · exact absurd y hq
      · rw [y] at e; cases e
    · rw [upd_ne z]; exact w.kp q o hq e
  · intro q hq
    by_cases z : q = a
    · subst z; exact ⟨_, upd_same⟩
    · rw [upd_ne z]; exact w.oc q hq
  · intro q b
    rw [upd_ne (fun z => ha (by rw [← z]; exact b))]
    exact w.bo q b
/-- the first root, made by this def, is frozen -/
theorem Wd.freeze {a : Addr} {d : D} (w : Wd K O L (rootL K a d :: C) H) (ha : a ∉ O.fp) : Wd K O ((.ref a, d) :: L) C H := by
  obtain ⟨B, w⟩ := w
  have hnd := w.nd
  rw [fps_cons] at hnd
  have hna : a ∉ fps C H := (List.nodup_cons.mp hnd).1
  obtain ⟨ds, vs, rfl, h0, h1⟩ := w.rt _ (.head _)
  have k : Kp B H (fun q => B q ∨ q = a) H := fun q o b e => ⟨.inl b, e⟩
  have w2 : Wb K O (fun q => B q ∨ q = a) L C H := by
    refine ⟨fun p b => .inl (w.lo p b), fun p b => ?_, (List.nodup_cons.mp hnd).2, fun p hp b => ?_, fun p hp => w.fr p (by rw [fps_cons]; exact .tail _ hp), fun c hc => c.mono k (fun _ _ => rfl) (w.rt c (.tail _ hc)), fun f hf => Dt.mono k _ _ (w.ft f hf), w.kp, w.oc, fun p b => ?_⟩
    · rcases b with b | e
      · exact w.hi p b
      · rw [e]
        exact .inr ((w.fr a (by rw [fps_cons]; exact .head _)).resolve_left ha)
    · rcases b with b | e
      · exact w.nb p (by rw [fps_cons]; exact .tail _ hp) b
      · rw [e] at hp; exact hna hp
    · rcases b with b | e
      · exact w.bo p b
      · rw [e]; exact ⟨_, h0⟩
  exact ⟨_, w2.fact (.lst ⟨.inr rfl, h0⟩ (Dt.monoAll k _ _ h1))⟩
/-- roots may be taken in another order -/
theorem Wd.perm {C' : List Root} (w : Wd K O L C H) (h : C.Perm C') : Wd K O L C' H := by
  obtain ⟨B, w⟩ := w
  have hp : (fps C H).Perm (fps C' H) := h.flatMap_right _
  exact ⟨B, w.lo, w.hi, hp.nodup_iff.mp w.nd, fun p hq => w.nb p (hp.mem_iff.mpr hq), fun p hq => w.fr p (hp.mem_iff.mpr hq), fun c hc => w.rt c (h.mem_iff.mpr hc), w.ft, w.kp, w.oc, w.bo⟩
end
/-- no more is said of an exception -/
def noR : Root where
  fp := fun _ => []
  same := fun _ _ _ => rfl
  P := fun _ _ => True
  mono := fun _ _ h => h
  occ := fun _ p hp => by cases hp
def noX : D → Value → Option Addr → Root := fun _ _ _ => noR
structure Gx where
  K : PySem.W.Frag
  O : Og
  Xk : XK
  XR : D → Value → Option Addr → Root
  rf : V → D → List (V × D) → List Root → Prop
/-- what is returned is frozen; a fresh list -/
def rfF : V → D → List (V × D) → List Root → Prop := fun v x L1 C1 => L1 = [(v, x)] ∧ C1 = []
section
variable {μ : Type} (G : Gx)
def Bk {α : Type} (C : μ → List Root) (F : List Root) (L : List (V × D)) (r : Rs μ α) : Prop :=
  (∀ e m' cls d H', r = .exc e m' → Wd G.K G.O L (G.XR e cls d :: (C m' ++ F)) H' → G.Xk cls d H') ∧ r ≠ .bad
def EV (te : TE) (σ : St) (L : List (V × D)) (C : μ → List Root) (E : SM μ D) : Prop :=
  ∀ m F L' H Q, (∀ f ∈ L, f ∈ L') → Wd G.K G.O L' (C m ++ F) H →
    (∀ x m' v H', E m = .ok x m' → Wd G.K G.O ((v, x) :: L') (C m' ++ F) H' → Q v H') → Bk G C F L' (E m) → te σ H Q
def TV (tt : TT) (σ : St) (L : List (V × D)) (C : μ → List Root) (E : SM μ Bool) : Prop :=
  ∀ m F L' H Q, (∀ f ∈ L, f ∈ L') → Wd G.K G.O L' (C m ++ F) H →
    (∀ x m' H', E m = .ok x m' → Wd G.K G.O L' (C m' ++ F) H' → Q x H') → Bk G C F L' (E m) → tt σ H Q
def AV (ta : TA) (σ : St) (L : List (V × D)) (C : μ → List Root) (E : SM μ (List D)) : Prop :=
  ∀ m F L' H Q, (∀ f ∈ L, f ∈ L') → Wd G.K G.O L' (C m ++ F) H →
    (∀ xs m' vs H' L2, E m = .ok xs m' → (∀ f ∈ L', f ∈ L2) → In2 L2 vs xs → Wd G.K G.O L2 (C m' ++ F) H' → Q vs H') → Bk G C F L' (E m) → ta σ H Q
/-- a root of which data is told where it stands: read only -/
def OpS (r : R2) (f : D → D → Option D) : Prop := ∀ (L : List (V × D)) (C : List Root) (H : Hp) (x y : V) (d e z : D) (Q : VK),
  Wd G.K G.O L C H → (x, d) ∈ L → (y, e) ∈ L → f d e = some z → (∀ v H', Wd G.K G.O ((v, z) :: L) C H' → Q v H') → r x y H Q
def UnS (r : V → Hp → VK → Prop) (f : D → Option D) : Prop := ∀ (L : List (V × D)) (C : List Root) (H : Hp) (x : V) (d z : D) (Q : VK),
  Wd G.K G.O L C H → (x, d) ∈ L → f d = some z → (∀ v H', Wd G.K G.O ((v, z) :: L) C H' → Q v H') → r x H Q
def CallS (r : List V → Hp → VK → Prop) (f : List D → Option D) : Prop := ∀ (L : List (V × D)) (C : List Root) (H : Hp) (xs : List V) (ds : List D) (z : D) (Q : VK),
  Wd G.K G.O L C H → In2 L xs ds → f ds = some z → (∀ v H', Wd G.K G.O ((v, z) :: L) C H' → Q v H') → r xs H Q
end
namespace SM
variable {μ : Type}
def op2 (f : D → D → Option D) (E1 E2 : SM μ D) : SM μ D := bd E1 fun x => bd E2 fun y => of (f x y)
def op1 (f : D → Option D) (E1 : SM μ D) : SM μ D := bd E1 fun x => of (f x)
def opL (f : List D → Option D) (E1 : SM μ (List D)) : SM μ D := bd E1 fun x => of (f x)
def a0 : SM μ (List D) := pu []
def ac (E : SM μ D) (Es : SM μ (List D)) : SM μ (List D) := bd E fun x => bd Es fun xs => pu (x :: xs)
def boolD : D → Option Bool
  | .bool b => some b
  | _ => none
def truD : D → Option Bool
  | .none => some false
  | .bool b => some b
  | .int i => some (i != 0)
  | .str x => if x.length ≤ sizeLine then some ((x.length : Int) != 0) else none
  | .list xs => some (!xs.isEmpty)
  | .tuple xs => some (!xs.isEmpty)
  | .dict _ => none
/-- a test by a truth; by any value -/
def tb (E : SM μ D) : SM μ Bool := bd E fun x => of (boolD x)
def tr (E : SM μ D) : SM μ Bool := bd E fun x => of (truD x)
def tand (E1 E2 : SM μ Bool) : SM μ Bool := bd E1 fun c => if c then E2 else pu false
def tor (E1 E2 : SM μ Bool) : SM μ Bool := bd E1 fun c => if c then pu true else E2
def tnot (E1 : SM μ Bool) : SM μ Bool := bd E1 fun c => pu (!c)
def eand (E1 E2 : SM μ D) : SM μ D := bd (tb E1) fun c => if c then E2 else pu (.bool false)
def eor (E1 E2 : SM μ D) : SM μ D := bd (tb E1) fun c => if c then pu (.bool true) else E2
def enot (E1 : SM μ D) : SM μ D := bd (tb E1) fun c => pu (.bool (!c))
def eif (T : SM μ Bool) (E1 E2 : SM μ D) : SM μ D := bd T fun c => if c then E1 else E2
def chain (f g : D → D → Option D) (E1 E2 E3 : SM μ D) : SM μ D := bd E1 fun x => bd E2 fun y => bd (tb (of (f x y))) fun c => if c then bd E3 fun z => of (g y z) else pu (.bool false)
def tupD (xs : List D) : Option D := if xs.length ≤ sizeLine then some (.tuple xs) else none
def lstD (xs : List D) : Option D := if xs.length ≤ sizeLine then some (.list xs) else none
end SM
section
open SM
variable {μ : Type} {G : Gx} {σ : St} {L : List (V × D)} {C : μ → List Root} {te ta tb tc : TE} {tt tu : TT} {E E1 E2 E3 : SM μ D} {T T1 T2 : SM μ Bool}
theorem Bk.exc {α β : Type} {C : μ → List Root} {F : List Root} {L : List (V × D)} {e : D} {m : μ} (h : Bk G C F L (.exc e m : Rs μ α)) : Bk G C F L (.exc e m : Rs μ β) := ⟨fun e' m' cls d H' q => h.1 e' m' cls d H' (by cases q; rfl), fun z => by cases z⟩
theorem Bk.mono {α : Type} {C : μ → List Root} {F : List Root} {L L' : List (V × D)} {r : Rs μ α} (h : Bk G C F L r) (s : ∀ f ∈ L, f ∈ L') : Bk G C F L' r := ⟨fun e m' cls d H' q w => h.1 e m' cls d H' q (w.sub s), h.2⟩
/-- the first part of a thing done in two -/
theorem Bk.fst {α β : Type} {C : μ → List Root} {F : List Root} {L : List (V × D)} {x : SM μ α} {f : α → SM μ β} {m : μ} (h : Bk G C F L (bd x f m)) : Bk G C F L (x m) := by
  refine ⟨fun e m' cls d H' q => h.1 e m' cls d H' (bd_exc q), fun z => h.2 (bd_bad z)⟩
theorem Bk.snd {α β : Type} {C : μ → List Root} {F : List Root} {L : List (V × D)} {x : SM μ α} {f : α → SM μ β} {m m' : μ} {a : α} (h : Bk G C F L (bd x f m)) (e : x m = .ok a m') : Bk G C F L (f a m') := by
  rw [bd_ok e] at h
  exact h
theorem ev_var {i : Nat} {v : V} {d : D} (h : σ[i]? = some (some v)) (hm : (v, d) ∈ L) : EV G (tVar i) σ L C (pu d) := fun m F L' H Q s w q _ =>
  ⟨v, h, q d m v H rfl (w.fact fun _ f => f _ (s _ hm))⟩
theorem ev_int {i : Int} : EV G (tC (.int i)) σ L C (pu (.int i)) := fun m F L' H Q s w q _ => q _ m _ H rfl (w.fact fun _ _ => .int i)
theorem ev_bl {b : Bool} : EV G (tC (.bl b)) σ L C (pu (.bool b)) := fun m F L' H Q s w q _ => q _ m _ H rfl (w.fact fun _ _ => .bl b)
theorem ev_non : EV G (tC .non) σ L C (pu .none) := fun m F L' H Q s w q _ => q _ m _ H rfl (w.fact fun _ _ => .non)
theorem ev_str {x : Str} : EV G (tC (.str x)) σ L C (pu (.str x)) := fun m F L' H Q s w q _ => q _ m _ H rfl (w.fact fun _ _ => .str x)
theorem ev_op {r : R2} {f : D → D → Option D} (hf : OpS G r f) (h1 : EV G ta σ L C E1) (h2 : EV G tb σ L C E2) : EV G (tOp r ta tb) σ L C (op2 f E1 E2) := by
  intro m F L' H Q s w q b
  refine h1 m F L' H _ s w (fun x m1 v H1 e1 w1 => ?_) b.fst
  have b1 := b.snd e1
  refine h2 m1 F ((v, x) :: L') H1 _ (fun f hf => .tail _ (s f hf)) w1 (fun y m2 u H2 e2 w2 => ?_) (b1.fst.mono fun f hf => .tail _ hf)
  have b2 := b1.snd e2
  cases ef : f x y with
  | none => rw [ef] at b2; exact absurd rfl b2.2
  | some z =>
    refine hf _ _ H2 v u x y z Q w2 (.tail _ (.head _)) (.head _) ef fun v' H' w' => q z m2 v' H' ?_ (w'.sub fun f hf => ?_)
    · show bd E1 _ m = _
      rw [bd_ok e1, bd_ok e2, ef]; rfl
    · rcases List.mem_cons.mp hf with e | e
      · rw [e]; exact .head _
      · exact .tail _ (.tail _ (.tail _ e))
theorem ev_un {r : V → Hp → VK → Prop} {f : D → Option D} (hf : UnS G r f) (h1 : EV G ta σ L C E1) : EV G (tUn r ta) σ L C (op1 f E1) := by
  intro m F L' H Q s w q b
  refine h1 m F L' H _ s w (fun x m1 v H1 e1 w1 => ?_) b.fst
  have b1 := b.snd e1
  cases ef : f x with
  | none => rw [ef] at b1; exact absurd rfl b1.2
  | some z =>
    refine hf _ _ H1 v x z Q w1 (.head _) ef fun v' H' w' => q z m1 v' H' ?_ (w'.sub fun f hf => ?_)
    · show bd E1 _ m = _
      rw [bd_ok e1, ef]; rfl
    · rcases List.mem_cons.mp hf with e | e
      · rw [e]; exact .head _
      · exact .tail _ (.tail _ e)
theorem av_nil : AV G tNil σ L C (a0 : SM μ (List D)) := fun m F L' H Q s w q _ => q [] m [] H L' rfl (fun _ h => h) .nil w
theorem av_cons {tr : TA} {Es : SM μ (List D)} (h1 : EV G ta σ L C E1) (h2 : AV G tr σ L C Es) : AV G (tCons ta tr) σ L C (ac E1 Es) := by
  intro m F L' H Q s w q b
  refine h1 m F L' H _ s w (fun x m1 v H1 e1 w1 => ?_) b.fst
  have b1 := b.snd e1
  refine h2 m1 F ((v, x) :: L') H1 _ (fun f hf => .tail _ (s f hf)) w1 (fun ys m2 us H2 L2 e2 s2 i2 w2 => ?_) (b1.fst.mono fun f hf => .tail _ hf)
  refine q (x :: ys) m2 (v :: us) H2 L2 ?_ (fun f hf => s2 f (.tail _ hf)) (.cons (s2 _ (.head _)) i2) w2
  show bd E1 _ m = _
  rw [bd_ok e1, bd_ok e2]; rfl
theorem ev_args {ta : TA} {Es : SM μ (List D)} {te : TE} {f : List D → Option D} {r : List V → Hp → VK → Prop} (hf : CallS G r f) (h : AV G ta σ L C Es) (ht : te = fun σ H Q => ta σ H fun vs H1 => r vs H1 Q) : EV G te σ L C (opL f Es) := by
  subst ht
  intro m F L' H Q s w q b
  refine h m F L' H _ s w (fun xs m1 vs H1 L2 e1 s2 i2 w1 => ?_) b.fst
  have b1 := b.snd e1
  cases ef : f xs with
  | none => rw [ef] at b1; exact absurd rfl b1.2
  | some z =>
    refine hf _ _ H1 vs xs z Q w1 i2 ef fun v' H' w' => q z m1 v' H' ?_ (w'.sub fun f hf => ?_)
    · show bd Es _ m = _
      rw [bd_ok e1, ef]; rfl
    · rcases List.mem_cons.mp hf with e | e
      · rw [e]; exact .head _
      · exact .tail _ (s2 _ e)
theorem ev_cb {ta : TA} {Es : SM μ (List D)} {f : List D → Option D} {r : List V → Hp → VK → Prop} (hf : CallS G r f) (h : AV G ta σ L C Es) : EV G (tCB r ta) σ L C (opL f Es) := ev_args hf h rfl
theorem cs_tup : CallS G (fun xs H Q => xs.length ≤ sizeLine ∧ ∀ p, H p = none → Q (.ref p) (upd H p (.tup xs))) tupD := by
  intro L C H xs ds z Q w i e q
  unfold tupD at e
  split at e
  · cases e
    refine ⟨by rw [i.len]; assumption, fun p hp => q _ _ (w.tup hp i)⟩
  · cases e
theorem cs_lst : CallS G (fun xs H Q => xs.length ≤ sizeLine ∧ ∀ p, H p = none → Q (.ref p) (upd H p (.lst xs))) lstD := by
  intro L C H xs ds z Q w i e q
  unfold lstD at e
  split at e
  · cases e
    refine ⟨by rw [i.len]; assumption, fun p hp => q _ _ (w.lst hp i)⟩
  · cases e
theorem ev_tup {ta : TA} {Es : SM μ (List D)} (h : AV G ta σ L C Es) : EV G (tTup ta) σ L C (opL tupD Es) := ev_args cs_tup h rfl
theorem ev_lst {ta : TA} {Es : SM μ (List D)} (h : AV G ta σ L C Es) : EV G (tLst ta) σ L C (opL lstD Es) := ev_args cs_lst h rfl
theorem boolD_some {x : D} {b : Bool} (h : boolD x = some b) : x = .bool b := by
  cases x <;> simp [boolD] at h
  rw [h]
theorem tv_of {tt : TT} (h1 : EV G te σ L C E) (ht : tt = fun σ H Q => te σ H fun x H1 => ∃ k, x = .bl k ∧ Q k H1) : TV G tt σ L C (SM.tb E) := by
  subst ht
  intro m F L' H Q s w q b
  refine h1 m F L' H _ s w (fun x m1 v H1 e1 w1 => ?_) b.fst
  have b1 := b.snd e1
  cases ef : boolD x with
  | none => rw [ef] at b1; exact absurd rfl b1.2
  | some z =>
    have ex := boolD_some ef
    subst ex
    obtain ⟨B, hd⟩ := w1.dt (.head _)
    refine ⟨z, hd.bl_inv, q z m1 H1 ?_ (w1.sub fun f hf => .tail _ hf)⟩
    show bd E _ m = _
    rw [bd_ok e1]; rfl
theorem tv_test (h1 : EV G te σ L C E) : TV G (tTest te) σ L C (SM.tb E) := tv_of h1 rfl
theorem isEmpty_dt {K : PySem.W.Frag} {B : Addr → Prop} {H : Hp} {vs : List V} {ds : List D} (h : DtAll K B H vs ds) : vs.isEmpty = ds.isEmpty := by cases h <;> rfl
theorem tru_of {K : PySem.W.Frag} {B : Addr → Prop} {H : Hp} {v : V} {d : D} {k : Bool} (h : Dt K B H v d) (e : truD d = some k) : TruV K v H k := by
  cases h with
  | non => cases e; rfl
  | bl z => cases e; rfl
  | int i => cases e; rfl
  | str x =>
    simp only [truD] at e
    split at e
    · cases e; exact ⟨by assumption, rfl⟩
    · cases e
  | lst a b => cases e; exact .inl ⟨_, a.sq, by rw [isEmpty_dt b]⟩
  | tup a b => cases e; exact .inr (.inl ⟨_, a.sq, by rw [isEmpty_dt b]⟩)
  | scr a c => cases e
theorem tv_tr (h1 : EV G te σ L C E) : TV G (fun σ H Q => te σ H fun x H' => ∃ k, TruV G.K x H' k ∧ Q k H') σ L C (SM.tr E) := by
  intro m F L' H Q s w q b
  refine h1 m F L' H _ s w (fun x m1 v H1 e1 w1 => ?_) b.fst
  have b1 := b.snd e1
  cases ef : truD x with
  | none => rw [ef] at b1; exact absurd rfl b1.2
  | some z =>
    obtain ⟨B, hd⟩ := w1.dt (.head _)
    refine ⟨z, tru_of hd ef, q z m1 H1 ?_ (w1.sub fun f hf => .tail _ hf)⟩
    show bd E _ m = _
    rw [bd_ok e1, ef]; rfl
theorem tv_and (h1 : TV G tt σ L C T1) (h2 : TV G tu σ L C T2) : TV G (tAnd tt tu) σ L C (tand T1 T2) := by
  intro m F L' H Q s w q b
  refine h1 m F L' H _ s w (fun x m1 H1 e1 w1 => ?_) b.fst
  have b1 := b.snd e1
  have er : tand T1 T2 m = (if x then T2 else pu false) m1 := bd_ok e1
  cases x with
  | true =>
    show if true = true then tu σ H1 Q else _
    rw [if_pos rfl]
    exact h2 m1 F L' H1 Q s w1 (fun y m2 H2 e2 w2 => q y m2 H2 (er.trans e2) w2) b1
  | false => exact q false m1 H1 er w1
theorem tv_or (h1 : TV G tt σ L C T1) (h2 : TV G tu σ L C T2) : TV G (tOr tt tu) σ L C (tor T1 T2) := by
  intro m F L' H Q s w q b
  refine h1 m F L' H _ s w (fun x m1 H1 e1 w1 => ?_) b.fst
  have b1 := b.snd e1
  have er : tor T1 T2 m = (if x then pu true else T2) m1 := bd_ok e1
  cases x with
  | false =>
    show if false = true then _ else tu σ H1 Q
    rw [if_neg (by decide)]
    exact h2 m1 F L' H1 Q s w1 (fun y m2 H2 e2 w2 => q y m2 H2 (er.trans e2) w2) b1
  | true => exact q true m1 H1 er w1
theorem tv_not (h1 : TV G tt σ L C T1) : TV G (tNot tt) σ L C (tnot T1) := by
  intro m F L' H Q s w q b
  refine h1 m F L' H _ s w (fun x m1 H1 e1 w1 => q (!x) m1 H1 ?_ w1) b.fst
  show bd T1 _ m = _
  rw [bd_ok e1]; rfl
theorem ev_if (h : TV G tt σ L C T) (h1 : EV G ta σ L C E1) (h2 : EV G tb σ L C E2) : EV G (tIf tt ta tb) σ L C (eif T E1 E2) := by
  intro m F L' H Q s w q b
  refine h m F L' H _ s w (fun c m1 H1 e1 w1 => ?_) b.fst
  have b1 := b.snd e1
  have er : eif T E1 E2 m = (if c then E1 else E2) m1 := bd_ok e1
  cases c with
  | true => exact h1 m1 F L' H1 Q s w1 (fun y m2 v H2 e2 w3 => q y m2 v H2 (er.trans e2) w3) b1
  | false => exact h2 m1 F L' H1 Q s w1 (fun y m2 v H2 e2 w3 => q y m2 v H2 (er.trans e2) w3) b1
theorem ev_chain {r r' : R2} {f g : D → D → Option D} (hf : OpS G r f) (hg : OpS G r' g) (h1 : EV G ta σ L C E1) (h2 : EV G tb σ L C E2) (h3 : EV G tc σ L C E3) : EV G (tChain r r' ta tb tc) σ L C (chain f g E1 E2 E3) := by
  intro m F L' H Q s w q b
  refine h1 m F L' H _ s w (fun x m1 v H1 e1 w1 => ?_) b.fst
  have b1 := b.snd e1
  refine h2 m1 F ((v, x) :: L') H1 _ (fun f hf => .tail _ (s f hf)) w1 (fun y m2 u H2 e2 w2 => ?_) (b1.fst.mono fun f hf => .tail _ hf)
  have b2 := b1.snd e2
  have er : chain f g E1 E2 E3 m = bd (SM.tb (of (f x y))) (fun c => if c then bd E3 fun z => of (g y z) else pu (.bool false)) m2 := by
    show bd E1 _ m = _
    rw [bd_ok e1, bd_ok e2]
  cases ef : f x y with
  | none => rw [ef] at b2; exact absurd rfl b2.2
  | some k =>
    rw [ef] at b2 er
    refine hf _ _ H2 v u x y k _ w2 (.tail _ (.head _)) (.head _) ef fun v' H' w' => ?_
    cases ek : boolD k with
    | none =>
      refine absurd ?_ b2.2
      show bd (bd (pu k) fun x => of (boolD x)) _ m2 = _
      rw [pu_bd, ek]; rfl
    | some c =>
      have ex := boolD_some ek
      subst ex
      obtain ⟨B, hd⟩ := w'.dt (.head _)
      have hv := hd.bl_inv
      subst hv
      refine ⟨c, rfl, ?_⟩
      have er2 : chain f g E1 E2 E3 m = (if c then bd E3 fun z => of (g y z) else pu (.bool false)) m2 := er
      have b3 : Bk G C F L' ((if c then bd E3 fun z => of (g y z) else pu (.bool false)) m2) := b2
      cases c with
      | false =>
        refine q _ m2 _ H' er2 (w'.sub fun f hf => ?_)
        rcases List.mem_cons.mp hf with e | e
        · rw [e]; exact .head _
        · exact .tail _ (.tail _ (.tail _ e))
      | true =>
        refine h3 m2 F _ H' _ (fun f hf => .tail _ (.tail _ (.tail _ (s f hf)))) w' (fun z m3 u3 H3 e3 w3 => ?_) (b3.fst.mono fun f hf => .tail _ (.tail _ (.tail _ hf)))
        have b4 := b3.snd e3
        cases eg : g y z with
        | none => rw [eg] at b4; exact absurd rfl b4.2
        | some k2 =>
          refine hg _ _ H3 u u3 y z k2 Q w3 (.tail _ (.tail _ (.head _))) (.head _) eg fun v' H' w' => q k2 m3 v' H' ?_ (w'.sub fun f hf => ?_)
          · rw [er2]
            show bd E3 _ m2 = _
            rw [bd_ok e3, eg]; rfl
          · rcases List.mem_cons.mp hf with e | e
            · rw [e]; exact .head _
            · exact .tail _ (.tail _ (.tail _ (.tail _ (.tail _ e))))
end
namespace SM
def fit (i : Int) : Bool := decide (i.natAbs.log2 < 50000000)
def addD : D → D → Option D
  | .int a, .int b => some (.int (a + b))
  | .list a, .list b => if a.length + b.length ≤ sizeLine then some (.list (a ++ b)) else none
  | .dict [(.none, .list a)], .list b => if a.length + b.length ≤ sizeLine then some (.list (a ++ b)) else none
  | .tuple a, .tuple b => if a ≠ [] ∧ b ≠ [] ∧ a.length + b.length ≤ sizeLine then some (.tuple (a ++ b)) else none
  | .str a, .str b => if a.length + b.length ≤ sizeLine then some (.str (a ++ b)) else none
  | _, _ => none
def subD : D → D → Option D
  | .int a, .int b => some (.int (a - b))
  | _, _ => none
def mulD : D → D → Option D
  | .int a, .int b => if fit a && fit b then some (.int (a * b)) else none
  | .list a, .int k => if -(2 ^ 63) ≤ k ∧ k < 2 ^ 63 ∧ a.length * k.toNat ≤ sizeLine then some (.list (List.replicate k.toNat a).flatten) else none
  | _, _ => none
def fdivD : D → D → Option D
  | .int a, .int b => if 0 < b ∧ b.natAbs.log2 < 9000 then some (.int (a / b)) else if b < 0 ∧ b.natAbs < 1073741824 then some (.int (a.fdiv b)) else none
  | _, _ => none
def modD : D → D → Option D
  | .int a, .int b => if 0 < b then some (.int (a % b)) else none
  | _, _ => none
def powD : D → D → Option D
  | .int a, .int b => if 0 ≤ b ∧ b ≤ 1000000 ∧ a.natAbs < 2 ^ 64 then some (.int (a ^ b.toNat)) else none
  | _, _ => none
def shlD : D → D → Option D
  | .int a, .int b => if 0 ≤ b ∧ b ≤ 50000000 ∧ fit a = true then some (.int (a * 2 ^ b.toNat)) else none
  | _, _ => none
def shrD : D → D → Option D
  | .int a, .int b => if 0 ≤ b then some (.int (a / 2 ^ b.toNat)) else none
  | _, _ => none
def andD : D → D → Option D
  | .int a, .int b => some (.int (Builtin.bitAnd a b))
  | _, _ => none
def orD : D → D → Option D
  | .int a, .int b => some (.int (Builtin.bitOr a b))
  | _, _ => none
def xorD : D → D → Option D
  | .int a, .int b => some (.int (Builtin.bitXor a b))
  | _, _ => none
def ltD : D → D → Option D
  | .int a, .int b => some (.bool (decide (a < b)))
  | _, _ => none
def leD : D → D → Option D
  | .int a, .int b => some (.bool (decide (a ≤ b)))
  | _, _ => none
def gtD : D → D → Option D
  | .int a, .int b => some (.bool (decide (b < a)))
  | _, _ => none
def geD : D → D → Option D
  | .int a, .int b => some (.bool (decide (b ≤ a)))
  | _, _ => none
def eqD (d e : D) : Option D := if SeqAt.shaped d && SeqAt.shaped e then some (.bool (PyData.eqv d e)) else none
def neD (d e : D) : Option D := if SeqAt.shaped d && SeqAt.shaped e then some (.bool (!PyData.eqv d e)) else none
def isNone : D → Bool
  | .none => true
  | _ => false
def isD : D → D → Option D
  | d, .none => some (.bool (isNone d))
  | .bool a, .bool b => some (.bool (decide (a = b)))
  | _, _ => none
def isntD : D → D → Option D
  | d, .none => some (.bool (!isNone d))
  | .bool a, .bool b => some (.bool (!decide (a = b)))
  | _, _ => none
def negD : D → Option D
  | .int a => some (.int (-a))
  | _ => none
def seqD : D → Option (List D)
  | .list xs => some xs
  | .tuple xs => some xs
  | _ => none
def idxD : D → D → Option D
  | .list xs, .int i => atI xs i
  | .tuple xs, .int i => atI xs i
  | .str z, .int i => if z.length ≤ sizeLine then (atI z.cps.toList i).map fun c => .str ⟨#[c]⟩ else none
  | _, _ => none
def absD : List D → Option D
  | [.int a] => some (.int (if a < 0 then -a else a))
  | _ => none
def maxD : List D → Option D
  | [.int a, .int b] => some (.int (if b > a then b else a))
  | [.tuple [.int a, .int b]] => some (.int (if b > a then b else a))
  | _ => none
def minD : List D → Option D
  | [.int a, .int b] => some (.int (if b < a then b else a))
  | _ => none
def intD : List D → Option D
  | [.int a] => some (.int a)
  | [.bool b] => some (.int (if b then 1 else 0))
  | _ => none
def lenD : List D → Option D
  | [.list xs] => some (.int xs.length)
  | [.tuple xs] => some (.int xs.length)
  | [.str z] => if z.length ≤ sizeLine then some (.int z.length) else none
  | _ => none
def listD : List D → Option D
  | [.list xs] => some (.list xs)
  | [.tuple xs] => some (.list xs)
  | _ => none
def tupleD : List D → Option D
  | [.list xs] => some (.tuple xs)
  | [.tuple xs] => some (.tuple xs)
  | _ => none
def bitsD : D → Option D
  | .int a => some (.int (Builtin.Int.intBits a))
  | _ => none
end SM
section
open SM
variable {X : Cx} {G : Gx}
theorem fit_lt {i : Int} (h : fit i = true) : i.natAbs < 2 ^ (i.natAbs.log2 + 1) ∧ i.natAbs.log2 + 1 ≤ 50000000 := ⟨Nat.lt_log2_self, by have := of_decide_eq_true h; omega⟩
theorem fit_of {i : Int} {n : Nat} (h : i.natAbs < 2 ^ n) (hn : n ≤ 50000000) : fit i = true := by
  unfold fit
  refine decide_eq_true ?_
  by_cases e : i.natAbs = 0
  · rw [e, show Nat.log2 0 = 0 from rfl]; omega
  · have := (Nat.log2_lt e).mpr h
    omega
theorem opI_s {f : Int → Int → Int} {Cn : Int → Int → Prop} {g : D → D → Option D} (hi : ∀ d e z, g d e = some z → ∃ a b, d = .int a ∧ e = .int b ∧ Cn a b ∧ z = .int (f a b)) : OpS G (rI Cn fun i j => .int (f i j)) g := by
  intro L C H x y d e z Q w hx hy hf q
  obtain ⟨a, b, rfl, rfl, hc, rfl⟩ := hi d e z hf
  obtain ⟨_, h1⟩ := w.dt hx
  obtain ⟨_, h2⟩ := w.dt hy
  exact ⟨a, b, h1.int_inv, h2.int_inv, hc, q _ _ (w.fact fun _ _ => .int _)⟩
theorem opI0_s {f : Int → Int → Int} {g : D → D → Option D} (hi : ∀ d e z, g d e = some z → ∃ a b, d = .int a ∧ e = .int b ∧ z = .int (f a b)) : OpS G (rI0 fun i j => .int (f i j)) g := by
  intro L C H x y d e z Q w hx hy hf q
  obtain ⟨a, b, rfl, rfl, rfl⟩ := hi d e z hf
  obtain ⟨_, h1⟩ := w.dt hx
  obtain ⟨_, h2⟩ := w.dt hy
  exact ⟨a, b, h1.int_inv, h2.int_inv, q _ _ (w.fact fun _ _ => .int _)⟩
theorem opB0_s {f : Int → Int → Bool} {g : D → D → Option D} (hi : ∀ d e z, g d e = some z → ∃ a b, d = .int a ∧ e = .int b ∧ z = .bool (f a b)) : OpS G (rI0 fun i j => .bl (f i j)) g := by
  intro L C H x y d e z Q w hx hy hf q
  obtain ⟨a, b, rfl, rfl, rfl⟩ := hi d e z hf
  obtain ⟨_, h1⟩ := w.dt hx
  obtain ⟨_, h2⟩ := w.dt hy
  exact ⟨a, b, h1.int_inv, h2.int_inv, q _ _ (w.fact fun _ _ => .bl _)⟩
theorem os_sub : OpS G (rI0 fun i j => .int (i - j)) subD := opI0_s fun d e z h => by
  cases d <;> cases e <;> simp [subD] at h
  exact ⟨_, _, rfl, rfl, h.symm⟩
def rFdivU : R2 := fun x y H Q => rI CDivW (fun i j => V.int (i / j)) x y H Q ∨ rI CDivN (fun i j => V.int (i.fdiv j)) x y H Q
theorem op_fdivU : OpR X (binaryOp .FloorDiv) rFdivU := op_fdivW.or op_fdivN
theorem os_fdiv : OpS G rFdivU fdivD := by
  intro L C H x y d e z Q w hx hy hf q
  obtain ⟨_, h1⟩ := w.dt hx
  obtain ⟨_, h2⟩ := w.dt hy
  cases d <;> cases e <;> simp only [fdivD] at hf <;> (try cases hf)
  split at hf
  · next c =>
    cases hf
    exact .inl ⟨_, _, h1.int_inv, h2.int_inv, c, q _ _ (w.fact fun _ _ => .int _)⟩
  · split at hf
    · next c =>
      cases hf
      exact .inr ⟨_, _, h1.int_inv, h2.int_inv, ⟨by omega, c.2⟩, q _ _ (w.fact fun _ _ => .int _)⟩
    · cases hf
theorem os_mod : OpS G (rI (fun _ j => 0 < j) fun i j => .int (i % j)) modD := opI_s fun d e z h => by
  cases d <;> cases e <;> simp only [modD] at h <;> (try cases h)
  split at h
  · cases h; exact ⟨_, _, rfl, rfl, by assumption, rfl⟩
  · cases h
theorem os_pow : OpS G (rI CPow fun i j => .int (i ^ j.toNat)) powD := opI_s fun d e z h => by
  cases d <;> cases e <;> simp only [powD] at h <;> (try cases h)
  split at h
  · cases h; exact ⟨_, _, rfl, rfl, by assumption, rfl⟩
  · cases h
theorem os_shl : OpS G (rI CShl fun i j => .int (i * 2 ^ j.toNat)) shlD := opI_s fun d e z h => by
  cases d <;> cases e <;> simp only [shlD] at h <;> (try cases h)
  rename_i a b
  split at h
  · next c =>
    cases h
    obtain ⟨c1, c2, c3⟩ := c
    obtain ⟨k1, k2⟩ := fit_lt c3
    obtain ⟨n, rfl⟩ := Int.eq_ofNat_of_zero_le c1
    exact ⟨_, _, rfl, rfl, shl_ok k1 (by omega), rfl⟩
  · cases h
theorem os_lt : OpS G (rI0 fun i j => .bl (decide (i < j))) ltD := opB0_s fun d e z h => by
  cases d <;> cases e <;> simp [ltD] at h
  exact ⟨_, _, rfl, rfl, h.symm⟩
theorem os_le : OpS G (rI0 fun i j => .bl (decide (i ≤ j))) leD := opB0_s fun d e z h => by
  cases d <;> cases e <;> simp [leD] at h
  exact ⟨_, _, rfl, rfl, h.symm⟩
theorem os_gt : OpS G (rI0 fun i j => .bl (decide (j < i))) gtD := opB0_s fun d e z h => by
  cases d <;> cases e <;> simp [gtD] at h
  exact ⟨_, _, rfl, rfl, h.symm⟩
theorem os_ge : OpS G (rI0 fun i j => .bl (decide (j ≤ i))) geD := opB0_s fun d e z h => by
  cases d <;> cases e <;> simp [geD] at h
  exact ⟨_, _, rfl, rfl, h.symm⟩
theorem os_eq : OpS G (rEqD G.K) eqD := by
  intro L C H x y d e z Q w hx hy hf q
  obtain ⟨B, h1⟩ := w.dt hx
  obtain ⟨B2, h2⟩ := w.dt hy
  unfold eqD at hf
  split at hf
  · next c =>
    cases hf
    rw [Bool.and_eq_true] at c
    exact ⟨d, e, Dt.dp _ _ (SeqAt.canLay_of_shaped c.1) h1, Dt.dp _ _ (SeqAt.canLay_of_shaped c.2) h2, c.1, c.2, q _ _ (w.fact fun _ _ => .bl _)⟩
  · cases hf
theorem os_ne : OpS G (rNeD G.K) neD := by
  intro L C H x y d e z Q w hx hy hf q
  obtain ⟨B, h1⟩ := w.dt hx
  obtain ⟨B2, h2⟩ := w.dt hy
  unfold neD at hf
  split at hf
  · next c =>
    cases hf
    rw [Bool.and_eq_true] at c
    exact ⟨d, e, Dt.dp _ _ (SeqAt.canLay_of_shaped c.1) h1, Dt.dp _ _ (SeqAt.canLay_of_shaped c.2) h2, c.1, c.2, q _ _ (w.fact fun _ _ => .bl _)⟩
  · cases hf
theorem non_iff {K : PySem.W.Frag} {B : Addr → Prop} {H : Hp} {v : V} {d : D} (h : Dt K B H v d) : decide (v = .non) = isNone d := by
  cases h <;> first | rfl | exact decide_eq_false (fun z => by cases z)
def rIs : R2 := fun x y H Q => (y = .non ∧ Q (.bl (decide (x = .non))) H) ∨ rIsB x y H Q
def rIsnt : R2 := fun x y H Q => (y = .non ∧ Q (.bl (!decide (x = .non))) H) ∨ rNotB x y H Q
theorem op_isU : OpR X (compareOp .Is) rIs := op_isN.or op_isBl
theorem op_isntU : OpR X (compareOp .IsNot) rIsnt := op_notN.or op_notBl
theorem os_is : OpS G rIs isD := by
  intro L C H x y d e z Q w hx hy hf q
  obtain ⟨B, h1⟩ := w.dt hx
  obtain ⟨B2, h2⟩ := w.dt hy
  cases e with
  | none =>
    simp only [isD] at hf
    cases hf
    refine .inl ⟨h2.non_inv, ?_⟩
    rw [non_iff h1]
    exact q _ _ (w.fact fun _ _ => .bl _)
  | bool b =>
    cases d <;> simp only [isD] at hf <;> (try cases hf)
    exact .inr ⟨_, _, h1.bl_inv, h2.bl_inv, q _ _ (w.fact fun _ _ => .bl _)⟩
  | _ => cases d <;> cases hf
theorem os_isnt : OpS G rIsnt isntD := by
  intro L C H x y d e z Q w hx hy hf q
  obtain ⟨B, h1⟩ := w.dt hx
  obtain ⟨B2, h2⟩ := w.dt hy
  cases e with
  | none =>
    simp only [isntD] at hf
    cases hf
    refine .inl ⟨h2.non_inv, ?_⟩
    rw [non_iff h1]
    exact q _ _ (w.fact fun _ _ => .bl _)
  | bool b =>
    cases d <;> simp only [isntD] at hf <;> (try cases hf)
    exact .inr ⟨_, _, h1.bl_inv, h2.bl_inv, q _ _ (w.fact fun _ _ => .bl _)⟩
  | _ => cases d <;> cases hf
theorem us_neg : UnS G (rU fun i => .int (-i)) negD := by
  intro L C H x d z Q w hx hf q
  obtain ⟨B, h1⟩ := w.dt hx
  cases d <;> simp only [negD] at hf <;> (try cases hf)
  exact ⟨_, h1.int_inv, q _ _ (w.fact fun _ _ => .int _)⟩
theorem atI_dt {K : PySem.W.Frag} {B : Addr → Prop} {H : Hp} {vs : List V} {ds : List D} {i : Int} {d : D} (h : DtAll K B H vs ds) (e : atI ds i = some d) : ∃ v, atI vs i = some v ∧ Dt K B H v d := by
  unfold atI at e ⊢
  rw [h.len]
  cases hj : ixN ds.length i with
  | none => rw [hj] at e; cases e
  | some j =>
    rw [hj] at e
    exact h.get e
theorem os_idx : OpS G (rIx G.K) idxD := by
  intro L C H x y d e z Q w hx hy hf q
  obtain ⟨B, wb⟩ := w
  have h1 := wb.ft _ hx
  have h2 := wb.ft _ hy
  cases d <;> cases e <;> simp only [idxD] at hf <;> (try cases hf)
  · split at hf
    · rename_i x' i' c
      cases ha : atI x'.cps.toList i' with
      | none => rw [ha] at hf; cases hf
      | some k =>
        rw [ha] at hf
        cases hf
        exact .inr (.inr ⟨_, _, k, h1.str_inv, h2.int_inv, c, ha, q _ _ ⟨B, wb.fact (.str _)⟩⟩)
    · cases hf
  · obtain ⟨p, xs, rfl, hl, ha⟩ := Dt.lst_inv h1
    obtain ⟨v, hv, hd⟩ := atI_dt ha hf
    exact .inl ⟨p, xs, _, v, rfl, h2.int_inv, hl.sq, hv, q v H ⟨B, wb.fact hd⟩⟩
  · obtain ⟨p, xs, rfl, hl, ha⟩ := Dt.tup_inv h1
    obtain ⟨v, hv, hd⟩ := atI_dt ha hf
    exact .inr (.inl ⟨p, xs, _, v, rfl, h2.int_inv, hl.sq, hv, q v H ⟨B, wb.fact hd⟩⟩)
section
open PySem.Spec PyProof.Rows
def rCatR (K : PySem.W.Frag) : R2 := fun x y H Q => ∃ l b us zs, x = .ref l ∧ y = .ref b ∧ SqL K H l us ∧ SqL K H b zs ∧ us.length + zs.length ≤ sizeLine ∧ ∀ p, H p = none → Q (.ref p) (upd H p (.lst (us ++ zs)))
theorem op_catR {X : Cx} : OpR X (binaryOp .Add) (rCatR X.K) := by
  intro pins sh sg H x y v u Q I rx ry hyp
  obtain ⟨l, b, us, zs, rfl, rfl, hl, hb, hz, q⟩ := hyp
  cases rx
  cases ry
  obtain ⟨i1, r1, p1, _⟩ := I.list hl
  obtain ⟨i2, r2, p2, _⟩ := I.list hb
  have n1 := r1.length
  have n2 := r2.length
  obtain ⟨⟨c1, d1, t1, s1⟩, g1, e1, m1, f1⟩ := p1.isList
  obtain ⟨⟨c2, d2, t2, s2⟩, g2, e2, m2, f2⟩ := p2.isList
  simp only at e1 f1 e2 f2
  subst e1 f1 e2 f2
  refine concat_meets ⟨_, g1, rfl⟩ ⟨_, g2, rfl⟩ noFill_list_add seq_list_add PySem.F.slot_list_add PySem.F.entry_list_add (PySem.F.args_list_add_2 _ _)
    (list_addW l b i1.toArray i2.toArray m1 m2 d1 d2 s1 s2 (by simp only [List.size_toArray]; omega)) ⟨g1, g2, ?_⟩
  rw [show i1.toArray ++ i2.toArray = (i1 ++ i2).toArray by simp]
  exact ⟨.ref _, _, I.lnew (t' := sh.toks) (r1.append r2) (by rw [List.length_append]; exact hz), rfl, q _ I.fresh⟩
end
def rAddU (K : PySem.W.Frag) : R2 := fun x y H Q => (rI0 (fun i j => V.int (i + j)) x y H Q) ∨ (rCatR K x y H Q ∨ (rCatT K x y H Q ∨ (∃ i j, x = .str i ∧ y = .str j ∧ i.length + j.length ≤ sizeLine ∧ Q (.str (i ++ j)) H)))
theorem op_addU : OpR X (binaryOp .Add) (rAddU X.K) := op_add.or (op_catR.or (op_catT.or op_add_str))
theorem os_add : OpS G (rAddU G.K) addD := by
  intro L C H x y d e z Q w hx hy hf q
  obtain ⟨B, wb⟩ := w
  have h1 := wb.ft _ hx
  have h2 := wb.ft _ hy
  cases d <;> cases e <;> simp only [addD] at hf <;> (try cases hf)
  · exact .inl ⟨_, _, h1.int_inv, h2.int_inv, q _ _ ⟨B, wb.fact (.int _)⟩⟩
  · split at hf
    · cases hf
      exact .inr (.inr (.inr ⟨_, _, h1.str_inv, h2.str_inv, by assumption, q _ _ ⟨B, wb.fact (.str _)⟩⟩))
    · cases hf
  · split at hf
    · cases hf
      obtain ⟨p, xs, rfl, hl, ha⟩ := Dt.lst_inv h1
      obtain ⟨p2, ys, rfl, hl2, ha2⟩ := Dt.lst_inv h2
      exact .inr (.inl ⟨p, p2, xs, ys, rfl, rfl, hl.sq, hl2.sq, by rw [ha.len, ha2.len]; assumption, fun r hr => q _ _ (wb.lstD hr (ha.app ha2))⟩)
    · cases hf
  · split at hf
    · next c =>
      cases hf
      obtain ⟨p, xs, rfl, hl, ha⟩ := Dt.tup_inv h1
      obtain ⟨p2, ys, rfl, hl2, ha2⟩ := Dt.tup_inv h2
      have e1 : xs ≠ [] := fun z => c.1 (by subst z; cases ha; rfl)
      have e2 : ys ≠ [] := fun z => c.2.1 (by subst z; cases ha2; rfl)
      exact .inr (.inr (.inl ⟨p, p2, xs, ys, rfl, rfl, hl.sq, hl2.sq, e1, by rw [ha.len, ha2.len]; exact c.2.2, fun z => absurd z e2, fun _ r hr => q _ _ (wb.tupD hr (ha.app ha2))⟩))
    · cases hf
  · obtain ⟨p, xs, ds, rfl, rfl, hl, ha⟩ := Dt.scr_inv h1
    obtain ⟨p2, ys, rfl, hl2, ha2⟩ := Dt.lst_inv h2
    simp only at hf
    split at hf
    · cases hf
      exact .inr (.inl ⟨p, p2, xs, ys, rfl, rfl, hl, hl2.sq, by rw [ha.len, ha2.len]; assumption, fun r hr => q _ _ (wb.lstD hr (ha.app ha2))⟩)
    · cases hf
def rMulU : R2 := fun x y H Q => rI CMulX (fun i j => V.int (i * j)) x y H Q ∨ rRep x y H Q
theorem op_mulU : OpR X (binaryOp .Mult) rMulU := op_mulX.or op_rep
theorem os_mul : OpS G rMulU mulD := by
  intro L C H x y d e z Q w hx hy hf q
  obtain ⟨B, wb⟩ := w
  have h1 := wb.ft _ hx
  have h2 := wb.ft _ hy
  cases d <;> cases e <;> simp only [mulD] at hf <;> (try cases hf)
  · split at hf
    · next c =>
      cases hf
      rw [Bool.and_eq_true] at c
      obtain ⟨k1, k2⟩ := fit_lt c.1
      obtain ⟨k3, k4⟩ := fit_lt c.2
      exact .inl ⟨_, _, h1.int_inv, h2.int_inv, mulx_ok k1 k3 (by omega), q _ _ ⟨B, wb.fact (.int _)⟩⟩
    · cases hf
  · split at hf
    · next c =>
      cases hf
      obtain ⟨p, xs, rfl, hl, ha⟩ := Dt.lst_inv h1
      exact .inr ⟨p, _, xs, rfl, h2.int_inv, hl.2, c.1, c.2.1, by rw [ha.len]; exact c.2.2, fun r hr => q _ _ (wb.lstD hr (DtAll.flat _ ha))⟩
    · cases hf
end
section
open PySem.Spec PyProof.Rows
theorem cr_maxT2 {X : Cx} (hc : X.calm = true) : CallR X (.builtin "max") (fun vs H Q => ∃ (a : Addr) (i j : Int), vs = [.ref a] ∧ SqT X.K H a [.int i, .int j] ∧ Q (.int (if j > i then j else i)) H) := by
  intro pins sh sg H xs us Q I r hyp
  obtain ⟨l, i, j, rfl, hl, q⟩ := hyp
  rw [Vals.ref1 r]
  obtain ⟨its, rv, hT, _⟩ := I.tuple hl
  obtain ⟨u, w', rfl, ⟨t, rfl⟩, ⟨t', rfl⟩⟩ := vals2 rv
  have hT2 : sh.heap.IsTuple l (intItems #[(i, t), (j, t')]) := by
    obtain ⟨o, h1, h2, n, h3⟩ := hT
    exact ⟨o, h1, h2, n, by simpa [intItems] using h3⟩
  have hlt : l < sh.heap.objs.size := by obtain ⟨_, e, _⟩ := hT; exact Heap.lt_size e
  refine call_max_walk (wpAny_pyIter_tuple hT2 ?_)
  refine ⟨_, [_, l], [_], _, _, _, _, rfl, Walks.tuple (A := X.A.in1) (I.ok.hd hc) _ l (Nat.ne_of_lt hlt) (intItems #[(i, t), (j, t')]),
    ⟨⟨_, Heap.get?_push_size _ rfl, rfl, rfl⟩, hT2.push _⟩, fun z hz => ?_, by simp [intItems], CmpOf.ints_gt (numAt #[(i, t), (j, t')]) (fun _ _ => intItems_at), fun v h' tk hP hk => ?_⟩
  · show z < (sh.heap.push _).objs.size
    rw [Heap.size_push]
    rcases List.mem_cons.mp hz with rfl | hz
    · exact Nat.lt_succ_self _
    · rcases List.mem_cons.mp hz with rfl | hz
      · exact Nat.lt_succ_of_lt hlt
      · cases hz
  · have hold : ∀ z o, sh.heap.get? z = some o → h'.get? z = some o := fun z o e => by
      refine hk z o (fun hm => ?_) (Heap.get?_push_of_some _ e)
      rcases List.mem_cons.mp hm with e1 | hm
      · have := Heap.lt_size e; rw [e1] at this; exact Nat.lt_irrefl _ this
      · cases hm
    refine ⟨.int (if j > i then j else i), H, I.kept hold, ?_, q⟩
    have hP' : (intItems #[(i, t), (j, t')])[argBest (fun a b => decide (numAt #[(i, t), (j, t')] a > numAt #[(i, t), (j, t')] b)) 1]? = some v := by
      have hsz2 : (intItems #[(i, t), (j, t')]).size - 1 = 1 := by simp [intItems]
      rw [← hsz2]; exact hP
    by_cases hba : j > i
    · have e : argBest (fun a b => decide (numAt #[(i, t), (j, t')] a > numAt #[(i, t), (j, t')] b)) 1 = 1 := by simp [argBest, numAt, hba]
      rw [e] at hP'
      rw [if_pos hba]
      have : v = .int j t' := by simpa [intItems] using hP'.symm
      exact ⟨t', this⟩
    · have e : argBest (fun a b => decide (numAt #[(i, t), (j, t')] a > numAt #[(i, t), (j, t')] b)) 1 = 0 := by simp [argBest, numAt, hba]
      rw [e] at hP'
      rw [if_neg hba]
      have : v = .int i t := by simpa [intItems] using hP'.symm
      exact ⟨t, this⟩
end
namespace SM
variable {μ : Type}
def cutD {α : Type} (xs : List α) (lo hi : Option Int) : List α := (xs.drop (HT.sIx xs.length 0 lo)).take (HT.sIx xs.length xs.length hi - HT.sIx xs.length 0 lo)
def optI : Option D → Option (Option Int)
  | none => some none
  | some (.int i) => some (some i)
  | some _ => none
def sliD (d : D) (lo hi : Option Int) : Option D := match d with
  | .list xs => some (.list (cutD xs lo hi))
  | .dict [(.none, .list xs)] => some (.list (cutD xs lo hi))
  | .tuple xs => if HT.sIx xs.length 0 lo = 0 ∧ HT.sIx xs.length xs.length hi = xs.length then none else some (.tuple (cutD xs lo hi))
  | _ => none
def part0 : SM μ (Option Int) := pu none
def intO : D → Option (Option Int)
  | .int i => some (some i)
  | _ => none
def part (E : SM μ D) : SM μ (Option Int) := bd E fun x => of (intO x)
def slice (E : SM μ D) (P1 P2 : SM μ (Option Int)) : SM μ D := bd E fun x => bd P1 fun l => bd P2 fun h => of (sliD x l h)
def flatD : D → Bool
  | .none => true
  | .bool _ => true
  | .int _ => true
  | .str _ => true
  | _ => false
def eqF : D → D → Bool
  | .none, .none => true
  | .bool a, .bool b => a == b
  | .bool a, .int b => (if a then 1 else 0) == b
  | .int a, .bool b => a == (if b then 1 else 0)
  | .int a, .int b => a == b
  | .str a, .str b => a == b
  | _, _ => false
def inL (x : D) (xs : List D) : Bool := xs.any fun y => eqF y x
def inD (neg : Bool) (x s : D) : Option D := match seqD s with
  | some xs => if flatD x && xs.all flatD then some (.bool (if neg then !inL x xs else inL x xs)) else none
  | none => none
def tyN : D → String
  | .none => "NoneType"
  | .bool _ => "bool"
  | .int _ => "int"
  | .str _ => "str"
  | .list _ => "list"
  | .tuple _ => "tuple"
  | .dict _ => "list"
def isiD (n : String) (d : D) : Option D := (kitB (tyN d) n).map .bool
def rgD (a b : Int) : D := .list ((List.range (b - a).toNat).map fun i => .int (a + (i : Nat)))
def lrg : List D → Option D
  | [.int b] => if -(2 ^ 62) ≤ b ∧ b < 2 ^ 62 ∧ b.toNat ≤ 2 ^ 24 then some (rgD 0 b) else none
  | [.int a, .int b] => if -(2 ^ 62) ≤ a ∧ a < 2 ^ 62 ∧ -(2 ^ 62) ≤ b ∧ b < 2 ^ 62 ∧ (b - a).toNat ≤ 2 ^ 24 then some (rgD a b) else none
  | _ => none
def intsD : List D → Option (List Int)
  | [] => some []
  | .int i :: r => (intsD r).map (i :: ·)
  | _ => none
end SM
section
open SM
variable {X : Cx} {μ : Type} {G : Gx} {σ : St} {L : List (V × D)} {C : μ → List Root} {te ta tb tc : TE} {tt tu : TT} {E E1 E2 E3 : SM μ D} {T T1 T2 : SM μ Bool}
theorem cutV_dt {K : PySem.W.Frag} {B : Addr → Prop} {H : Hp} {vs : List V} {ds : List D} (lo hi : Option Int) (h : DtAll K B H vs ds) : DtAll K B H (cutV vs lo hi) (cutD ds lo hi) := by
  unfold cutV cutD
  rw [h.len]
  exact (h.drop _).take _
def PV (to : TO) (σ : St) (L : List (V × D)) (C : μ → List Root) (G : Gx) (E : SM μ (Option Int)) : Prop :=
  ∀ m F L' H (Q : Option Int → Hp → Prop), (∀ f ∈ L, f ∈ L') → Wd G.K G.O L' (C m ++ F) H →
    (∀ x m' H', E m = .ok x m' → Wd G.K G.O L' (C m' ++ F) H' → Q x H') → Bk G C F L' (E m) → to σ H Q
theorem pv_some (h1 : EV G te σ L C E) : PV (tPart te) σ L C G (part E) := by
  intro m F L' H Q s w q b
  refine h1 m F L' H _ s w (fun x m1 v H1 e1 w1 => ?_) b.fst
  have b1 := b.snd e1
  cases x with
  | int i =>
    obtain ⟨B, hd⟩ := w1.dt (.head _)
    refine ⟨i, hd.int_inv, q (some i) m1 H1 ?_ (w1.sub fun f hf => .tail _ hf)⟩
    show bd E _ m = _
    rw [bd_ok e1]; rfl
  | _ => exact absurd rfl b1.2
def rSlU (K : PySem.W.Frag) : V → Option Int → Option Int → Hp → VK → Prop := fun x lo hi H Q => rSlL K x lo hi H Q ∨ rSlT K x lo hi H Q
theorem sl_u : SlR X (rSlU X.K) := sl_list.or sl_tup
theorem ev_slice {tl th : TO} {P1 P2 : SM μ (Option Int)} (h : EV G te σ L C E) (h1 : PV tl σ L C G P1) (h2 : PV th σ L C G P2) : EV G (tSl (rSlU G.K) te tl th) σ L C (slice E P1 P2) := by
  intro m F L' H Q s w q b
  refine h m F L' H _ s w (fun x m1 v H1 e1 w1 => ?_) b.fst
  have b1 := b.snd e1
  refine h1 m1 F ((v, x) :: L') H1 _ (fun f hf => .tail _ (s f hf)) w1 (fun lo m2 H2 e2 w2 => ?_) (b1.fst.mono fun f hf => .tail _ hf)
  have b2 := b1.snd e2
  refine h2 m2 F ((v, x) :: L') H2 _ (fun f hf => .tail _ (s f hf)) w2 (fun hi m3 H3 e3 w3 => ?_) (b2.fst.mono fun f hf => .tail _ hf)
  have b3 := b2.snd e3
  have er : slice E P1 P2 m = of (sliD x lo hi) m3 := by
    show bd E _ m = _
    rw [bd_ok e1, bd_ok e2, bd_ok e3]
  obtain ⟨B, wb⟩ := w3
  have hx := wb.ft _ (.head _)
  have fin : ∀ {z : D} {v' : V} {H' : Hp}, sliD x lo hi = some z → Wd G.K G.O ((v', z) :: (v, x) :: L') (C m3 ++ F) H' → Q v' H' := fun {z v' H'} ez w' => by
    rw [ez] at er
    exact q z m3 v' H' er (w'.sub fun f hf => by
      rcases List.mem_cons.mp hf with e | e
      · rw [e]; exact .head _
      · exact .tail _ (.tail _ e))
  have nb : sliD x lo hi ≠ none := fun z => by rw [z] at b3; exact b3.2 rfl
  cases x with
  | list xs =>
    obtain ⟨p, vs, rfl, hl, ha⟩ := Dt.lst_inv hx
    exact .inl ⟨p, vs, rfl, hl.sq, fun r hr => fin rfl (wb.lstD hr (cutV_dt lo hi ha))⟩
  | tuple xs =>
    obtain ⟨p, vs, rfl, hl, ha⟩ := Dt.tup_inv hx
    simp only [sliD] at nb
    split at nb
    · exact absurd rfl nb
    · next c =>
      exact .inr ⟨p, vs, rfl, hl.sq, by rw [ha.len]; exact c, fun r hr => fin (by simp only [sliD]; rw [if_neg c]) (wb.tupD hr (cutV_dt lo hi ha))⟩
  | dict kvs =>
    obtain ⟨p, vs, ds, rfl, rfl, hl, ha⟩ := Dt.scr_inv hx
    exact .inl ⟨p, vs, rfl, hl, fun r hr => fin rfl (wb.lstD hr (cutV_dt lo hi ha))⟩
  | _ => exact absurd rfl nb
theorem flat_dt {K : PySem.W.Frag} {B : Addr → Prop} {H : Hp} {v : V} {d : D} (h : Dt K B H v d) : flatV v = flatD d := by cases h <;> rfl
theorem flats_dt {K : PySem.W.Frag} {B : Addr → Prop} {H : Hp} : ∀ {vs : List V} {ds : List D}, DtAll K B H vs ds → vs.all flatV = ds.all flatD
  | [], _, h => by cases h; rfl
  | v :: vs, _, h => by
    cases h with
    | cons a b => rw [List.all_cons, List.all_cons, flat_dt a, flats_dt b]
theorem eqF_dt {K : PySem.W.Frag} {B : Addr → Prop} {H : Hp} {v u : V} {d e : D} (h : Dt K B H v d) (g : Dt K B H u e) : eqV v u = eqF d e := by cases h <;> cases g <;> rfl
theorem inL_dt {K : PySem.W.Frag} {B : Addr → Prop} {H : Hp} {v : V} {d : D} (g : Dt K B H v d) : ∀ {vs : List V} {ds : List D}, DtAll K B H vs ds → inV v vs = inL d ds
  | [], _, h => by cases h; rfl
  | x :: vs, _, h => by
    cases h with
    | cons a b =>
      show (eqV x v || inV v vs) = (eqF _ d || inL d _)
      rw [eqF_dt a g, inL_dt g b]
theorem os_in {neg : Bool} : OpS G (rIn G.K neg) (inD neg) := by
  intro L C H x y d e z Q w hx hy hf q
  obtain ⟨B, wb⟩ := w
  have h1 := wb.ft _ hx
  have h2 := wb.ft _ hy
  cases e <;> simp only [inD, seqD] at hf <;> (try cases hf)
  · split at hf
    · next c =>
      rw [Bool.and_eq_true] at c
      cases hf
      obtain ⟨p, vs, rfl, hl, ha⟩ := Dt.lst_inv h2
      refine ⟨p, vs, rfl, .inl hl.sq, by rw [flat_dt h1]; exact c.1, by rw [flats_dt ha]; exact c.2, ?_⟩
      rw [inL_dt h1 ha]
      exact q _ _ ⟨B, wb.fact (.bl _)⟩
    · cases hf
  · split at hf
    · next c =>
      rw [Bool.and_eq_true] at c
      cases hf
      obtain ⟨p, vs, rfl, hl, ha⟩ := Dt.tup_inv h2
      refine ⟨p, vs, rfl, .inr hl.sq, by rw [flat_dt h1]; exact c.1, by rw [flats_dt ha]; exact c.2, ?_⟩
      rw [inL_dt h1 ha]
      exact q _ _ ⟨B, wb.fact (.bl _)⟩
    · cases hf
theorem tyx_of {K : PySem.W.Frag} {B : Addr → Prop} {H : Hp} {v : V} {d : D} (h : Dt K B H v d) : TyX K H v (.type (tyN d)) := by
  cases h with
  | non => exact .base .non
  | bl z => exact .base (.bl z)
  | int i => exact .base (.int i)
  | str x => exact .base (.str x)
  | lst a b => exact .base (.lst a.2)
  | tup a b =>
    rcases a with ⟨_, a | ⟨o, a⟩⟩ | ⟨o, its, n, a, c, _⟩
    · exact .base (.tup a)
    · exact .fTuple a
    · exact .kTuple a c
  | scr a c =>
    rcases a with ⟨_, a | ⟨o, a⟩⟩ | ⟨o, its, n, a, c, _⟩
    · exact .base (.lst a)
    · exact .base (.frz a)
    · exact .kList a c
theorem ev_isi {n : String} (h : EV G te σ L C E) : EV G (tCB (rIsi G.K) (tCons te (tCons (tC (.ty n)) tNil))) σ L C (op1 (isiD n) E) := by
  refine ev_un (r := fun x H Q => rIsi G.K [x, .ty n] H Q) ?_ h
  intro L C H x d z Q w hx hf q
  obtain ⟨B, wb⟩ := w
  have h1 := wb.ft _ hx
  unfold isiD at hf
  cases hk : kitB (tyN d) n with
  | none => rw [hk] at hf; cases hf
  | some b =>
    rw [hk] at hf
    cases hf
    exact ⟨x, _, _, _, b, rfl, .ty n, tyx_of h1, kit_ty hk, q _ _ ⟨B, wb.fact (.bl _)⟩⟩
theorem In2.one {L : List (V × D)} {xs : List V} {d : D} (h : In2 L xs [d]) : ∃ x, xs = [x] ∧ (x, d) ∈ L := by
  cases h with
  | cons a b => cases b; exact ⟨_, rfl, a⟩
theorem In2.two {L : List (V × D)} {xs : List V} {d e : D} (h : In2 L xs [d, e]) : ∃ x y, xs = [x, y] ∧ (x, d) ∈ L ∧ (y, e) ∈ L := by
  cases h with
  | cons a b => cases b with | cons c b => cases b; exact ⟨_, _, rfl, a, c⟩
def rMaxU (K : PySem.W.Frag) : List V → Hp → VK → Prop := fun xs H Q => (∃ i j, xs = [.int i, .int j] ∧ Q (.int (if j > i then j else i)) H) ∨ (∃ (a : Addr) (i j : Int), xs = [.ref a] ∧ SqT K H a [.int i, .int j] ∧ Q (.int (if j > i then j else i)) H)
theorem CallR.or {f : Value} {r r' : List V → Hp → VK → Prop} (h : CallR X f r) (h' : CallR X f r') : CallR X f (fun xs H Q => r xs H Q ∨ r' xs H Q) := by
  intro pins s σ H xs us Q I rv q
  rcases q with q | q
  · exact h pins s σ H xs us Q I rv q
  · exact h' pins s σ H xs us Q I rv q
theorem call_maxU (hc : X.calm = true) : CallR X (.builtin "max") (rMaxU X.K) := CallR.or (call_max2 hc) (cr_maxT2 hc)
theorem cs_max : CallS G (rMaxU G.K) maxD := by
  intro L C H xs ds z Q w i e q
  unfold maxD at e
  split at e
  · cases e
    obtain ⟨x, y, rfl, hx, hy⟩ := i.two
    obtain ⟨B, hd⟩ := w.dt hx
    obtain ⟨B, hd2⟩ := w.dt hy
    exact .inl ⟨_, _, by rw [hd.int_inv, hd2.int_inv], q _ _ (w.fact fun _ _ => .int _)⟩
  · cases e
    obtain ⟨x, rfl, hx⟩ := i.one
    obtain ⟨B, hd⟩ := w.dt hx
    obtain ⟨p, vs, rfl, hl, ha⟩ := Dt.tup_inv hd
    cases ha with
    | cons a b =>
      cases b with
      | cons a2 b =>
        cases b
        rw [a.int_inv, a2.int_inv] at hl
        exact .inr ⟨p, _, _, rfl, hl.sq, q _ _ (w.fact fun _ _ => .int _)⟩
  · cases e
theorem cs_min : CallS G (fun xs H Q => ∃ i j, xs = [.int i, .int j] ∧ Q (.int (if j < i then j else i)) H) minD := by
  intro L C H xs ds z Q w i e q
  unfold minD at e
  split at e
  · cases e
    obtain ⟨x, y, rfl, hx, hy⟩ := i.two
    obtain ⟨B, hd⟩ := w.dt hx
    obtain ⟨B, hd2⟩ := w.dt hy
    exact ⟨_, _, by rw [hd.int_inv, hd2.int_inv], q _ _ (w.fact fun _ _ => .int _)⟩
  · cases e
theorem cs_int : CallS G (fun xs H Q => (∃ i, xs = [.int i] ∧ Q (.int i) H) ∨ ∃ k, xs = [.bl k] ∧ Q (.int (if k then 1 else 0)) H) intD := by
  intro L C H xs ds z Q w i e q
  unfold intD at e
  split at e
  · cases e
    obtain ⟨x, rfl, hx⟩ := i.one
    obtain ⟨B, hd⟩ := w.dt hx
    exact .inl ⟨_, by rw [hd.int_inv], q _ _ (w.fact fun _ _ => .int _)⟩
  · cases e
    obtain ⟨x, rfl, hx⟩ := i.one
    obtain ⟨B, hd⟩ := w.dt hx
    exact .inr ⟨_, by rw [hd.bl_inv], q _ _ (w.fact fun _ _ => .int _)⟩
  · cases e
theorem cs_len : CallS G (fun xs H Q => ∃ x n, xs = [x] ∧ LenV G.K x H n ∧ Q (.int n) H) lenD := by
  intro L C H xs ds z Q w i e q
  unfold lenD at e
  split at e
  · cases e
    obtain ⟨x, rfl, hx⟩ := i.one
    obtain ⟨B, hd⟩ := w.dt hx
    obtain ⟨p, vs, rfl, hl, ha⟩ := Dt.lst_inv hd
    refine ⟨_, _, rfl, .inl ⟨vs, hl.sq, rfl⟩, ?_⟩
    rw [ha.len]
    exact q _ _ (w.fact fun _ _ => .int _)
  · cases e
    obtain ⟨x, rfl, hx⟩ := i.one
    obtain ⟨B, hd⟩ := w.dt hx
    obtain ⟨p, vs, rfl, hl, ha⟩ := Dt.tup_inv hd
    refine ⟨_, _, rfl, .inr ⟨vs, hl.sq, rfl⟩, ?_⟩
    rw [ha.len]
    exact q _ _ (w.fact fun _ _ => .int _)
  · split at e
    · next c =>
      cases e
      obtain ⟨x, rfl, hx⟩ := i.one
      obtain ⟨B, hd⟩ := w.dt hx
      refine ⟨_, _, rfl, by rw [hd.str_inv]; exact ⟨c, rfl⟩, q _ _ (w.fact fun _ _ => .int _)⟩
    · cases e
  · cases e
theorem cs_list : CallS G (fun xs H Q => ∃ p ys, xs = [.ref p] ∧ (SqL G.K H p ys ∨ SqT G.K H p ys) ∧ ∀ l, H l = none → Q (.ref l) (upd H l (.lst ys))) listD := by
  intro L C H xs ds z Q w i e q
  obtain ⟨B, wb⟩ := w
  unfold listD at e
  split at e
  · cases e
    obtain ⟨x, rfl, hx⟩ := i.one
    obtain ⟨p, vs, rfl, hl, ha⟩ := Dt.lst_inv (wb.ft _ hx)
    exact ⟨_, _, rfl, .inl hl.sq, fun r hr => q _ _ (wb.lstD hr ha)⟩
  · cases e
    obtain ⟨x, rfl, hx⟩ := i.one
    obtain ⟨p, vs, rfl, hl, ha⟩ := Dt.tup_inv (wb.ft _ hx)
    exact ⟨_, _, rfl, .inr hl.sq, fun r hr => q _ _ (wb.lstD hr ha)⟩
  · cases e
theorem cs_tuple : CallS G (fun xs H Q => ∃ p ys, xs = [.ref p] ∧ ((SqL G.K H p ys ∧ ∀ l, H l = none → Q (.ref l) (upd H l (.tup ys))) ∨ (SqT G.K H p ys ∧ Q (.ref p) H))) tupleD := by
  intro L C H xs ds z Q w i e q
  obtain ⟨B, wb⟩ := w
  unfold tupleD at e
  split at e
  · cases e
    obtain ⟨x, rfl, hx⟩ := i.one
    obtain ⟨p, vs, rfl, hl, ha⟩ := Dt.lst_inv (wb.ft _ hx)
    exact ⟨_, _, rfl, .inl ⟨hl.sq, fun r hr => q _ _ (wb.tupD hr ha)⟩⟩
  · cases e
    obtain ⟨x, rfl, hx⟩ := i.one
    have hd := wb.ft _ hx
    obtain ⟨p, vs, rfl, hl, ha⟩ := Dt.tup_inv hd
    exact ⟨_, _, rfl, .inr ⟨hl.sq, q _ _ ⟨B, wb.fact hd⟩⟩⟩
  · cases e
theorem intsD_map : ∀ {ds : List D} {ns : List Int}, intsD ds = some ns → ds = ns.map .int
  | [], _, h => by cases h; rfl
  | d :: ds, ns, h => by
    cases d <;> simp only [intsD] at h <;> (try cases h)
    rename_i i
    cases e : intsD ds with
    | none => rw [e] at h; cases h
    | some r => rw [e] at h; cases h; rw [intsD_map e]; rfl
theorem DtAll.ints_inv {K : PySem.W.Frag} {B : Addr → Prop} {H : Hp} : ∀ {ns : List Int} {vs : List V}, DtAll K B H vs (ns.map PyData.int) → vs = ns.map V.int
  | [], _, h => by cases h; rfl
  | n :: ns, _, h => by
    cases h with
    | cons a b => rw [a.int_inv, DtAll.ints_inv b]; rfl
theorem ev_bits (h : EV G te σ L C E) : EV G (tBits te) σ L C (op1 bitsD E) := by
  refine ev_un (r := fun x H Q => ∃ i, x = .int i ∧ Q (.int (Builtin.Int.intBits i : Nat)) H) ?_ h
  intro L C H x d z Q w hx hf q
  obtain ⟨B, h1⟩ := w.dt hx
  cases d <;> simp only [bitsD] at hf <;> (try cases hf)
  exact ⟨_, h1.int_inv, q _ _ (w.fact fun _ _ => .int _)⟩
theorem rg_dt {K : PySem.W.Frag} {B : Addr → Prop} {H : Hp} (a : Int) : ∀ (l : List Nat), DtAll K B H (l.map fun i => V.int (a + (i : Nat))) (l.map fun i => PyData.int (a + (i : Nat)))
  | [] => .nil
  | n :: r => .cons (.int _) (rg_dt a r)
theorem ev_lrg2 (h1 : EV G ta σ L C E1) (h2 : EV G tb σ L C E2) : EV G (tLstRg (tRg2 ta tb)) σ L C (opL lrg (ac E1 (ac E2 a0))) := by
  intro m F L' H Q s w q b
  refine h1 m F L' H _ s w (fun x m1 v H1 e1 w1 => ?_) b.fst.fst
  have b1 := b.fst.snd e1
  refine h2 m1 F ((v, x) :: L') H1 _ (fun f hf => .tail _ (s f hf)) w1 (fun y m2 u H2 e2 w2 => ?_) (b1.fst.fst.mono fun f hf => .tail _ hf)
  have er : ac E1 (ac E2 a0) m = .ok [x, y] m2 := by
    show bd E1 _ m = _
    rw [bd_ok e1]
    have e3 : ac E2 a0 m1 = .ok [y] m2 := by
      show bd E2 _ m1 = _
      rw [bd_ok e2]; rfl
    rw [bd_ok e3]; rfl
  have b2 := b.snd er
  obtain ⟨B, wb⟩ := w2
  cases x with
  | int n =>
    cases y with
    | int k =>
      simp only [lrg] at b2
      split at b2
      · next c =>
        refine ⟨n, k, (wb.ft _ (.tail _ (.head _))).int_inv, (wb.ft _ (.head _)).int_inv, c, fun r hr => q (rgD n k) m2 _ _ ?_ ?_⟩
        · show bd (ac E1 (ac E2 a0)) _ m = _
          rw [bd_ok er]
          simp only [lrg]; rw [if_pos c]; rfl
        · refine (wb.lstD hr (rg_dt n (List.range (k - n).toNat))).sub fun f hf => ?_
          rcases List.mem_cons.mp hf with e | e
          · rw [e]; exact .head _
          · exact .tail _ (.tail _ (.tail _ e))
      · exact absurd rfl b2.2
    | _ => exact absurd rfl b2.2
  | _ => exact absurd rfl b2.2
end
inductive Fl (τ ρ : Type) where
  | nx (s : τ)
  | rt (d : D)
  | bk (s : ρ)
  | ct (s : ρ)
/-- what the slots, the facts and the roots are like, by the names' data -/
abbrev Shp (μ τ : Type) := τ → St → List (V × D) → (μ → List Root) → Prop
namespace SM
variable {μ τ ρ ρ' : Type}
def sq (R : SM μ (Fl τ ρ)) (k : τ → SM μ (Fl ρ' ρ)) : SM μ (Fl ρ' ρ) := bd R fun o => match o with
  | .nx s => k s
  | .rt d => pu (.rt d)
  | .bk s => pu (.bk s)
  | .ct s => pu (.ct s)
def forS : List D → τ → (D → τ → SM μ (Fl τ τ)) → SM μ (Fl τ ρ)
  | [], s, _ => pu (.nx s)
  | x :: xs, s, b => bd (b x s) fun o => match o with
    | .nx s' => forS xs s' b
    | .ct s' => forS xs s' b
    | .bk s' => pu (.nx s')
    | .rt d => pu (.rt d)
def lcS (T : D → SM μ Bool) (E : D → SM μ D) : List D → List D → SM μ (List D)
  | [], acc => pu acc
  | x :: xs, acc => bd (T x) fun c => if c then bd (E x) fun y => if acc.length < sizeLine then lcS T E xs (acc ++ [y]) else bad else lcS T E xs acc
def unp2 {β : Type} (d : D) (k : D → D → SM μ β) : SM μ β := match d with
  | .tuple [a, b] => k a b
  | _ => bad
def unp3 {β : Type} (d : D) (k : D → D → D → SM μ β) : SM μ β := match d with
  | .tuple [a, b, c] => k a b c
  | _ => bad
def unp4 {β : Type} (d : D) (k : D → D → D → D → SM μ β) : SM μ β := match d with
  | .tuple [a, b, c, e] => k a b c e
  | _ => bad
def par2 {β : Type} (ds : List D) (k : D → D → SM μ β) : SM μ β := match ds with
  | [a, b] => k a b
  | _ => bad
def appD : D → D → Option D
  | .list ds, x => if ds.length < sizeLine then some (.list (ds ++ [x])) else none
  | _, _ => none
def extD : D → D → Option D
  | .list ds, .list es => if ds.length + es.length ≤ sizeLine then some (.list (ds ++ es)) else none
  | _, _ => none
def setD : D → D → D → Option D
  | .list ds, .int i, x => match ixN ds.length i with
    | some j => some (.list (ds.set j x))
    | none => none
  | _, _, _ => none
def gets : SM μ μ := fun m => .ok m m
def puts (m : μ) : SM μ Unit := fun _ => .ok () m
/-- what a def comes to: its return, or None behind its last statement -/
def fin {ρ : Type} (R : SM μ (Fl Unit ρ)) : SM μ D := bd R fun o => match o with
  | .rt d => pu d
  | .nx _ => pu .none
  | _ => bad
end SM
section
variable {μ τ ρ : Type} (G : Gx)
def SV (Cp : μ → List Root) (ts : TS) (σ : St) (L : List (V × D)) (C : μ → List Root) (R : SM μ (Fl τ ρ)) (Jn : Shp μ τ) (Jl : Shp μ ρ) : Prop :=
  ∀ m F L' H (d : Ends), (∀ f ∈ L, f ∈ L') → Wd G.K G.O L' (C m ++ F) H →
    (∀ s m' σ' L2 C2 H', R m = .ok (.nx s) m' → Jn s σ' L2 C2 → Wd G.K G.O (L2 ++ L') (C2 m' ++ F) H' → d.nx σ' H') →
    (∀ s m' σ' L2 C2 H', R m = .ok (.bk s) m' → Jl s σ' L2 C2 → Wd G.K G.O (L2 ++ L') (C2 m' ++ F) H' → d.bk σ' H') →
    (∀ s m' σ' L2 C2 H', R m = .ok (.ct s) m' → Jl s σ' L2 C2 → Wd G.K G.O (L2 ++ L') (C2 m' ++ F) H' → d.ct σ' H') →
    (∀ x m' v H' L1 C1, R m = .ok (.rt x) m' → G.rf v x L1 C1 → Wd G.K G.O (L1 ++ L') (C1 ++ (Cp m' ++ F)) H' → d.rt v H') →
    Bk G Cp F L' (R m) → ts d σ H
/-- an iterator that gives these data -/
def ItOk (J : It) (xs : List D) (L0 : List (V × D)) : Prop := ∀ L C H, (∀ f ∈ L0, f ∈ L) → Wd G.K G.O L C H → ∀ i : Nat,
  (∀ x, xs[i]? = some x → J.go i H ∧ ∀ v H', J.yld i H v H' → Wd G.K G.O ((v, x) :: L) C H') ∧ (xs.length ≤ i → J.stop i H)
def IV (wi : TI) (σ : St) (L : List (V × D)) (C : μ → List Root) (E : SM μ (List D)) : Prop :=
  ∀ m F L' H (R : It → Hp → Prop), (∀ f ∈ L, f ∈ L') → Wd G.K G.O L' (C m ++ F) H →
    (∀ xs m' J H' L2, E m = .ok xs m' → (∀ f ∈ L', f ∈ L2) → Wd G.K G.O L2 (C m' ++ F) H' → ItOk G J xs L2 → R J H') → Bk G C F L' (E m) → wi σ H R
end
section
open SM
variable {X : Cx} {μ τ τ' ρ : Type} {G : Gx} {σ : St} {L : List (V × D)} {C Cp : μ → List Root} {te ta tb tc : TE} {tt tu : TT} {t u : TS} {E E1 E2 E3 : SM μ D} {T T1 T2 : SM μ Bool} {Jn : Shp μ τ} {Jl : Shp μ ρ} {i j : Nat}
theorem fps_sub {H : Hp} : ∀ {C C' : List Root}, C'.Sublist C → (fps C' H).Sublist (fps C H)
  | _, _, .slnil => .slnil
  | _, _, .cons a h => by rw [fps_cons]; exact (fps_sub h).trans (List.sublist_append_right _ _)
  | _, _, .cons₂ a h => by rw [fps_cons, fps_cons]; exact (List.Sublist.refl _).append (fps_sub h)
theorem Wd.subC {K : PySem.W.Frag} {O : Og} {L : List (V × D)} {C C' : List Root} {H : Hp} (w : Wd K O L C H) (h : C'.Sublist C) : Wd K O L C' H := by
  obtain ⟨B, w⟩ := w
  have hs : (fps C' H).Sublist (fps C H) := fps_sub h
  exact ⟨B, w.lo, w.hi, hs.nodup w.nd, fun p hp => w.nb p (hs.mem hp), fun p hp => w.fr p (hs.mem hp), fun c hc => w.rt c (h.mem hc), w.ft, w.kp, w.oc, w.bo⟩
theorem Bk.subC {α : Type} {F : List Root} {r : Rs μ α} (h : ∀ m, (Cp m).Sublist (C m)) (b : Bk G Cp F L r) : Bk G C F L r := ⟨fun e m' cls d H' q w => b.1 e m' cls d H' q (w.subC (((h m').append_right F).cons₂ _)), b.2⟩
/-- how a def's own roots lie among all -/
abbrev Sub (Cp C : μ → List Root) : Prop := ∀ m, (Cp m).Sublist (C m)
theorem sv_ret (hc : Sub Cp C) (h : EV G te σ L C E) (hf : G.rf = rfF := by rfl) : SV G Cp (tSeq (tRet te) u) σ L C (bd E fun x => pu (.rt x)) Jn Jl := by
  intro m F L' H d s w _ _ _ q b
  refine h m F L' H _ s w (fun x m1 v H1 e1 w1 => q x m1 v H1 [(v, x)] [] ?_ (by rw [hf]; exact ⟨rfl, rfl⟩) (w1.subC ((hc m1).append_right F))) (b.fst.subC hc)
  rw [bd_ok e1]; rfl
theorem sv_nil {s : τ} {L2 : List (V × D)} (hj : Jn s σ L2 C) (hl : ∀ f ∈ L2, f ∈ L) : SV G Cp tNext σ L C (pu (.nx s)) Jn Jl := by
  intro m F L' H d s' w q _ _ _ b
  refine q s m σ L2 C H rfl hj (w.sub fun f hf => ?_)
  rcases List.mem_append.mp hf with e | e
  · exact s' f (hl f e)
  · exact e
theorem sv_assoc {t1 t2 : TS} {R : SM μ (Fl τ ρ)} (h : SV G Cp (tSeq t1 (tSeq t2 u)) σ L C R Jn Jl) : SV G Cp (tSeq (tSeq t1 t2) u) σ L C R Jn Jl := h
theorem sv_skip {R : SM μ (Fl τ ρ)} (h : SV G Cp u σ L C R Jn Jl) : SV G Cp (tSeq tNext u) σ L C R Jn Jl := h
/-- a statement, then the rest, by the shape between -/
theorem sv_seq {R : SM μ (Fl τ' ρ)} {k : τ' → SM μ (Fl τ ρ)} {J1 : Shp μ τ'} (h1 : SV G Cp t σ L C R J1 Jl) (h2 : ∀ s σ' L2 C2, J1 s σ' L2 C2 → SV G Cp u σ' (L2 ++ L) C2 (k s) Jn Jl) : SV G Cp (tSeq t u) σ L C (sq R k) Jn Jl := by
  intro m F L' H d s w q1 q2 q3 q4 b
  refine h1 m F L' H { d with nx := u d } s w ?_ ?_ ?_ ?_ ?_
  · intro z m1 σ1 L2 C2 H1 e1 j1 w1
    have er : sq R k m = k z m1 := bd_ok e1
    rw [er] at b
    refine h2 z σ1 L2 C2 j1 m1 F (L2 ++ L') H1 d (fun f hf => ?_) w1 ?_ ?_ ?_ ?_ (b.mono fun f hf => List.mem_append.mpr (.inr hf))
    · rcases List.mem_append.mp hf with e | e
      · exact List.mem_append.mpr (.inl e)
      · exact List.mem_append.mpr (.inr (s f e))
    · intro z2 m2 σ2 L3 C3 H2 e2 j2 w2
      exact q1 z2 m2 σ2 L3 C3 H2 (er.trans e2) j2 (w2.sub fun f hf => by
        rcases List.mem_append.mp hf with e | e
        · exact List.mem_append.mpr (.inl e)
        · exact List.mem_append.mpr (.inr (List.mem_append.mpr (.inr e))))
    · intro z2 m2 σ2 L3 C3 H2 e2 j2 w2
      exact q2 z2 m2 σ2 L3 C3 H2 (er.trans e2) j2 (w2.sub fun f hf => by
        rcases List.mem_append.mp hf with e | e
        · exact List.mem_append.mpr (.inl e)
        · exact List.mem_append.mpr (.inr (List.mem_append.mpr (.inr e))))
    · intro z2 m2 σ2 L3 C3 H2 e2 j2 w2
      exact q3 z2 m2 σ2 L3 C3 H2 (er.trans e2) j2 (w2.sub fun f hf => by
        rcases List.mem_append.mp hf with e | e
        · exact List.mem_append.mpr (.inl e)
        · exact List.mem_append.mpr (.inr (List.mem_append.mpr (.inr e))))
    · intro x m2 v H2 L4 C4 e2 r2 w2
      exact q4 x m2 v H2 L4 C4 (er.trans e2) r2 (w2.sub fun f hf => by
        rcases List.mem_append.mp hf with e | e
        · exact List.mem_append.mpr (.inl e)
        · exact List.mem_append.mpr (.inr (List.mem_append.mpr (.inr e))))
  · intro z m1 σ1 L2 C2 H1 e1 j1 w1
    exact q2 z m1 σ1 L2 C2 H1 (bd_ok e1) j1 w1
  · intro z m1 σ1 L2 C2 H1 e1 j1 w1
    exact q3 z m1 σ1 L2 C2 H1 (bd_ok e1) j1 w1
  · intro x m1 v H1 L4 C4 e1 r1 w1
    exact q4 x m1 v H1 L4 C4 (bd_ok e1) r1 w1
  · exact b.fst
/-- more facts -/
theorem SV.sub {R : SM μ (Fl τ ρ)} {L0 : List (V × D)} (h : SV G Cp t σ L0 C R Jn Jl) (s : ∀ f ∈ L0, f ∈ L) : SV G Cp t σ L C R Jn Jl := by
  intro m F L' H d s' w q1 q2 q3 q4 b
  exact h m F L' H d (fun f hf => s' f (s f hf)) w q1 q2 q3 q4 b
/-- what is done first, then what follows -/
theorem sv_bd {α : Type} {x : SM μ α} {k : α → SM μ (Fl τ ρ)} (hc : Sub Cp C)
    (h1 : ∀ m F L' H (d : Ends), (∀ f ∈ L, f ∈ L') → Wd G.K G.O L' (C m ++ F) H →
      (∀ a m' σ' L2 C2 H', x m = .ok a m' → Wd G.K G.O (L2 ++ L') (C2 m' ++ F) H' → SV G Cp u σ' (L2 ++ L) C2 (k a) Jn Jl → u d σ' H') → Bk G C F L' (x m) → t { d with nx := u d } σ H) :
    SV G Cp (tSeq t u) σ L C (bd x k) Jn Jl := by
  intro m F L' H d s w q1 q2 q3 q4 b
  refine h1 m F L' H d s w (fun a m' σ' L2 C2 H' e1 w1 h2 => ?_) (b.fst.subC hc)
  have er : bd x k m = k a m' := bd_ok e1
  rw [er] at b
  have sb : ∀ {L3 : List (V × D)} {C3 : List Root} {H3 : Hp}, Wd G.K G.O (L3 ++ (L2 ++ L')) C3 H3 → Wd G.K G.O (L3 ++ L') C3 H3 := fun {L3 C3 H3} w3 => w3.sub fun f hf => by
    rcases List.mem_append.mp hf with e | e
    · exact List.mem_append.mpr (.inl e)
    · exact List.mem_append.mpr (.inr (List.mem_append.mpr (.inr e)))
  refine h2 m' F (L2 ++ L') H' d (fun f hf => ?_) w1 (fun z2 m2 σ2 L3 C3 H2 e2 j2 w2 => q1 z2 m2 σ2 L3 C3 H2 (er.trans e2) j2 (sb w2)) (fun z2 m2 σ2 L3 C3 H2 e2 j2 w2 => q2 z2 m2 σ2 L3 C3 H2 (er.trans e2) j2 (sb w2))
    (fun z2 m2 σ2 L3 C3 H2 e2 j2 w2 => q3 z2 m2 σ2 L3 C3 H2 (er.trans e2) j2 (sb w2)) (fun x m2 v H2 L4 C4 e2 r2 w2 => q4 x m2 v H2 L4 C4 (er.trans e2) r2 (sb w2)) (b.mono fun f hf => List.mem_append.mpr (.inr hf))
  rcases List.mem_append.mp hf with e | e
  · exact List.mem_append.mpr (.inl e)
  · exact List.mem_append.mpr (.inr (s f e))
theorem sv_asg {σ' : V → St} {k : D → SM μ (Fl τ ρ)} (hc : Sub Cp C) (h : EV G te σ L C E) (hσ : ∀ v, σ.set i (some v) = σ' v) (hk : ∀ v x, SV G Cp u (σ' v) ((v, x) :: L) C (k x) Jn Jl) : SV G Cp (tSeq (tAsg te (gName i)) u) σ L C (bd E k) Jn Jl :=
  sv_bd hc fun m F L' H d s w q b => h m F L' H _ s w (fun x m1 v H1 e1 w1 => by
    show u d (σ.set i (some v)) H1
    rw [hσ v]
    exact q x m1 (σ' v) [(v, x)] C H1 e1 w1 (hk v x)) b
theorem sv_expr {k : SM μ (Fl τ ρ)} (hc : Sub Cp C) (h : EV G te σ L C E) (hk : SV G Cp u σ L C k Jn Jl) : SV G Cp (tSeq (tDrop te) u) σ L C (bd E fun _ => k) Jn Jl :=
  sv_bd hc fun m F L' H d s w q b => h m F L' H _ s w (fun x m1 v H1 e1 w1 => q x m1 σ [] C H1 e1 (w1.sub fun f hf => .tail _ hf) hk) b
theorem sv_aug {σ' : V → St} {k : D → SM μ (Fl τ ρ)} {r : TIp} {f : D → D → Option D} {v0 : V} {d0 : D} (hc : Sub Cp C) (hf : OpS G r f) (hv : σ[i]? = some (some v0)) (hm : (v0, d0) ∈ L) (h : EV G te σ L C E) (hσ : ∀ v, σ.set i (some v) = σ' v)
    (hk : ∀ v x, SV G Cp u (σ' v) ((v, x) :: L) C (k x) Jn Jl) : SV G Cp (tSeq (tAug i te r) u) σ L C (bd (op2 f (pu d0) E) k) Jn Jl :=
  sv_bd hc fun m F L' H d s w q b => by
    refine ⟨v0, hv, h m F L' H _ s w (fun x m1 v H1 e1 w1 => ?_) (b.snd rfl : Bk G C F L' (bd E (fun y => of (f d0 y)) m)).fst⟩
    have b1 := (b.snd rfl : Bk G C F L' (bd E (fun y => of (f d0 y)) m)).snd e1
    cases ef : f d0 x with
    | none => rw [ef] at b1; exact absurd rfl b1.2
    | some z =>
      refine hf _ _ H1 v0 v d0 x z _ w1 (.tail _ (s _ hm)) (.head _) ef fun v' H' w' => ?_
      show u d (σ.set i (some v')) H'
      rw [hσ v']
      refine q z m1 (σ' v') [(v', z)] C H' ?_ (w'.sub fun f hf => ?_) (hk v' z)
      · show bd (pu d0) _ m = _
        rw [pu_bd, bd_ok e1, ef]; rfl
      · rcases List.mem_cons.mp hf with e | e
        · rw [e]; exact .head _
        · exact .tail _ (.tail _ e)
/-- a, b = x, y -/
theorem sv_par2 {ta : TA} {Es : SM μ (List D)} {σ' : V → V → St} {k : D → D → SM μ (Fl τ ρ)} (hc : Sub Cp C) (h : AV G ta σ L C Es) (hσ : ∀ v w, (σ.set i (some v)).set j (some w) = σ' v w) (hk : ∀ v w x y, SV G Cp u (σ' v w) ((v, x) :: (w, y) :: L) C (k x y) Jn Jl) :
    SV G Cp (tSeq (tPar i j ta) u) σ L C (bd Es fun t => par2 t k) Jn Jl := by
  have e0 : (bd Es fun t => par2 t k) = bd (bd Es fun t => par2 t fun a b => pu (a, b)) fun p => k p.1 p.2 := by
    rw [bd_assoc]
    congr 1; funext t; unfold par2; split <;> rfl
  rw [e0]
  refine sv_bd hc fun m F L' H d s w q b => h m F L' H _ s w (fun xs m1 vs H1 L2 e1 s2 i2 w1 => ?_) b.fst
  have b1 := b.snd e1
  unfold par2 at b1
  split at b1
  · next a c =>
    obtain ⟨x, y, rfl, hx, hy⟩ := i2.two
    refine ⟨x, y, rfl, ?_⟩
    show u d ((σ.set i (some x)).set j (some y)) H1
    rw [hσ]
    refine q (a, c) m1 (σ' x y) [(x, a), (y, c)] C H1 ?_ (w1.sub fun f hf => ?_) (hk x y a c)
    · show bd Es _ m = _
      rw [bd_ok e1]; rfl
    · rcases List.mem_cons.mp hf with e | hf
      · subst e; exact hx
      · rcases List.mem_cons.mp hf with e | hf
        · subst e; exact hy
        · exact s2 f hf
  · exact absurd rfl b1.2
theorem sv_if {A B : SM μ (Fl τ ρ)} {t1 t2 : TS} (hc : Sub Cp C) (h : TV G tt σ L C T) (h1 : SV G Cp (tSeq t1 u) σ L C A Jn Jl) (h2 : SV G Cp (tSeq t2 u) σ L C B Jn Jl) : SV G Cp (tSeq (tIfS tt t1 t2) u) σ L C (bd T fun c => if c then A else B) Jn Jl :=
  fun m F L' H d s w q1 q2 q3 q4 b => h m F L' H _ s w (fun c m1 H1 e1 w1 => by
    have er : bd T (fun c => if c then A else B) m = (if c then A else B) m1 := bd_ok e1
    rw [er] at b
    cases c with
    | true =>
      exact h1 m1 F L' H1 d s w1 (fun z2 m2 σ2 L3 C3 H2 e2 j2 w2 => q1 z2 m2 σ2 L3 C3 H2 (er.trans e2) j2 w2) (fun z2 m2 σ2 L3 C3 H2 e2 j2 w2 => q2 z2 m2 σ2 L3 C3 H2 (er.trans e2) j2 w2)
        (fun z2 m2 σ2 L3 C3 H2 e2 j2 w2 => q3 z2 m2 σ2 L3 C3 H2 (er.trans e2) j2 w2) (fun x m2 v H2 L4 C4 e2 r2 w2 => q4 x m2 v H2 L4 C4 (er.trans e2) r2 w2) b
    | false =>
      exact h2 m1 F L' H1 d s w1 (fun z2 m2 σ2 L3 C3 H2 e2 j2 w2 => q1 z2 m2 σ2 L3 C3 H2 (er.trans e2) j2 w2) (fun z2 m2 σ2 L3 C3 H2 e2 j2 w2 => q2 z2 m2 σ2 L3 C3 H2 (er.trans e2) j2 w2)
        (fun z2 m2 σ2 L3 C3 H2 e2 j2 w2 => q3 z2 m2 σ2 L3 C3 H2 (er.trans e2) j2 w2) (fun x m2 v H2 L4 C4 e2 r2 w2 => q4 x m2 v H2 L4 C4 (er.trans e2) r2 w2) b) (b.fst.subC hc)
/-- the same, without what follows -/
theorem sv_if1 {A B : SM μ (Fl τ ρ)} {t1 t2 : TS} (hc : Sub Cp C) (h : TV G tt σ L C T) (h1 : SV G Cp t1 σ L C A Jn Jl) (h2 : SV G Cp t2 σ L C B Jn Jl) : SV G Cp (tIfS tt t1 t2) σ L C (bd T fun c => if c then A else B) Jn Jl :=
  fun m F L' H d s w q1 q2 q3 q4 b => h m F L' H _ s w (fun c m1 H1 e1 w1 => by
    have er : bd T (fun c => if c then A else B) m = (if c then A else B) m1 := bd_ok e1
    rw [er] at b
    cases c with
    | true =>
      exact h1 m1 F L' H1 d s w1 (fun z2 m2 σ2 L3 C3 H2 e2 j2 w2 => q1 z2 m2 σ2 L3 C3 H2 (er.trans e2) j2 w2) (fun z2 m2 σ2 L3 C3 H2 e2 j2 w2 => q2 z2 m2 σ2 L3 C3 H2 (er.trans e2) j2 w2)
        (fun z2 m2 σ2 L3 C3 H2 e2 j2 w2 => q3 z2 m2 σ2 L3 C3 H2 (er.trans e2) j2 w2) (fun x m2 v H2 L4 C4 e2 r2 w2 => q4 x m2 v H2 L4 C4 (er.trans e2) r2 w2) b
    | false =>
      exact h2 m1 F L' H1 d s w1 (fun z2 m2 σ2 L3 C3 H2 e2 j2 w2 => q1 z2 m2 σ2 L3 C3 H2 (er.trans e2) j2 w2) (fun z2 m2 σ2 L3 C3 H2 e2 j2 w2 => q2 z2 m2 σ2 L3 C3 H2 (er.trans e2) j2 w2)
        (fun z2 m2 σ2 L3 C3 H2 e2 j2 w2 => q3 z2 m2 σ2 L3 C3 H2 (er.trans e2) j2 w2) (fun x m2 v H2 L4 C4 e2 r2 w2 => q4 x m2 v H2 L4 C4 (er.trans e2) r2 w2) b) (b.fst.subC hc)
end
section
open PySem.Spec PyProof.Rows SM
variable {X : Cx} {tg : Expr}
def iSeq (K : PySem.W.Frag) (tl : TE) : TI := fun σ H R => tl σ H fun x H1 => ∃ a, x = .ref a ∧ (((∃ xs, SqL K H1 a xs) ∧ R (Itl K a) H1) ∨ ((∃ xs, SqT K H1 a xs) ∧ R (Itt K a) H1))
theorem pi_seq {l : Expr} {tl : TE} (hl : PE X l tl) : PI X tg l (iSeq X.K tl) := by
  refine ⟨fun pins s σ H R I h => ?_⟩
  refine thn (hl.run pins s σ H _ I h) fun v s1 ⟨x, H1, I1, r1, q1⟩ => ?_
  obtain ⟨a, e, q1⟩ := q1
  subst e
  cases r1
  rcases q1 with ⟨⟨xs, hq⟩, q⟩ | ⟨⟨xs, hq⟩, q⟩
  · obtain ⟨its, rv, p, hz⟩ := I1.list hq
    refine wpAny_pyIter_list p.isList ?_
    refine ⟨s1.heap.objs.size, [s1.heap.objs.size], _, _, H1, rfl, I1.kept (t' := s1.toks) fun b o e => Heap.get?_push_of_some _ e, turn_list a _, ⟨_, Heap.get?_push_size _ rfl, rfl, rfl⟩, fun b hb => ?_, q⟩
    have e : b = s1.heap.objs.size := by simpa using hb
    subst e
    exact I1.fpOk (Nat.le_refl _) (I1.hok.fresh (Nat.le_refl _))
  · obtain ⟨its, rv, p, hz⟩ := I1.tuple hq
    refine wpAny_pyIter_tuple (show s1.heap.IsTuple a its.toArray from p) ?_
    refine ⟨s1.heap.objs.size, [s1.heap.objs.size], _, _, H1, rfl, I1.kept (t' := s1.toks) fun b o e => Heap.get?_push_of_some _ e, turn_tuple a _, ⟨_, Heap.get?_push_size _ rfl, rfl, rfl⟩, fun b hb => ?_, q⟩
    have e : b = s1.heap.objs.size := by simpa using hb
    subst e
    exact I1.fpOk (Nat.le_refl _) (I1.hok.fresh (Nat.le_refl _))
end
namespace SM
variable {μ : Type}
def itS (E : SM μ D) : SM μ (List D) := bd E fun d => of (seqD d)
def rgL (a b : Int) : List D := (List.range (b - a).toNat).map fun i => .int (a + (i : Nat))
def rngD : List D → Option (List D)
  | [.int b] => if -(2 ^ 62) ≤ b ∧ b < 2 ^ 62 then some (rgL 0 b) else none
  | [.int a, .int b] => if -(2 ^ 62) ≤ a ∧ a < 2 ^ 62 ∧ -(2 ^ 62) ≤ b ∧ b < 2 ^ 62 then some (rgL a b) else none
  | _ => none
def itR (Es : SM μ (List D)) : SM μ (List D) := bd Es fun ds => of (rngD ds)
def lc (I : SM μ (List D)) (T : D → SM μ Bool) (E : D → SM μ D) : SM μ D := bd I fun xs => bd (lcS T E xs []) fun ys => pu (.list ys)
end SM
section
open SM
variable {X : Cx} {μ τ τ' ρ : Type} {G : Gx} {σ : St} {L : List (V × D)} {C Cp : μ → List Root} {te ta tb tc : TE} {tt tu : TT} {t u : TS} {E E1 E2 E3 : SM μ D} {T T1 T2 : SM μ Bool} {Jn : Shp μ τ} {Jl : Shp μ ρ} {i j : Nat}
theorem itok_lst {a : Addr} {xs : List D} {L0 : List (V × D)} (h : (V.ref a, PyData.list xs) ∈ L0) : ItOk G (Itl G.K a) xs L0 := by
  intro L C H s w i
  obtain ⟨B, wb⟩ := w
  obtain ⟨p, vs, e, hl, ha⟩ := Dt.lst_inv (wb.ft _ (s _ h))
  cases e
  refine ⟨fun x hx => ?_, fun hi => ⟨vs, hl.sq, by rw [ha.len]; exact hi⟩⟩
  obtain ⟨v, hv, hd⟩ := ha.get hx
  refine ⟨⟨vs, v, hl.sq, hv⟩, fun u H' y => ?_⟩
  obtain ⟨e, y⟩ := y
  subst e
  have := y vs hl.sq
  rw [hv] at this
  cases this
  exact ⟨B, wb.fact hd⟩
theorem itok_tup {a : Addr} {xs : List D} {L0 : List (V × D)} (h : (V.ref a, PyData.tuple xs) ∈ L0) : ItOk G (Itt G.K a) xs L0 := by
  intro L C H s w i
  obtain ⟨B, wb⟩ := w
  obtain ⟨p, vs, e, hl, ha⟩ := Dt.tup_inv (wb.ft _ (s _ h))
  cases e
  refine ⟨fun x hx => ?_, fun hi => ⟨vs, hl.sq, by rw [ha.len]; exact hi⟩⟩
  obtain ⟨v, hv, hd⟩ := ha.get hx
  refine ⟨⟨vs, v, hl.sq, hv⟩, fun u H' y => ?_⟩
  obtain ⟨e, y⟩ := y
  subst e
  have := y vs hl.sq
  rw [hv] at this
  cases this
  exact ⟨B, wb.fact hd⟩
theorem iv_seq (h : EV G te σ L C E) : IV G (iSeq G.K te) σ L C (itS E) := by
  intro m F L' H R s w q b
  refine h m F L' H _ s w (fun x m1 v H1 e1 w1 => ?_) b.fst
  have b1 := b.snd e1
  have fin : ∀ {xs : List D}, seqD x = some xs → itS E m = .ok xs m1 := fun {xs} e => by
    show bd E _ m = _
    rw [bd_ok e1, e]; rfl
  obtain ⟨B, wb⟩ := w1
  cases x with
  | list xs =>
    obtain ⟨p, vs, rfl, hl, ha⟩ := Dt.lst_inv (wb.ft _ (.head _))
    exact ⟨p, rfl, .inl ⟨⟨vs, hl.sq⟩, q xs m1 _ H1 _ (fin rfl) (fun f hf => .tail _ hf) ⟨B, wb⟩ (itok_lst (.head _))⟩⟩
  | tuple xs =>
    obtain ⟨p, vs, rfl, hl, ha⟩ := Dt.tup_inv (wb.ft _ (.head _))
    exact ⟨p, rfl, .inr ⟨⟨vs, hl.sq⟩, q xs m1 _ H1 _ (fin rfl) (fun f hf => .tail _ hf) ⟨B, wb⟩ (itok_tup (.head _))⟩⟩
  | _ => exact absurd rfl b1.2
theorem rgL_get {a b : Int} {i : Nat} {x : D} (h : (rgL a b)[i]? = some x) : i < (b - a).toNat ∧ x = .int (a + i) := by
  unfold rgL at h
  rw [List.getElem?_map] at h
  cases e : (List.range (b - a).toNat)[i]? with
  | none => rw [e] at h; cases h
  | some k =>
    rw [e] at h
    cases h
    rw [List.getElem?_eq_some_iff] at e
    obtain ⟨h1, h2⟩ := e
    rw [List.getElem_range] at h2
    rw [List.length_range] at h1
    exact ⟨h1, by rw [h2]⟩
theorem itok_rng {a b : Int} {L0 : List (V × D)} : ItOk G (Itr a (b - a).toNat) (rgL a b) L0 := by
  intro L C H s w i
  refine ⟨fun x hx => ?_, fun hi => ?_⟩
  · obtain ⟨h1, rfl⟩ := rgL_get hx
    refine ⟨h1, fun u H' y => ?_⟩
    obtain ⟨e, y⟩ := y
    subst e y
    exact w.fact fun _ _ => .int _
  · unfold rgL at hi
    rw [List.length_map, List.length_range] at hi
    exact hi
theorem iv_rng1 {ta : TA} {E : SM μ D} (h : AV G ta σ L C (ac E a0)) : IV G (iRng1 ta) σ L C (itR (ac E a0)) := by
  intro m F L' H R s w q b
  refine h m F L' H _ s w (fun xs m1 vs H1 L2 e1 s2 i2 w1 => ?_) b.fst
  have b1 := b.snd e1
  have hx : ∃ x, xs = [x] := by
    unfold ac at e1
    cases eE : E m with
    | ok x m' => rw [bd_ok eE] at e1; cases e1; exact ⟨x, rfl⟩
    | exc x m' => rw [bd_exc eE] at e1; cases e1
    | bad => rw [bd_bad eE] at e1; cases e1
  obtain ⟨x, rfl⟩ := hx
  cases x with
  | int n =>
    simp only [rngD] at b1
    split at b1
    · next c =>
      obtain ⟨v, rfl, hv⟩ := i2.one
      obtain ⟨B, hd⟩ := w1.dt hv
      rw [hd.int_inv]
      refine ⟨n, rfl, c.1, c.2, ?_⟩
      have hi : ItOk G (Itr 0 n.toNat) (rgL 0 n) L2 := by
        have := itok_rng (G := G) (a := 0) (b := n) (L0 := L2)
        rw [Int.sub_zero] at this
        exact this
      refine q (rgL 0 n) m1 _ H1 L2 ?_ s2 w1 hi
      show bd (ac E a0) _ m = _
      rw [bd_ok e1]
      simp only [rngD]; rw [if_pos c]; rfl
    · exact absurd rfl b1.2
  | _ => exact absurd rfl b1.2
theorem iv_rng2 {ta : TA} {E E' : SM μ D} (h : AV G ta σ L C (ac E (ac E' a0))) : IV G (iRng2 ta) σ L C (itR (ac E (ac E' a0))) := by
  intro m F L' H R s w q b
  refine h m F L' H _ s w (fun xs m1 vs H1 L2 e1 s2 i2 w1 => ?_) b.fst
  have b1 := b.snd e1
  have hx : ∃ x y, xs = [x, y] := by
    unfold ac at e1
    cases eE : E m with
    | ok x m' =>
      rw [bd_ok eE] at e1
      cases eE' : E' m' with
      | ok y m2 =>
        have e3 : (bd E' fun x => bd (a0 : SM μ (List D)) fun xs => pu (x :: xs)) m' = .ok [y] m2 := by rw [bd_ok eE']; rfl
        rw [bd_ok e3] at e1; cases e1; exact ⟨x, y, rfl⟩
      | exc y m2 =>
        have e3 : (bd E' fun x => bd (a0 : SM μ (List D)) fun xs => pu (x :: xs)) m' = .exc y m2 := by rw [bd_exc eE']
        rw [bd_exc e3] at e1; cases e1
      | bad =>
        have e3 : (bd E' fun x => bd (a0 : SM μ (List D)) fun xs => pu (x :: xs)) m' = .bad := by rw [bd_bad eE']
        rw [bd_bad e3] at e1; cases e1
    | exc x m' => rw [bd_exc eE] at e1; cases e1
    | bad => rw [bd_bad eE] at e1; cases e1
  obtain ⟨x, y, rfl⟩ := hx
  cases x with
  | int n =>
    cases y with
    | int k =>
      simp only [rngD] at b1
      split at b1
      · next c =>
        obtain ⟨v, v2, rfl, hv, hv2⟩ := i2.two
        obtain ⟨B, hd⟩ := w1.dt hv
        obtain ⟨B2, hd2⟩ := w1.dt hv2
        rw [hd.int_inv, hd2.int_inv]
        refine ⟨n, k, rfl, c, ?_⟩
        refine q (rgL n k) m1 _ H1 L2 ?_ s2 w1 itok_rng
        show bd (ac E (ac E' a0)) _ m = _
        rw [bd_ok e1]
        simp only [rngD]; rw [if_pos c]; rfl
      · exact absurd rfl b1.2
    | _ => exact absurd rfl b1.2
  | _ => exact absurd rfl b1.2
/-- what is stored at a target, then the rest -/
def tTgt (g : TG) (v : V) (t : TS) : TS := fun d σ H => g v σ H fun σ2 H2 => t d σ2 H2
theorem forS_step {xs : List D} {i : Nat} {x : D} (h : xs[i]? = some x) : xs.drop i = x :: xs.drop (i + 1) := by
  rw [List.getElem?_eq_some_iff] at h
  obtain ⟨h1, h2⟩ := h
  rw [List.drop_eq_getElem_cons h1, h2]
theorem sv_for {wi : TI} {I : SM μ (List D)} {b : D → τ' → SM μ (Fl τ' τ')} {J : Shp μ τ'} {s0 : τ'} {L0 : List (V × D)} {g : TG} {tb : TS} (hc : Sub Cp C) (hi : IV G wi σ L C I) (h0 : J s0 σ L0 C) (hl : ∀ f ∈ L0, f ∈ L)
    (hC : ∀ s σ' L2 C2, J s σ' L2 C2 → Sub Cp C2)
    (hb : ∀ s σ' L2 C2, J s σ' L2 C2 → ∀ v x, SV G Cp (tTgt g v tb) σ' ((v, x) :: (L2 ++ L)) C2 (b x s) J J) : SV G Cp (tFor wi g tb) σ L C (bd I fun xs => forS xs s0 b) J Jl := by
  intro m F L' H d s w q1 q2 q3 q4 bk
  refine hi m F L' H _ s w (fun xs m1 It H1 L1 e1 s1 w1 hit => ?_) (bk.fst.subC hc)
  have er : bd I (fun xs => forS xs s0 b) m = (forS xs s0 b : SM μ (Fl τ' ρ)) m1 := bd_ok e1
  rw [er] at bk
  refine ⟨fun i n σ' H' => n = xs.length - i ∧ i ≤ xs.length ∧ ∃ z m' L2 C2, (forS xs s0 b : SM μ (Fl τ' ρ)) m1 = forS (xs.drop i) z b m' ∧ J z σ' L2 C2 ∧ Wd G.K G.O (L2 ++ L1) (C2 m' ++ F) H', ⟨xs.length, by simp, Nat.zero_le _, s0, m1, L0, C, rfl, h0, w1.sub fun f hf => ?_⟩, ?_⟩
  · rcases List.mem_append.mp hf with e | e
    · exact s1 f (s f (hl f e))
    · exact e
  · rintro i n σ' H' ⟨rfl, hin, z, m', L2, C2, ez, jz, wz⟩
    have hI := hit _ _ _ (fun f hf => List.mem_append.mpr (.inr hf)) wz i
    by_cases hlt : i < xs.length
    · have hx : xs[i]? = some xs[i] := List.getElem?_eq_getElem hlt
      obtain ⟨go, hy⟩ := hI.1 _ hx
      rw [forS_step hx] at ez
      rw [ez] at bk
      refine .inr ⟨go, fun σ'' H'' => ∃ z m' L2 C2, (forS xs s0 b : SM μ (Fl τ' ρ)) m1 = forS (xs.drop (i + 1)) z b m' ∧ J z σ'' L2 C2 ∧ Wd G.K G.O (L2 ++ L1) (C2 m' ++ F) H'', fun σ'' H'' hN => ⟨xs.length - (i + 1), by omega, rfl, hlt, hN⟩, fun v H2 y => ?_⟩
      have w2 := hy v H2 y
      have bb : Bk G Cp F L' ((b xs[i] z) m') := (show Bk G Cp F L' (bd (b xs[i] z) _ m') from bk).fst
      have sb : ∀ {L3 : List (V × D)} {C3 : List Root} {H3 : Hp}, Wd G.K G.O (L3 ++ ((v, xs[i]) :: (L2 ++ L1))) C3 H3 → Wd G.K G.O (L3 ++ L1) C3 H3 := fun {L3 C3 H3} w3 => w3.sub fun f hf => by
        rcases List.mem_append.mp hf with e | e
        · exact List.mem_append.mpr (.inl e)
        · exact List.mem_append.mpr (.inr (.tail _ (List.mem_append.mpr (.inr e))))
      have sb' : ∀ {L3 : List (V × D)} {C3 : List Root} {H3 : Hp}, Wd G.K G.O (L3 ++ L1) C3 H3 → Wd G.K G.O (L3 ++ L') C3 H3 := fun {L3 C3 H3} w3 => w3.sub fun f hf => by
        rcases List.mem_append.mp hf with e | e
        · exact List.mem_append.mpr (.inl e)
        · exact List.mem_append.mpr (.inr (s1 f e))
      refine hb z σ' L2 C2 jz v xs[i] m' F ((v, xs[i]) :: (L2 ++ L1)) H2 _ (fun f hf => ?_) w2 ?_ ?_ ?_ ?_ (bb.mono fun f hf => .tail _ (List.mem_append.mpr (.inr (s1 f hf))))
      · rcases List.mem_cons.mp hf with e | e
        · rw [e]; exact .head _
        · rcases List.mem_append.mp e with e | e
          · exact .tail _ (List.mem_append.mpr (.inl e))
          · exact .tail _ (List.mem_append.mpr (.inr (s1 f (s f e))))
      · intro z2 m2 σ3 L3 C3 H3 e3 j3 w3
        exact ⟨z2, m2, L3, C3, ez.trans (bd_ok e3), j3, sb w3⟩
      · intro z2 m2 σ3 L3 C3 H3 e3 j3 w3
        exact q1 z2 m2 σ3 L3 C3 H3 (er.trans (ez.trans (bd_ok e3))) j3 (sb' (sb w3))
      · intro z2 m2 σ3 L3 C3 H3 e3 j3 w3
        exact ⟨z2, m2, L3, C3, ez.trans (bd_ok e3), j3, sb w3⟩
      · intro x m2 v2 H3 L4 C4 e3 r3 w3
        exact q4 x m2 v2 H3 L4 C4 (er.trans (ez.trans (bd_ok e3))) r3 (sb' (sb w3))
    · have e : i = xs.length := by omega
      subst e
      rw [List.drop_length] at ez
      refine .inl ⟨hI.2 (Nat.le_refl _), q1 z m' σ' L2 C2 H' (er.trans ez) jz (wz.sub fun f hf => ?_)⟩
      rcases List.mem_append.mp hf with e | e
      · exact List.mem_append.mpr (.inl e)
      · exact List.mem_append.mpr (.inr (s1 f e))
end
section
open SM
variable {X : Cx} {μ τ τ' ρ : Type} {G : Gx} {σ : St} {L : List (V × D)} {C Cp : μ → List Root} {te ta tb tc : TE} {tt tu : TT} {t u : TS} {E E1 E2 E3 : SM μ D} {T T1 T2 : SM μ Bool} {Jn : Shp μ τ} {Jl : Shp μ ρ} {i j : Nat} {v : V} {x : D}
def tTgts (g : TGs) (vs : List V) (t : TS) : TS := fun d σ H => g vs σ H fun σ2 H2 => t d σ2 H2
theorem tg_name {R : SM μ (Fl τ ρ)} {σ' : St} (hσ : σ.set i (some v) = σ') (h : SV G Cp u σ' L C R Jn Jl) : SV G Cp (tTgt (gName i) v u) σ L C R Jn Jl := by
  subst hσ
  exact h
theorem tgs_nil {R : SM μ (Fl τ ρ)} (h : SV G Cp u σ L C R Jn Jl) : SV G Cp (tTgts gNil [] u) σ L C R Jn Jl := fun m F L' H d s w q1 q2 q3 q4 bk => ⟨rfl, h m F L' H d s w q1 q2 q3 q4 bk⟩
theorem tgs_cons {R : SM μ (Fl τ ρ)} {g : TG} {gs : TGs} {vs : List V} (h : SV G Cp (tTgt g v (tTgts gs vs u)) σ L C R Jn Jl) : SV G Cp (tTgts (gCons g gs) (v :: vs) u) σ L C R Jn Jl := fun m F L' H d s w q1 q2 q3 q4 bk => ⟨v, vs, rfl, h m F L' H d s w q1 q2 q3 q4 bk⟩
/-- parts of a tuple, found among the facts -/
theorem dt_parts {K : PySem.W.Frag} {O : Og} {L : List (V × D)} {C : List Root} {H : Hp} {v : V} {ds : List D} (w : Wd K O L C H) (h : (v, PyData.tuple ds) ∈ L) : ∃ p vs, v = .ref p ∧ SqT K H p vs ∧ vs.length = ds.length ∧ Wd K O (vs.zip ds ++ L) C H := by
  obtain ⟨B, wb⟩ := w
  obtain ⟨p, vs, rfl, hl, ha⟩ := Dt.tup_inv (wb.ft _ h)
  refine ⟨p, vs, rfl, hl.sq, ha.len, B, wb.fts fun f hf => ?_⟩
  rcases List.mem_append.mp hf with e | e
  · have : ∀ {vs : List V} {ds : List D}, DtAll K B H vs ds → ∀ f ∈ vs.zip ds, Dt K B H f.1 f.2 := by
      intro vs
      induction vs with
      | nil => intro ds h f hf; cases hf
      | cons a r ih =>
        intro ds h f hf
        cases h with
        | cons x y =>
          rcases List.mem_cons.mp hf with e | e
          · subst e; exact x
          · exact ih y f e
    exact this ha f e
  · exact wb.ft f e
/-- more facts on top, taken off at the end -/
theorem sv_more {R : SM μ (Fl τ ρ)} {L1 : List (V × D)} (h : SV G Cp t σ (L1 ++ L) C R Jn Jl) {m : μ} {F : List Root} {L' : List (V × D)} {H : Hp} {d : Ends} (s : ∀ f ∈ L, f ∈ L') (w : Wd G.K G.O (L1 ++ L') (C m ++ F) H)
    (q1 : ∀ s m' σ' L2 C2 H', R m = .ok (.nx s) m' → Jn s σ' L2 C2 → Wd G.K G.O (L2 ++ L') (C2 m' ++ F) H' → d.nx σ' H')
    (q2 : ∀ s m' σ' L2 C2 H', R m = .ok (.bk s) m' → Jl s σ' L2 C2 → Wd G.K G.O (L2 ++ L') (C2 m' ++ F) H' → d.bk σ' H')
    (q3 : ∀ s m' σ' L2 C2 H', R m = .ok (.ct s) m' → Jl s σ' L2 C2 → Wd G.K G.O (L2 ++ L') (C2 m' ++ F) H' → d.ct σ' H')
    (q4 : ∀ x m' v H' L1 C1, R m = .ok (.rt x) m' → G.rf v x L1 C1 → Wd G.K G.O (L1 ++ L') (C1 ++ (Cp m' ++ F)) H' → d.rt v H') (bk : Bk G Cp F L' (R m)) : t d σ H := by
  have sb : ∀ {L3 : List (V × D)} {C3 : List Root} {H3 : Hp}, Wd G.K G.O (L3 ++ (L1 ++ L')) C3 H3 → Wd G.K G.O (L3 ++ L') C3 H3 := fun {L3 C3 H3} w3 => w3.sub fun f hf => by
    rcases List.mem_append.mp hf with e | e
    · exact List.mem_append.mpr (.inl e)
    · exact List.mem_append.mpr (.inr (List.mem_append.mpr (.inr e)))
  refine h m F (L1 ++ L') H d (fun f hf => ?_) w (fun z2 m2 σ2 L3 C3 H2 e2 j2 w2 => q1 z2 m2 σ2 L3 C3 H2 e2 j2 (sb w2)) (fun z2 m2 σ2 L3 C3 H2 e2 j2 w2 => q2 z2 m2 σ2 L3 C3 H2 e2 j2 (sb w2))
    (fun z2 m2 σ2 L3 C3 H2 e2 j2 w2 => q3 z2 m2 σ2 L3 C3 H2 e2 j2 (sb w2)) (fun x m2 v H2 L4 C4 e2 r2 w2 => q4 x m2 v H2 L4 C4 e2 r2 (sb w2)) (bk.mono fun f hf => List.mem_append.mpr (.inr hf))
  rcases List.mem_append.mp hf with e | e
  · exact List.mem_append.mpr (.inl e)
  · exact List.mem_append.mpr (.inr (s f e))
theorem lz0 {α : Type} {l : List α} (h : l.length = 0) : l = [] := List.eq_nil_of_length_eq_zero h
theorem lz1 {α : Type} {l : List α} (h : l.length = 1) : ∃ a, l = [a] := by
  cases l with
  | nil => cases h
  | cons a l => rw [lz0 (l := l) (Nat.succ.inj h)]; exact ⟨a, rfl⟩
theorem lz2 {α : Type} {l : List α} (h : l.length = 2) : ∃ a b, l = [a, b] := by
  cases l with
  | nil => cases h
  | cons a l => obtain ⟨b, rfl⟩ := lz1 (l := l) (Nat.succ.inj h); exact ⟨a, b, rfl⟩
theorem lz3 {α : Type} {l : List α} (h : l.length = 3) : ∃ a b c, l = [a, b, c] := by
  cases l with
  | nil => cases h
  | cons a l => obtain ⟨b, c, rfl⟩ := lz2 (l := l) (Nat.succ.inj h); exact ⟨a, b, c, rfl⟩
theorem tg_tup2 {gs : TGs} {k : D → D → SM μ (Fl τ ρ)} (hm : (v, x) ∈ L) (h : ∀ v1 v2 a b, SV G Cp (tTgts gs [v1, v2] u) σ ((v1, a) :: (v2, b) :: L) C (k a b) Jn Jl) : SV G Cp (tTgt (gTup G.K 2 gs) v u) σ L C (unp2 x k) Jn Jl := by
  intro m F L' H d s w q1 q2 q3 q4 bk
  unfold unp2 at bk q1 q2 q3 q4
  split at bk
  · next a b =>
    obtain ⟨p, vs, rfl, hl, hlen, w2⟩ := dt_parts w (s _ hm)
    obtain ⟨v1, v2, rfl⟩ := lz2 hlen
    exact ⟨p, [v1, v2], rfl, hl, rfl, sv_more (L1 := [(v1, a), (v2, b)]) (h v1 v2 a b) s w2 q1 q2 q3 q4 bk⟩
  · exact absurd rfl bk.2
theorem tg_tup3 {gs : TGs} {k : D → D → D → SM μ (Fl τ ρ)} (hm : (v, x) ∈ L) (h : ∀ v1 v2 v3 a b c, SV G Cp (tTgts gs [v1, v2, v3] u) σ ((v1, a) :: (v2, b) :: (v3, c) :: L) C (k a b c) Jn Jl) : SV G Cp (tTgt (gTup G.K 3 gs) v u) σ L C (unp3 x k) Jn Jl := by
  intro m F L' H d s w q1 q2 q3 q4 bk
  unfold unp3 at bk q1 q2 q3 q4
  split at bk
  · next a b c =>
    obtain ⟨p, vs, rfl, hl, hlen, w2⟩ := dt_parts w (s _ hm)
    obtain ⟨v1, v2, v3, rfl⟩ := lz3 hlen
    exact ⟨p, [v1, v2, v3], rfl, hl, rfl, sv_more (L1 := [(v1, a), (v2, b), (v3, c)]) (h v1 v2 v3 a b c) s w2 q1 q2 q3 q4 bk⟩
  · exact absurd rfl bk.2
/-- target = e, any target -/
theorem sv_asgT {g : TG} {k : D → SM μ (Fl τ ρ)} (hc : Sub Cp C) (h : EV G te σ L C E) (hk : ∀ v x, SV G Cp (tTgt g v u) σ ((v, x) :: L) C (k x) Jn Jl) : SV G Cp (tSeq (tAsg te g) u) σ L C (bd E k) Jn Jl := by
  intro m F L' H d s w q1 q2 q3 q4 b
  refine h m F L' H _ s w (fun x m1 v H1 e1 w1 => ?_) (b.fst.subC hc)
  have er : bd E k m = k x m1 := bd_ok e1
  exact sv_more (t := tTgt g v u) (L1 := [(v, x)]) (hk v x) s w1 (fun z2 m2 σ2 L3 C3 H2 e2 j2 w2 => q1 z2 m2 σ2 L3 C3 H2 (er.trans e2) j2 w2) (fun z2 m2 σ2 L3 C3 H2 e2 j2 w2 => q2 z2 m2 σ2 L3 C3 H2 (er.trans e2) j2 w2)
    (fun z2 m2 σ2 L3 C3 H2 e2 j2 w2 => q3 z2 m2 σ2 L3 C3 H2 (er.trans e2) j2 w2) (fun x m2 v H2 L4 C4 e2 r2 w2 => q4 x m2 v H2 L4 C4 (er.trans e2) r2 w2) (by rw [er] at b; exact b)
theorem tv_yes : TV G tYes σ L C (pu true : SM μ Bool) := fun m F L' H Q s w q _ => q true m H rfl w
/-- the new list, on top of what is not told -/
theorem Wd.acc {K : PySem.W.Frag} {O : Og} {L : List (V × D)} {C F : List Root} {H : Hp} {p : Addr} (w : Wd K O L (C ++ F) H) (hp : H p = none) : Wd K O L (C ++ (rootL K p (.list []) :: F)) (upd H p (.lst [])) :=
  (Wd.root (ds := []) w hp .nil).perm List.perm_middle.symm
/-- the walk of a comprehension: g, the target, in σ2; by turns -/
theorem ev_lcG {wi : TI} {I : SM μ (List D)} {T : D → SM μ Bool} {E : D → SM μ D} {g : TG} {vs : List Nat} (hi : IV G wi σ L C I)
    (ht : ∀ v x m F L' H (Q : St → Hp → Prop), (∀ f ∈ (v, x) :: L, f ∈ L') → Wd G.K G.O L' (C m ++ F) H → T x m ≠ .bad →
      (∀ σ2 L1, (∀ f ∈ L', f ∈ L1) → wipe σ2 vs = wipe σ vs → Wd G.K G.O L1 (C m ++ F) H → TV G tt σ2 L1 C (T x) → EV G te σ2 L1 C (E x) → Q σ2 H) → g v (wipe σ vs) H Q) :
    EV G (tLc wi g tt te vs) σ L C (lc I T E) := by
  intro m F L' H Q s w q bk
  refine hi m F L' H _ s w (fun xs m1 It H1 L1 e1 s1 w1 hit => ?_) bk.fst
  have b1 := bk.snd e1
  have er : lc I T E m = bd (lcS T E xs []) (fun ys => pu (.list ys)) m1 := bd_ok e1
  intro A hA
  refine ⟨fun i n H' => n = xs.length - i ∧ i ≤ xs.length ∧ ∃ m' acc, lcS T E xs [] m1 = lcS T E (xs.drop i) acc m' ∧ Wd G.K G.O L1 (C m' ++ (rootL G.K A (.list acc) :: F)) H', ⟨xs.length, by simp, Nat.zero_le _, m1, [], rfl, w1.acc hA⟩, ?_⟩
  rintro i n H' ⟨rfl, hin, m', acc, ez, wz⟩
  have hI := hit _ _ _ (fun f hf => hf) wz i
  have hAO : A ∉ G.O.fp := by
    obtain ⟨B, wb⟩ := w1
    exact wb.nofp hA
  by_cases hlt : i < xs.length
  · have hx : xs[i]? = some xs[i] := List.getElem?_eq_getElem hlt
    obtain ⟨go, hy⟩ := hI.1 _ hx
    rw [forS_step hx] at ez
    refine .inr ⟨go, fun H'' => ∃ m' acc, lcS T E xs [] m1 = lcS T E (xs.drop (i + 1)) acc m' ∧ Wd G.K G.O L1 (C m' ++ (rootL G.K A (.list acc) :: F)) H'', fun H'' hN => ⟨xs.length - (i + 1), by omega, rfl, hlt, hN⟩, fun v H2 y => ?_⟩
    have w2 := hy v H2 y
    have b2 : Bk G C F L' (lcS T E (xs[i] :: xs.drop (i + 1)) acc m') := by
      have := b1.fst
      rw [ez] at this
      exact this
    have b3 : Bk G C F L' (T xs[i] m') := (show Bk G C F L' (bd (T xs[i]) _ m') from b2).fst
    have toF : ∀ {α : Type} {acc : List D} {r : Rs μ α}, Bk G C F L' r → Bk G C (rootL G.K A (.list acc) :: F) L' r := fun {α acc r} b => ⟨fun e m' cls d H' q w => b.1 e m' cls d H' q (w.subC (((List.Sublist.refl _).append (List.sublist_cons_self _ _)).cons₂ _)), b.2⟩
    refine ht v xs[i] m' (rootL G.K A (.list acc) :: F) ((v, xs[i]) :: L1) H2 _ (fun f hf => ?_) w2 b3.2 (fun σ2 L2 sL2 hw w3 hT hE => ⟨hw, ?_⟩)
    · rcases List.mem_cons.mp hf with e | e
      · rw [e]; exact .head _
      · exact .tail _ (s1 f (s f e))
    · refine hT m' (rootL G.K A (.list acc) :: F) L2 H2 _ (fun f hf => hf) w3 (fun c m3 H3 e3 w4 => ?_) ((toF b3).mono fun f hf => sL2 f (.tail _ (s1 f hf)))
      have e4 : lcS T E (xs[i] :: xs.drop (i + 1)) acc m' = (if c then bd (E xs[i]) fun y => if acc.length < sizeLine then lcS T E (xs.drop (i + 1)) (acc ++ [y]) else bad else lcS T E (xs.drop (i + 1)) acc) m3 := bd_ok e3
      have sb : ∀ {C3 : List Root} {H3 : Hp}, Wd G.K G.O L2 C3 H3 → Wd G.K G.O L1 C3 H3 := fun {C3 H3} w => w.sub fun f hf => sL2 f (.tail _ hf)
      cases c with
      | false =>
        rw [if_neg (by decide)]
        exact ⟨m3, acc, ez.trans e4, sb w4⟩
      | true =>
        rw [if_pos rfl]
        have b4 : Bk G C F L' (bd (E xs[i]) (fun y => if acc.length < sizeLine then lcS T E (xs.drop (i + 1)) (acc ++ [y]) else bad) m3) := by
          rw [e4] at b2
          exact b2
        refine hE m3 (rootL G.K A (.list acc) :: F) L2 H3 _ (fun f hf => hf) w4 (fun y m4 u H4 e5 w5 => ?_) ((toF b4.fst).mono fun f hf => sL2 f (.tail _ (s1 f hf)))
        have b5 := b4.snd e5
        by_cases hz : acc.length < sizeLine
        · have w6 := w5.perm List.perm_middle
          obtain ⟨B, wb⟩ := w6
          obtain ⟨ds, us, e6, hA4, hda⟩ := wb.rt _ (.head _)
          cases e6
          refine ⟨us, hA4, by rw [hda.len]; exact hz, m4, acc ++ [y], ez.trans (e4.trans ?_), ?_⟩
          · show bd (E xs[i]) _ m3 = _
            rw [bd_ok e5, if_pos hz]
          · have w7 : Wd G.K G.O ((u, y) :: L2) (rootL G.K A (.list (acc ++ [y])) :: (C m4 ++ F)) (upd H4 A (.lst (us ++ [u]))) :=
              Wd.put ⟨B, wb⟩ fun B' f hr => by
                obtain ⟨ds', us', e6, hA5, hda5⟩ := hr
                cases e6
                rw [hA4] at hA5
                cases hA5
                exact hda5.app (.cons (f _ (.head _)) .nil)
            exact (w7.perm List.perm_middle.symm).sub fun f hf => .tail _ (sL2 f (.tail _ hf))
        · rw [if_neg hz] at b5
          exact absurd rfl b5.2
  · have e : i = xs.length := by omega
    subst e
    rw [List.drop_length] at ez
    refine .inl ⟨hI.2 (Nat.le_refl _), ?_⟩
    have w2 := (wz.perm List.perm_middle).freeze hAO
    refine q (.list acc) m' (.ref A) H' ?_ (w2.sub fun f hf => ?_)
    · rw [er]
      show bd (lcS T E xs []) _ m1 = _
      rw [bd_ok (show lcS T E xs [] m1 = .ok acc m' from ez)]; rfl
    · rcases List.mem_cons.mp hf with e | e
      · rw [e]; exact .head _
      · exact .tail _ (s1 f e)
theorem TV.sub {T : SM μ Bool} {L0 : List (V × D)} (h : TV G tt σ L0 C T) (s : ∀ f ∈ L0, f ∈ L) : TV G tt σ L C T := fun m F L' H Q s' w q b => h m F L' H Q (fun f hf => s' f (s f hf)) w q b
theorem EV.sub {L0 : List (V × D)} (h : EV G te σ L0 C E) (s : ∀ f ∈ L0, f ∈ L) : EV G te σ L C E := fun m F L' H Q s' w q b => h m F L' H Q (fun f hf => s' f (s f hf)) w q b
/-- one name -/
theorem ev_lc1 {wi : TI} {I : SM μ (List D)} {T : D → SM μ Bool} {E : D → SM μ D} {vs : List Nat} {σ2 : V → St} (hi : IV G wi σ L C I) (hσ : ∀ v, (wipe σ vs).set i (some v) = σ2 v) (hw : ∀ v, wipe (σ2 v) vs = wipe σ vs)
    (hT : ∀ v x, TV G tt (σ2 v) ((v, x) :: L) C (T x)) (hE : ∀ v x, EV G te (σ2 v) ((v, x) :: L) C (E x)) : EV G (tLc wi (gName i) tt te vs) σ L C (lc I T E) :=
  ev_lcG hi fun v x m F L' H Q s w _ q => by
    show Q ((wipe σ vs).set i (some v)) H
    rw [hσ]
    exact q (σ2 v) L' (fun f hf => hf) (hw v) w ((hT v x).sub s) ((hE v x).sub s)
/-- two names -/
theorem ev_lc2 {wi : TI} {I : SM μ (List D)} {T : D → D → SM μ Bool} {E : D → D → SM μ D} {vs : List Nat} {σ2 : V → V → St} (hi : IV G wi σ L C I) (hσ : ∀ v w, ((wipe σ vs).set i (some v)).set j (some w) = σ2 v w) (hw : ∀ v w, wipe (σ2 v w) vs = wipe σ vs)
    (hT : ∀ v w x y, TV G tt (σ2 v w) ((v, x) :: (w, y) :: L) C (T x y)) (hE : ∀ v w x y, EV G te (σ2 v w) ((v, x) :: (w, y) :: L) C (E x y)) : EV G (tLc wi (gTup G.K 2 (gCons (gName i) (gCons (gName j) gNil))) tt te vs) σ L C (lc I (fun z => unp2 z T) (fun z => unp2 z E)) :=
  ev_lcG hi fun v x m F L' H Q s w b q => by
    unfold unp2 at b
    split at b
    · next a c =>
      obtain ⟨p, us, rfl, hl, hlen, w2⟩ := dt_parts w (s _ (.head _))
      match us, hlen with
      | [v1, v2], _ =>
        refine ⟨p, [v1, v2], rfl, hl, rfl, v1, [v2], rfl, v2, [], rfl, rfl, ?_⟩
        show Q (((wipe σ vs).set i (some v1)).set j (some v2)) H
        rw [hσ]
        have s2 : ∀ f ∈ (v1, a) :: (v2, c) :: L, f ∈ [v1, v2].zip [a, c] ++ L' := fun f hf => by
          rcases List.mem_cons.mp hf with e | hf
          · rw [e]; exact .head _
          · rcases List.mem_cons.mp hf with e | hf
            · rw [e]; exact .tail _ (.head _)
            · exact .tail _ (.tail _ (s f (.tail _ hf)))
        exact q (σ2 v1 v2) _ (fun f hf => .tail _ (.tail _ hf)) (hw v1 v2) w2 ((hT v1 v2 a c).sub s2) ((hE v1 v2 a c).sub s2)
    · exact absurd rfl b
end
section
open SM
/-- a def that changes nothing -/
def SpPX (K : PySem.W.Frag) (XR : D → Value → Option Addr → Root) (n : Nat) (mf : List D → SM Unit D) : Sp := fun vs H Q E => vs.length = n ∧ ∃ (B : Addr → Prop) (ds : List D), (∀ p, B p → ∃ o, H p = some o) ∧ DtAll K B H vs ds ∧ mf ds () ≠ .bad ∧
  (∀ x v H' B', mf ds () = .ok x () → Same H H' → (∀ p, B p → B' p) → (∀ p, B' p → B p ∨ (H p = none ∧ ∃ o, H' p = some o)) → Dt K B' H' v x → Q v H') ∧
  (∀ e cls d H' B', mf ds () = .exc e () → Same H H' → (∀ p, B p → B' p) → (∀ p, B' p → B p ∨ (H p = none ∧ ∃ o, H' p = some o)) → (XR e cls d).P B' H' → (∀ p ∈ (XR e cls d).fp H', H p = none ∧ ¬ B' p) → ((XR e cls d).fp H').Nodup → E cls d H')
/-- a def that changes the list that it is handed first -/
def SpDX (K : PySem.W.Frag) (XR : D → Value → Option Addr → Root) (n : Nat) (mf : List D → SM D D) : Sp := fun vs H Q E => vs.length = n + 1 ∧ ∃ (B : Addr → Prop) (a : Addr) (us : List V) (ds : List D) (m : D), vs = .ref a :: us ∧ (∀ p, B p → ∃ o, H p = some o) ∧ ¬ B a ∧ DtAll K B H us ds ∧ (rootL K a m).P B H ∧ mf ds m ≠ .bad ∧
  (∀ x m' v H' B', mf ds m = .ok x m' → (∀ p o, p ≠ a → H p = some o → H' p = some o) → (∀ p, B p → B' p) → (∀ p, B' p → B p ∨ (H p = none ∧ ∃ o, H' p = some o)) → Dt K B' H' v x → (rootL K a m').P B' H' → Q v H') ∧
  (∀ e m' cls d H' B', mf ds m = .exc e m' → (∀ p o, p ≠ a → H p = some o → H' p = some o) → (∀ p, B p → B' p) → (∀ p, B' p → B p ∨ (H p = none ∧ ∃ o, H' p = some o)) → (XR e cls d).P B' H' → (∀ p ∈ (XR e cls d).fp H', H p = none ∧ ¬ B' p) → ((XR e cls d).fp H').Nodup → (rootL K a m').P B' H' → E cls d H')
/-- the same of defs that raise nothing -/
def SpP (K : PySem.W.Frag) (n : Nat) (mf : List D → SM Unit D) : Sp := fun vs H Q _ => vs.length = n ∧ ∃ (B : Addr → Prop) (ds : List D) (x : D), (∀ p, B p → ∃ o, H p = some o) ∧ DtAll K B H vs ds ∧ mf ds () = .ok x () ∧
  (∀ v H' B', Same H H' → (∀ p, B p → B' p) → (∀ p, B' p → B p ∨ (H p = none ∧ ∃ o, H' p = some o)) → Dt K B' H' v x → Q v H')
def SpD (K : PySem.W.Frag) (n : Nat) (mf : List D → SM D D) : Sp := fun vs H Q _ => vs.length = n + 1 ∧ ∃ (B : Addr → Prop) (a : Addr) (us : List V) (ds : List D) (m x m' : D), vs = .ref a :: us ∧ (∀ p, B p → ∃ o, H p = some o) ∧ ¬ B a ∧ DtAll K B H us ds ∧ (rootL K a m).P B H ∧ mf ds m = .ok x m' ∧
  (∀ v H' B', (∀ p o, p ≠ a → H p = some o → H' p = some o) → (∀ p, B p → B' p) → (∀ p, B' p → B p ∨ (H p = none ∧ ∃ o, H' p = some o)) → Dt K B' H' v x → (rootL K a m').P B' H' → Q v H')
def SpN (K : PySem.W.Frag) (n : Nat) (mf : List D → SM Unit D) : Sp := fun vs H Q _ => vs.length = n ∧ ∃ (B : Addr → Prop) (ds : List D) (x : D), (∀ p, B p → ∃ o, H p = some o) ∧ DtAll K B H vs ds ∧ mf ds () = .ok x () ∧
  (∀ a H' B', Same H H' → (∀ p, B p → B' p) → (∀ p, B' p → B p ∨ (H p = none ∧ ∃ o, H' p = some o)) → H a = none → ¬ B' a → (rootL K a x).P B' H' → Q (.ref a) H')
end
namespace SM
variable {μ : Type}
def u0 (f : SM μ D) : List D → SM μ D
  | [] => f
  | _ => bad
def u1 (f : D → SM μ D) : List D → SM μ D
  | [a] => f a
  | _ => bad
def u2 (f : D → D → SM μ D) : List D → SM μ D
  | [a, b] => f a b
  | _ => bad
def u3 (f : D → D → D → SM μ D) : List D → SM μ D
  | [a, b, c] => f a b c
  | _ => bad
def u4 (f : D → D → D → D → SM μ D) : List D → SM μ D
  | [a, b, c, d] => f a b c d
  | _ => bad
def u5 (f : D → D → D → D → D → SM μ D) : List D → SM μ D
  | [a, b, c, d, e] => f a b c d e
  | _ => bad
def u6 (f : D → D → D → D → D → D → SM μ D) : List D → SM μ D
  | [a, b, c, d, e, g] => f a b c d e g
  | _ => bad
def u7 (f : D → D → D → D → D → D → D → SM μ D) : List D → SM μ D
  | [a, b, c, d, e, g, h] => f a b c d e g h
  | _ => bad
def cP (mf : List D → SM Unit D) (Es : SM μ (List D)) : SM μ D := bd Es fun xs => px (mf xs)
def cD (mf : List D → SM μ D) (Es : SM μ (List D)) : SM μ D := bd Es fun xs => qx (mf xs)
def cPX (mf : List D → SM Unit D) (Es : SM μ (List D)) : SM μ D := bd Es fun xs => p0 (mf xs)
theorem u0_len {f : SM μ D} {ds : List D} {m : μ} (h : u0 f ds m ≠ .bad) : ds.length = 0 := by unfold u0 at h; split at h <;> first | rfl | exact absurd rfl h
theorem u1_len {f : D → SM μ D} {ds : List D} {m : μ} (h : u1 f ds m ≠ .bad) : ds.length = 1 := by unfold u1 at h; split at h <;> first | rfl | exact absurd rfl h
theorem u2_len {f : D → D → SM μ D} {ds : List D} {m : μ} (h : u2 f ds m ≠ .bad) : ds.length = 2 := by unfold u2 at h; split at h <;> first | rfl | exact absurd rfl h
theorem u3_len {f : D → D → D → SM μ D} {ds : List D} {m : μ} (h : u3 f ds m ≠ .bad) : ds.length = 3 := by unfold u3 at h; split at h <;> first | rfl | exact absurd rfl h
theorem u4_len {f : D → D → D → D → SM μ D} {ds : List D} {m : μ} (h : u4 f ds m ≠ .bad) : ds.length = 4 := by unfold u4 at h; split at h <;> first | rfl | exact absurd rfl h
theorem u5_len {f : D → D → D → D → D → SM μ D} {ds : List D} {m : μ} (h : u5 f ds m ≠ .bad) : ds.length = 5 := by unfold u5 at h; split at h <;> first | rfl | exact absurd rfl h
end SM
section
open SM
variable {X : Cx} {μ τ τ' ρ : Type} {G : Gx} {σ : St} {L : List (V × D)} {C Cp : μ → List Root} {te ta tb tc : TE} {tt tu : TT} {t u : TS} {E E1 E2 E3 : SM μ D} {T T1 T2 : SM μ Bool} {Jn : Shp μ τ} {Jl : Shp μ ρ} {i j : Nat} {v : V} {x : D}
theorem AV.len {ta : TA} {Es : SM μ (List D)} : True := trivial
/-- a further root beside what stands -/
theorem Wb.addR {K : PySem.W.Frag} {O : Og} {B : Addr → Prop} {L : List (V × D)} {Z : List Root} {H : Hp} {r : Root} (wb : Wb K O B L Z H) (hr : r.P B H) (hf : ∀ p ∈ r.fp H, O.H p = Option.none ∧ ¬ B p ∧ p ∉ fps Z H) (hn : (r.fp H).Nodup) : Wb K O B L (r :: Z) H := by
  refine ⟨wb.lo, wb.hi, ?_, fun p hp => ?_, fun p hp => ?_, fun c hc => ?_, wb.ft, wb.kp, wb.oc, wb.bo⟩
  · rw [fps_cons]
    exact List.nodup_append.mpr ⟨hn, wb.nd, fun a ha b hb e => (hf a ha).2.2 (e ▸ hb)⟩
  · rw [fps_cons] at hp
    rcases List.mem_append.mp hp with z | z
    · exact (hf p z).2.1
    · exact wb.nb p z
  · rw [fps_cons] at hp
    rcases List.mem_append.mp hp with z | z
    · exact .inr (hf p z).1
    · exact wb.fr p z
  · rcases List.mem_cons.mp hc with e | e
    · rw [e]; exact hr
    · exact wb.rt c e
theorem ev_cPX {ta : TA} {Es : SM μ (List D)} {mf : List D → SM Unit D} {n : Nat} (hn : ∀ ds, mf ds () ≠ .bad → ds.length = n) (h : AV G ta σ L C Es) : EV G (tCall (SpPX G.K G.XR n mf) [] G.Xk ta) σ L C (cPX mf Es) := by
  intro m F L' H Q s w q b
  refine h m F L' H _ s w (fun xs m1 vs H1 L2 e1 s2 i2 w1 => ?_) b.fst
  have b1 := b.snd e1
  have er : cPX mf Es m = p0 (mf xs) m1 := bd_ok e1
  rw [List.append_nil]
  have nb : mf xs () ≠ .bad := fun z => by
    exact b1.2 (p0_bad z)
  obtain ⟨B, wb⟩ := w1
  refine ⟨by rw [i2.len]; exact hn xs nb, B, xs, wb.bo, i2.dt wb.ft, nb, fun x v H' B' ex sm h1 h2 hd => ?_, fun e cls d H' B' ex sm h1 h2 xr xf xn => ?_⟩
  · refine q x m1 v H' ?_ ⟨B', ((wb.grow sm h1 h2).fact hd).fts fun f hf => ?_⟩
    · rw [er]
      exact p0_ok ex
    · rcases List.mem_cons.mp hf with e | e
      · subst e; exact hd
      · exact (wb.grow sm h1 h2).ft f (s2 f e)
  · refine b.1 e m1 cls d H' ?_ ⟨B', ((wb.grow sm h1 h2).addR xr (fun p hp => ⟨wb.none (xf p hp).1, (xf p hp).2, by rw [wb.same sm]; exact wb.free (xf p hp).1⟩) xn).fts fun f hf => (wb.grow sm h1 h2).ft f (s2 f hf)⟩
    rw [er]
    exact p0_exc ex
theorem Wb.chg_same {K : PySem.W.Frag} {O : Og} {B B' : Addr → Prop} {L : List (V × D)} {Z : List Root} {H H' : Hp} {a : Addr} {m m' : D} (wb : Wb K O B L (rootL K a m :: Z) H) (hk : ∀ p o, p ≠ a → H p = some o → H' p = some o) (h1 : ∀ p, B p → B' p) : fps (rootL K a m' :: Z) H' = fps (rootL K a m :: Z) H := by
  have ha : ¬ B a := wb.nb a (by rw [fps_cons]; exact .head _)
  have hnd := wb.nd
  rw [fps_cons] at hnd
  have hna : a ∉ fps Z H := (List.nodup_cons.mp hnd).1
  have k : Kp B H B' H' := fun p o b e => ⟨h1 p b, hk p o (fun z => ha (by rw [← z]; exact b)) e⟩
  rw [fps_cons, fps_cons, fps_same k (fun c hc => wb.rt c (.tail _ hc)) fun q hq => ?_]
  · rfl
  · obtain ⟨c, hc, hq2⟩ := List.mem_flatMap.mp hq
    obtain ⟨o, ho⟩ := c.occ (wb.rt c (.tail _ hc)) q hq2
    rw [ho]
    exact hk q o (fun z => hna (by rw [← z]; exact hq)) ho
/-- the first root was changed, the rest kept -/
theorem Wb.chg {K : PySem.W.Frag} {O : Og} {B B' : Addr → Prop} {L : List (V × D)} {Z : List Root} {H H' : Hp} {a : Addr} {m m' : D} (wb : Wb K O B L (rootL K a m :: Z) H) (hk : ∀ p o, p ≠ a → H p = some o → H' p = some o)
    (h1 : ∀ p, B p → B' p) (h2 : ∀ p, B' p → B p ∨ (H p = Option.none ∧ ∃ o, H' p = some o)) (hr : (rootL K a m').P B' H') : Wb K O B' L (rootL K a m' :: Z) H' := by
  have ha : ¬ B a := wb.nb a (by rw [fps_cons]; exact .head _)
  have hnd := wb.nd
  rw [fps_cons] at hnd
  have hna : a ∉ fps Z H := (List.nodup_cons.mp hnd).1
  obtain ⟨_, _, _, hoc, _⟩ := wb.rt _ (.head _)
  have k : Kp B H B' H' := fun p o b e => ⟨h1 p b, hk p o (fun z => ha (by rw [← z]; exact b)) e⟩
  have es : fps (rootL K a m' :: Z) H' = fps (rootL K a m :: Z) H := wb.chg_same hk h1
  refine ⟨fun p b => h1 p (wb.lo p b), fun p b => ?_, by rw [es]; exact wb.nd, fun p hp b => ?_, fun p hp => wb.fr p (by rw [← es]; exact hp), fun c hc => ?_, fun f hf => Dt.mono k _ _ (wb.ft f hf), fun p o hp e => ?_, fun p hp => ?_, fun p b => ?_⟩
  · rcases h2 p b with b | n
    · exact wb.hi p b
    · exact .inr (wb.none n.1)
  · rw [es] at hp
    rcases h2 p b with b | n
    · exact wb.nb p hp b
    · exact wb.free n.1 hp
  · rcases List.mem_cons.mp hc with e | e
    · subst e; exact hr
    · refine c.mono k (fun p hp => ?_) (wb.rt c (.tail _ e))
      obtain ⟨o, ho⟩ := c.occ (wb.rt c (.tail _ e)) p hp
      rw [ho]
      exact hk p o (fun z => hna (by rw [← z]; exact mem_fps e hp)) ho
  · by_cases z : p = a
    · subst z
      rcases wb.fr p (by rw [fps_cons]; exact .head _) with y | y
      · exact absurd y hp
      · rw [y] at e; cases e
    · exact hk p o z (wb.kp p o hp e)
  · by_cases z : p = a
    · subst z
      obtain ⟨_, vs, _, h, _⟩ := hr
      exact ⟨_, h⟩
    · obtain ⟨o, ho⟩ := wb.oc p hp
      exact ⟨o, hk p o z ho⟩
  · rcases h2 p b with b | n
    · obtain ⟨o, ho⟩ := wb.bo p b
      exact ⟨o, hk p o (fun z => ha (by rw [← z]; exact b)) ho⟩
    · exact n.2
theorem ev_cP {ta : TA} {Es : SM μ (List D)} {mf : List D → SM Unit D} {n : Nat} (hn : ∀ ds, mf ds () ≠ .bad → ds.length = n) (h : AV G ta σ L C Es) : EV G (tCall (SpP G.K n mf) [] E0 ta) σ L C (cP mf Es) := by
  intro m F L' H Q s w q b
  refine h m F L' H _ s w (fun xs m1 vs H1 L2 e1 s2 i2 w1 => ?_) b.fst
  have b1 := b.snd e1
  have er : cP mf Es m = px (mf xs) m1 := bd_ok e1
  rw [List.append_nil]
  obtain ⟨x, ex⟩ := px_nb b1.2
  obtain ⟨B, wb⟩ := w1
  refine ⟨by rw [i2.len]; exact hn xs (by rw [ex]; intro z; cases z), B, xs, x, wb.bo, i2.dt wb.ft, ex, fun v H' B' sm h1 h2 hd => ?_⟩
  refine q x m1 v H' (er.trans (px_ok ex)) ⟨B', ((wb.grow sm h1 h2).fact hd).fts fun f hf => ?_⟩
  rcases List.mem_cons.mp hf with e | e
  · subst e; exact hd
  · exact (wb.grow sm h1 h2).ft f (s2 f e)
theorem ev_cD {ta : TA} {Z : List Root} {Es : SM D (List D)} {mf : List D → SM D D} {n : Nat} {a : Addr} (hσ : σ[i]? = some (some (.ref a))) (hn : ∀ ds m, mf ds m ≠ .bad → ds.length = n) (h : AV G ta σ L (fun m => rootL G.K a m :: Z) Es) :
    EV G (tCall (SpD G.K n mf) [] E0 (tCons (tVar i) ta)) σ L (fun m => rootL G.K a m :: Z) (cD mf Es) := by
  intro m F L' H Q s w q b
  refine ⟨.ref a, hσ, h m F L' H _ s w (fun xs m1 vs H1 L2 e1 s2 i2 w1 => ?_) b.fst⟩
  have b1 := b.snd e1
  have er : cD mf Es m = qx (mf xs) m1 := bd_ok e1
  show SpD G.K n mf ((.ref a :: vs) ++ []) H1 Q E0
  rw [List.append_nil]
  obtain ⟨x, m', ex⟩ := qx_nb b1.2
  obtain ⟨B, wb⟩ := w1
  have ha : ¬ B a := wb.nb a (by rw [List.cons_append, fps_cons]; exact .head _)
  refine ⟨by rw [List.length_cons, i2.len, hn xs m1 (by rw [ex]; intro z; cases z)], B, a, vs, xs, m1, x, m', rfl, wb.bo, ha, i2.dt wb.ft, wb.rt _ (.head _), ex, fun v H' B' hk h1 h2 hd hr => ?_⟩
  have w2 := Wb.chg (Z := Z ++ F) wb hk h1 h2 hr
  refine q x m' v H' (er.trans (qx_ok ex)) ⟨B', (w2.fact hd).fts fun f hf => ?_⟩
  rcases List.mem_cons.mp hf with e | e
  · subst e; exact hd
  · exact w2.ft f (s2 f e)
theorem zip_dt {K : PySem.W.Frag} {B : Addr → Prop} {H : Hp} : ∀ {vs : List V} {ds : List D}, DtAll K B H vs ds → ∀ f ∈ vs.zip ds, Dt K B H f.1 f.2
  | [], _, _, f, hf => by cases hf
  | a :: r, _, h, f, hf => by
    cases h with
    | cons x y =>
      rcases List.mem_cons.mp hf with e | e
      · subst e; exact x
      · exact zip_dt y f e
/-- the body of a def that changes nothing keeps its promise -/
theorem body_PX {K : PySem.W.Frag} {XR : D → Value → Option Addr → Root} {n : Nat} {mf : List D → SM Unit D} {ts : TS} {N : List Str} {H : Hp} {vs : List V} {Q : VK} {E : XK} (hsp : SpPX K XR n mf vs H Q E)
    (h : ∀ (ds : List D) (O : Og), vs.length = ds.length → ∃ (R : SM Unit (Fl Unit Empty)), mf ds = fin R ∧ SV ⟨K, O, E, XR, rfF⟩ (fun _ => []) ts (start N vs) (vs.zip ds) (fun _ => []) R (fun _ _ _ _ => True) (fun z _ _ _ => z.elim)) : ts { nx := fun _ H' => Q .non H', rt := Q } (start N vs) H := by
  obtain ⟨_, B, ds, hb, hd, nb, q, qx⟩ := hsp
  obtain ⟨R, hR, hS⟩ := h ds ⟨B, H, []⟩ hd.len
  have w0 : Wd K ⟨B, H, []⟩ (vs.zip ds) ([] ++ []) H := ⟨B, fun p b => b, fun p b => .inl b, List.nodup_nil, fun p hp => (by cases hp), fun p hp => (by cases hp), fun c hc => (by cases hc), zip_dt hd, fun p o _ e => e, fun p hp => (by cases hp), hb⟩
  have same : ∀ {L : List (V × D)} {C : List Root} {H' : Hp}, Wd K ⟨B, H, []⟩ L C H' → Same H H' := fun {L C H'} w p o e => by
    obtain ⟨B', wb⟩ := w
    exact wb.kp p o (by intro z; cases z) e
  refine hS () [] (vs.zip ds) H _ (fun f hf => hf) w0 ?_ ?_ ?_ ?_ ?_
  · intro s m' σ' L2 C2 H' e _ w
    have sm := same w
    obtain ⟨B', wb⟩ := w
    refine q .none .non H' B' ?_ sm wb.lo (fun p b => ?_) .non
    · rw [hR]
      exact bd_ok e
    · rcases wb.hi p b with z | z
      · exact .inl z
      · exact .inr ⟨z, wb.bo p b⟩
  · intro s; exact s.elim
  · intro s; exact s.elim
  · rintro x m' v H' _ _ e ⟨rfl, rfl⟩ w
    have sm := same w
    obtain ⟨B', wb⟩ := w
    refine q x v H' B' ?_ sm wb.lo (fun p b => ?_) (wb.ft _ (.head _))
    · rw [hR]
      exact bd_ok e
    · rcases wb.hi p b with z | z
      · exact .inl z
      · exact .inr ⟨z, wb.bo p b⟩
  · refine ⟨fun e m' cls d H' ex w => ?_, fun z => nb ?_⟩
    · have sm := same w
      obtain ⟨B', wb⟩ := w
      have hm : ∀ p ∈ (XR e cls d).fp H', p ∈ fps (XR e cls d :: ([] ++ [])) H' := fun p hp => by rw [fps_cons]; exact List.mem_append.mpr (.inl hp)
      refine qx e cls d H' B' ?_ sm wb.lo (fun p b => ?_) (wb.rt _ (.head _)) (fun p hp => ⟨(wb.fr p (hm p hp)).resolve_left (by intro z; cases z), wb.nb p (hm p hp)⟩) ?_
      · rw [hR]
        exact bd_exc ex
      · rcases wb.hi p b with z | z
        · exact .inl z
        · exact .inr ⟨z, wb.bo p b⟩
      · have := wb.nd
        rw [fps_cons] at this
        exact (List.nodup_append.mp this).1
    · rw [hR]
      exact bd_bad z
/-- the body of a def that changes the list that it is handed first -/
theorem body_DX {K : PySem.W.Frag} {XR : D → Value → Option Addr → Root} {n : Nat} {mf : List D → SM D D} {ts : TS} {N : List Str} {H : Hp} {vs : List V} {Q : VK} {E : XK} (hsp : SpDX K XR n mf vs H Q E)
    (h : ∀ (a : Addr) (us : List V) (ds : List D) (O : Og), vs = .ref a :: us → us.length = ds.length → ∃ (R : SM D (Fl Unit Empty)), mf ds = fin R ∧ SV ⟨K, O, E, XR, rfF⟩ (fun m => [rootL K a m]) ts (start N vs) (us.zip ds) (fun m => [rootL K a m]) R (fun _ _ _ C2 => C2 = fun m => [rootL K a m]) (fun z _ _ _ => z.elim)) : ts { nx := fun _ H' => Q .non H', rt := Q } (start N vs) H := by
  obtain ⟨_, B, a, us, ds, m, rfl, hb, hna, hd, hr, nb, q, qx⟩ := hsp
  obtain ⟨R, hR, hS⟩ := h a us ds ⟨B, H, [a]⟩ rfl hd.len
  have hoc : ∃ o, H a = some o := by
    obtain ⟨_, _, _, h, _⟩ := hr
    exact ⟨_, h⟩
  have w0 : Wd K ⟨B, H, [a]⟩ (us.zip ds) ([rootL K a m] ++ []) H := by
    refine ⟨B, fun p b => b, fun p b => .inl b, ?_, fun p hp => ?_, fun p hp => ?_, fun c hc => ?_, zip_dt hd, fun p o _ e => e, fun p hp => ?_, hb⟩
    · show [a].Nodup; simp
    · have : p = a := by simpa [fps, rootL] using hp
      subst this; exact hna
    · have : p = a := by simpa [fps, rootL] using hp
      subst this; exact .inl (.head _)
    · have : c = rootL K a m := by simpa using hc
      subst this; exact hr
    · have : p = a := by simpa using hp
      subst this; exact hoc
  have same : ∀ {L : List (V × D)} {C : List Root} {H' : Hp}, Wd K ⟨B, H, [a]⟩ L C H' → ∀ p o, p ≠ a → H p = some o → H' p = some o := fun {L C H'} w p o hp e => by
    obtain ⟨B', wb⟩ := w
    exact wb.kp p o (by simpa using hp) e
  refine hS m [] (us.zip ds) H _ (fun f hf => hf) w0 ?_ ?_ ?_ ?_ ?_
  · intro s m' σ' L2 C2 H' e hC2 w
    rw [show C2 = fun m => [rootL K a m] from hC2] at w
    have sm := same w
    obtain ⟨B', wb⟩ := w
    refine q .none m' .non H' B' ?_ sm wb.lo (fun p b => ?_) .non (wb.rt _ (.head _))
    · rw [hR]
      exact bd_ok e
    · rcases wb.hi p b with z | z
      · exact .inl z
      · exact .inr ⟨z, wb.bo p b⟩
  · intro s; exact s.elim
  · intro s; exact s.elim
  · rintro x m' v H' _ _ e ⟨rfl, rfl⟩ w
    have sm := same w
    obtain ⟨B', wb⟩ := w
    refine q x m' v H' B' ?_ sm wb.lo (fun p b => ?_) (wb.ft _ (.head _)) (wb.rt _ (.head _))
    · rw [hR]
      exact bd_ok e
    · rcases wb.hi p b with z | z
      · exact .inl z
      · exact .inr ⟨z, wb.bo p b⟩
  · refine ⟨fun e m' cls d H' ex w => ?_, fun z => nb ?_⟩
    · have sm := same w
      obtain ⟨B', wb⟩ := w
      have hm : ∀ p ∈ (XR e cls d).fp H', p ∈ fps (XR e cls d :: ([rootL K a m'] ++ [])) H' := fun p hp => by rw [fps_cons]; exact List.mem_append.mpr (.inl hp)
      have hnd := wb.nd
      rw [fps_cons] at hnd
      refine qx e m' cls d H' B' ?_ sm wb.lo (fun p b => ?_) (wb.rt _ (.head _)) (fun p hp => ⟨(wb.fr p (hm p hp)).resolve_left (fun z => ?_), wb.nb p (hm p hp)⟩) (List.nodup_append.mp hnd).1 (wb.rt _ (.tail _ (.head _)))
      · rw [hR]
        exact bd_exc ex
      · rcases wb.hi p b with z | z
        · exact .inl z
        · exact .inr ⟨z, wb.bo p b⟩
      · exact (List.nodup_append.mp hnd).2.2 p hp a (.head _) (List.mem_singleton.mp z)
    · rw [hR]
      exact bd_bad z
theorem body_P {K : PySem.W.Frag} {n : Nat} {mf : List D → SM Unit D} {ts : TS} {N : List Str} {H : Hp} {vs : List V} {Q : VK} {E : XK} (hsp : SpP K n mf vs H Q E)
    (h : ∀ (ds : List D) (O : Og), vs.length = ds.length → ∃ (R : SM Unit (Fl Unit Empty)), mf ds = fin R ∧ SV ⟨K, O, E0, noX, rfF⟩ (fun _ => []) ts (start N vs) (vs.zip ds) (fun _ => []) R (fun _ _ _ _ => True) (fun z _ _ _ => z.elim)) : ts { nx := fun _ H' => Q .non H', rt := Q } (start N vs) H := by
  obtain ⟨hlen, B, ds, x, hb, hd, ex, q⟩ := hsp
  refine body_PX (K := K) (XR := noX) (n := n) (mf := mf) (N := N) (E := E0) ⟨hlen, B, ds, hb, hd, (by rw [ex]; intro z; cases z), fun x' v H' B' ex' sm h1 h2 hd' => ?_, fun e cls d H' B' ex' => ?_⟩ h
  · rw [ex] at ex'
    cases ex'
    exact q v H' B' sm h1 h2 hd'
  · rw [ex] at ex'
    cases ex'
theorem body_D {K : PySem.W.Frag} {n : Nat} {mf : List D → SM D D} {ts : TS} {N : List Str} {H : Hp} {vs : List V} {Q : VK} {E : XK} (hsp : SpD K n mf vs H Q E)
    (h : ∀ (a : Addr) (us : List V) (ds : List D) (O : Og), vs = .ref a :: us → us.length = ds.length → ∃ (R : SM D (Fl Unit Empty)), mf ds = fin R ∧ SV ⟨K, O, E0, noX, rfF⟩ (fun m => [rootL K a m]) ts (start N vs) (us.zip ds) (fun m => [rootL K a m]) R (fun _ _ _ C2 => C2 = fun m => [rootL K a m]) (fun z _ _ _ => z.elim)) : ts { nx := fun _ H' => Q .non H', rt := Q } (start N vs) H := by
  obtain ⟨hlen, B, a, us, ds, m, x, m', e0, hb, hna, hd, hr, ex, q⟩ := hsp
  refine body_DX (K := K) (XR := noX) (n := n) (mf := mf) (N := N) (E := E0) ⟨hlen, B, a, us, ds, m, e0, hb, hna, hd, hr, (by rw [ex]; intro z; cases z), fun x' m2 v H' B' ex' hk h1 h2 hd' hr' => ?_, fun e m2 cls d H' B' ex' => ?_⟩ h
  · rw [ex] at ex'
    cases ex'
    exact q v H' B' hk h1 h2 hd' hr'
  · rw [ex] at ex'
    cases ex'
end
section
open SM
variable {X : Cx} {μ τ τ' ρ : Type} {G : Gx} {σ : St} {L : List (V × D)} {C Cp : μ → List Root} {te ta tb tc : TE} {tt tu : TT} {t u : TS} {E E1 E2 E3 : SM μ D} {T T1 T2 : SM μ Bool} {Jn : Shp μ τ} {Jl : Shp μ ρ} {i j : Nat} {v : V} {x d : D} {l : Addr}
/-- a root is frozen -/
theorem sv_freeze {R : SM μ (Fl τ ρ)} {C' : μ → List Root} (hC : ∀ m, (C m).Perm (rootL G.K l d :: C' m)) (hl : l ∉ G.O.fp) (h : SV G Cp t σ ((.ref l, d) :: L) C' R Jn Jl) : SV G Cp t σ L C R Jn Jl := by
  intro m F L' H e s w q1 q2 q3 q4 b
  have w2 : Wd G.K G.O ((.ref l, d) :: L') (C' m ++ F) H := Wd.freeze (C := C' m ++ F) (w.perm ((hC m).append_right F)) hl
  exact sv_more (L1 := [(.ref l, d)]) h s w2 q1 q2 q3 q4 b
/-- roots forgotten -/
theorem sv_drop {R : SM μ (Fl τ ρ)} {C' : μ → List Root} (hC : ∀ m, (C' m).Sublist (C m)) (h : SV G Cp t σ L C' R Jn Jl) : SV G Cp t σ L C R Jn Jl :=
  fun m F L' H e s w q1 q2 q3 q4 b => h m F L' H e s (w.subC ((hC m).append_right F)) q1 q2 q3 q4 b
/-- x = [..], a root -/
theorem sv_new {ta : TA} {Es : SM μ (List D)} {k : D → SM μ (Fl τ ρ)} {σ' : V → St} {C' : Addr → D → μ → List Root} (hc : Sub Cp C) (h : AV G ta σ L C Es) (hσ : ∀ v, σ.set i (some v) = σ' v) (hC : ∀ p d m, (rootL G.K p d :: C m).Perm (C' p d m))
    (hk : ∀ p d, p ∉ G.O.fp → SV G Cp u (σ' (.ref p)) L (C' p d) (k d) Jn Jl) : SV G Cp (tSeq (tAsg (tLst ta) (gName i)) u) σ L C (bd (opL lstD Es) k) Jn Jl := by
  refine sv_bd hc fun m F L' H d s w q b => ?_
  refine h m F L' H _ s w (fun xs m1 vs H1 L2 e1 s2 i2 w1 => ?_) b.fst
  have b1 := b.snd e1
  unfold lstD at b1
  split at b1
  · next c =>
    refine ⟨by rw [i2.len]; exact c, fun p hp => ?_⟩
    show u d (σ.set i (some (.ref p))) _
    rw [hσ]
    have hpf : p ∉ G.O.fp := by
      obtain ⟨B, wb⟩ := w1
      exact wb.nofp hp
    have w2 : Wd G.K G.O L2 (rootL G.K p (.list xs) :: (C m1 ++ F)) (upd H1 p (.lst vs)) := w1.root hp i2
    have w3 : Wd G.K G.O L2 (C' p (.list xs) m1 ++ F) (upd H1 p (.lst vs)) := w2.perm ((hC p (.list xs) m1).append_right F)
    refine q (.list xs) m1 (σ' (.ref p)) [] (C' p (.list xs)) _ ?_ (w3.sub fun f hf => s2 f hf) (hk p (.list xs) hpf)
    show bd Es _ m = _
    rw [bd_ok e1]
    show of (lstD xs) m1 = _
    unfold lstD
    rw [if_pos c]; rfl
  · exact absurd rfl b1.2
/-- the root's object -/
theorem rootAt {K : PySem.W.Frag} {O : Og} {L : List (V × D)} {Z : List Root} {H : Hp} (w : Wd K O L (rootL K l d :: Z) H) : ∃ B ds vs, Wb K O B L (rootL K l d :: Z) H ∧ d = .list ds ∧ H l = some (.lst vs) ∧ DtAll K B H vs ds := by
  obtain ⟨B, wb⟩ := w
  obtain ⟨ds, vs, h1, h2, h3⟩ := wb.rt _ (.head _)
  exact ⟨B, ds, vs, wb, h1, h2, h3⟩
theorem sv_app {k : D → SM μ (Fl τ ρ)} {Z : μ → List Root} {C' : D → μ → List Root} (hc : Sub Cp C) (hv : σ[i]? = some (some (.ref l))) (h : EV G te σ L C E) (hC : ∀ m, (C m).Perm (rootL G.K l d :: Z m)) (hC' : ∀ d' m, (rootL G.K l d' :: Z m).Perm (C' d' m))
    (hk : ∀ d', SV G Cp u σ L (C' d') (k d') Jn Jl) : SV G Cp (tSeq (tDrop (tBM G.K "list" rAppend (tVar i) (tCons te tNil))) u) σ L C (bd (bd E fun x => of (appD d x)) k) Jn Jl := by
  refine sv_bd hc fun m F L' H e s w q b => ?_
  obtain ⟨B0, ds0, vs0, wb0, rfl, h0, _⟩ := rootAt (Z := Z m ++ F) (w.perm ((hC m).append_right F))
  refine ⟨.ref l, hv, .inl ⟨rfl, vs0, SqL.of h0⟩, h m F L' H _ s w (fun x m1 v H1 e1 w1 => ?_) b.fst⟩
  have b1 := b.snd e1
  obtain ⟨B, ds, vs, wb, ed, h1, hd⟩ := rootAt (Z := Z m1 ++ F) (w1.perm ((hC m1).append_right F))
  cases ed
  simp only [appD] at b1
  split at b1
  · next c =>
    refine ⟨l, vs, v, rfl, rfl, h1, by rw [hd.len]; exact c, ?_⟩
    have w2 : Wd G.K G.O ((v, x) :: L') (rootL G.K l (.list (ds0 ++ [x])) :: (Z m1 ++ F)) (upd H1 l (.lst (vs ++ [v]))) := Wd.put ⟨B, wb⟩ fun B' f hr => by
      obtain ⟨ds', us', e6, hA5, hda5⟩ := hr
      cases e6
      rw [h1] at hA5
      cases hA5
      exact hda5.app (.cons (f _ (.head _)) .nil)
    have w3 : Wd G.K G.O ((v, x) :: L') (C' (.list (ds0 ++ [x])) m1 ++ F) (upd H1 l (.lst (vs ++ [v]))) := w2.perm ((hC' _ m1).append_right F)
    refine q (.list (ds0 ++ [x])) m1 σ [] (C' (.list (ds0 ++ [x]))) _ ?_ (w3.sub fun f hf => .tail _ hf) (hk _)
    show bd E _ m = _
    rw [bd_ok e1]
    simp only [appD]
    rw [if_pos c]; rfl
  · exact absurd rfl b1.2
theorem sv_ext {k : D → SM μ (Fl τ ρ)} {Z : μ → List Root} {C' : D → μ → List Root} (hc : Sub Cp C) (hv : σ[i]? = some (some (.ref l))) (h : EV G te σ L C E) (hC : ∀ m, (C m).Perm (rootL G.K l d :: Z m)) (hC' : ∀ d' m, (rootL G.K l d' :: Z m).Perm (C' d' m))
    (hk : ∀ d', SV G Cp u σ L (C' d') (k d') Jn Jl) : SV G Cp (tSeq (tDrop (tBM G.K "list" rExtend (tVar i) (tCons te tNil))) u) σ L C (bd (bd E fun x => of (extD d x)) k) Jn Jl := by
  refine sv_bd hc fun m F L' H e s w q b => ?_
  obtain ⟨B0, ds0, vs0, wb0, rfl, h0, _⟩ := rootAt (Z := Z m ++ F) (w.perm ((hC m).append_right F))
  refine ⟨.ref l, hv, .inl ⟨rfl, vs0, SqL.of h0⟩, h m F L' H _ s w (fun x m1 v H1 e1 w1 => ?_) b.fst⟩
  have b1 := b.snd e1
  obtain ⟨B, ds, vs, wb, ed, h1, hd⟩ := rootAt (Z := Z m1 ++ F) (w1.perm ((hC m1).append_right F))
  cases ed
  cases x with
  | list es =>
    simp only [extD] at b1
    split at b1
    · next c =>
      obtain ⟨p, us, rfl, hl, ha⟩ := Dt.lst_inv (wb.ft _ (.head _))
      refine ⟨l, p, vs, us, rfl, rfl, h1, hl.2, by rw [hd.len, ha.len]; exact c, ?_⟩
      have w2 : Wd G.K G.O ((.ref p, .list es) :: L') (rootL G.K l (.list (ds0 ++ es)) :: (Z m1 ++ F)) (upd H1 l (.lst (vs ++ us))) := Wd.put ⟨B, wb⟩ fun B' f hr => by
        obtain ⟨ds', us', e6, hA5, hda5⟩ := hr
        cases e6
        rw [h1] at hA5
        cases hA5
        obtain ⟨p', us'', e7, hl', ha'⟩ := Dt.lst_inv (f _ (.head _))
        cases e7
        have e8 := hl'.2
        rw [hl.2] at e8
        cases e8
        exact hda5.app ha'
      have w3 : Wd G.K G.O ((.ref p, .list es) :: L') (C' (.list (ds0 ++ es)) m1 ++ F) (upd H1 l (.lst (vs ++ us))) := w2.perm ((hC' _ m1).append_right F)
      refine q (.list (ds0 ++ es)) m1 σ [] (C' (.list (ds0 ++ es))) _ ?_ (w3.sub fun f hf => .tail _ hf) (hk _)
      show bd E _ m = _
      rw [bd_ok e1]
      simp only [extD]
      rw [if_pos c]; rfl
    · exact absurd rfl b1.2
  | _ => exact absurd rfl b1.2
theorem ev_rlen {Z : μ → List Root} (hv : σ[i]? = some (some (.ref l))) (hC : ∀ m, (C m).Perm (rootL G.K l d :: Z m)) : EV G (tCB (fun xs H Q => ∃ x n, xs = [x] ∧ LenV G.K x H n ∧ Q (.int n) H) (tCons (tVar i) tNil)) σ L C (of (lenD [d])) := by
  intro m F L' H Q s w q b
  obtain ⟨B, ds, vs, wb, ed, h1, hd⟩ := rootAt (Z := Z m ++ F) (w.perm ((hC m).append_right F))
  subst ed
  refine ⟨.ref l, hv, .ref l, vs.length, rfl, .inl ⟨vs, SqL.of h1, rfl⟩, ?_⟩
  rw [hd.len]
  exact q _ m _ H rfl (w.fact fun _ _ => .int _)
theorem ev_sidx {Z : List Root} {E : SM D D} (hv : σ[i]? = some (some (.ref l))) (h : EV G te σ L (fun m => rootL G.K l m :: Z) E) : EV G (tOp (rIx G.K) (tVar i) te) σ L (fun m => rootL G.K l m :: Z) (bd E fun x => bd gets fun m => of (idxD m x)) := by
  intro m F L' H Q s w q b
  refine ⟨.ref l, hv, h m F L' H _ s w (fun x m1 v H1 e1 w1 => ?_) b.fst⟩
  have b1 : Bk G _ F L' (of (idxD m1 x) m1) := b.snd e1
  obtain ⟨B, ds, vs, wb, ed, h1, hd⟩ := rootAt (Z := Z ++ F) w1
  subst ed
  cases x with
  | int n =>
    simp only [idxD] at b1
    cases ea : atI ds n with
    | none => rw [ea] at b1; exact absurd rfl b1.2
    | some y =>
      obtain ⟨v', hv', hd'⟩ := atI_dt hd ea
      refine .inl ⟨l, vs, n, v', rfl, (wb.ft _ (.head _)).int_inv, SqL.of h1, hv', q y (.list ds) v' H1 ?_ ?_⟩
      · show bd E _ m = _
        rw [bd_ok e1]
        show of (idxD (.list ds) (.int n)) _ = _
        simp only [idxD]
        rw [ea]; rfl
      · have w2 : Wd G.K G.O ((v', y) :: (v, .int n) :: L') (rootL G.K l (.list ds) :: (Z ++ F)) H1 := ⟨B, wb.fact hd'⟩
        refine w2.sub fun f hf => ?_
        rcases List.mem_cons.mp hf with e | e
        · rw [e]; exact .head _
        · exact .tail _ (.tail _ e)
  | _ => exact absurd rfl b1.2
theorem sv_sset {Z : List Root} {E1 E2 : SM D D} {Cp : D → List Root} {Jn : Shp D τ} {Jl : Shp D ρ} {k : SM D (Fl τ ρ)} (hc : Sub Cp (fun m => rootL G.K l m :: Z)) (hv : σ[i]? = some (some (.ref l))) (h1 : EV G ta σ L (fun m => rootL G.K l m :: Z) E1) (h2 : EV G tb σ L (fun m => rootL G.K l m :: Z) E2)
    (hk : SV G Cp u σ L (fun m => rootL G.K l m :: Z) k Jn Jl) : SV G Cp (tSeq (tAsg ta (gSub (tVar i) tb rSetL)) u) σ L (fun m => rootL G.K l m :: Z) (bd (bd E1 fun y => bd E2 fun x => bd gets fun m => bd (of (setD m x y)) fun m' => puts m') fun _ => k) Jn Jl := by
  refine sv_bd hc fun m F L' H e s w q b => ?_
  refine h1 m F L' H _ s w (fun y m1 vy H1 e1 w1 => ?_) b.fst
  have b1 := b.snd e1
  refine ⟨.ref l, hv, h2 m1 F _ H1 _ (fun f hf => .tail _ (s f hf)) w1 (fun x m2 v H2 e2 w2 => ?_) (b1.fst.mono fun f hf => .tail _ hf)⟩
  have b2 : Bk G _ F L' (bd (of (setD m2 x y)) (fun m' => puts m') m2) := b1.snd e2
  obtain ⟨B, ds, vs, wb, ed, hl, hd⟩ := rootAt (Z := Z ++ F) w2
  subst ed
  cases x with
  | int n =>
    have hset : setD (.list ds) (.int n) y = (match ixN ds.length n with | some j => some (.list (ds.set j y)) | none => none) := rfl
    cases ea : ixN ds.length n with
    | none =>
      rw [hset, ea] at b2
      exact absurd rfl b2.2
    | some j =>
      rw [ea] at hset
      refine ⟨l, vs, n, j, rfl, (wb.ft _ (.head _)).int_inv, hl, by rw [hd.len]; exact ea, ?_⟩
      have w3 : Wd G.K G.O ((v, .int n) :: (vy, y) :: L') (rootL G.K l (.list (ds.set j y)) :: (Z ++ F)) (upd H2 l (.lst (vs.set j vy))) := Wd.put ⟨B, wb⟩ fun B' f hr => by
        obtain ⟨ds', us', e6, hA5, hda5⟩ := hr
        cases e6
        rw [hl] at hA5
        cases hA5
        exact hda5.set (f _ (.tail _ (.head _)))
      refine q () (.list (ds.set j y)) σ [] (fun m => rootL G.K l m :: Z) _ ?_ (w3.sub fun f hf => .tail _ (.tail _ hf)) hk
      show bd E1 _ m = _
      rw [bd_ok e1, bd_ok e2]
      show bd (of (setD (.list ds) (.int n) y)) _ _ = _
      rw [hset]; rfl
  | _ => exact absurd rfl b2.2
/-- a def's body that returns a new list -/
def NV (G : Gx) (ts : TS) (σ : St) (L : List (V × D)) (R : SM Unit (Fl Unit Empty)) : Prop :=
  ∀ m F L' H (d : Ends), (∀ f ∈ L, f ∈ L') → Wd G.K G.O L' ([] ++ F) H → (∀ x m' a H', R m = .ok (.rt x) m' → a ∉ G.O.fp → Wd G.K G.O L' (rootL G.K a x :: F) H' → d.rt (.ref a) H') → Bk G (fun _ => []) F L' (R m) → ts d σ H
/-- x = f(..), a new root that becomes the state -/
theorem sv_newD {ta : TA} {Es : SM D (List D)} {mf : List D → SM Unit D} {n : Nat} {Cp C : D → List Root} {Z : List Root} {Jn : Shp D τ} {Jl : Shp D ρ} {k : SM D (Fl τ ρ)} {σ' : V → St} (hc : Sub Cp C) (hZ : ∀ m, Z.Sublist (C m)) (hn : ∀ ds, mf ds () ≠ .bad → ds.length = n) (h : AV G ta σ L C Es) (hσ : ∀ v, σ.set i (some v) = σ' v)
    (hk : ∀ a, a ∉ G.O.fp → SV G Cp u (σ' (.ref a)) L (fun m => rootL G.K a m :: Z) k Jn Jl) : SV G Cp (tSeq (tAsg (tCall (SpN G.K n mf) [] E0 ta) (gName i)) u) σ L C (bd (bd (cP mf Es) fun d => puts d) fun _ => k) Jn Jl := by
  refine sv_bd hc fun m F L' H e s w q b => ?_
  refine h m F L' H _ s w (fun xs m1 vs H1 L2 e1 s2 i2 w1 => ?_) b.fst.fst
  have b1 := b.fst.snd e1
  have er : cP mf Es m = px (mf xs) m1 := bd_ok e1
  show SpN G.K n mf (vs ++ []) H1 _ E0
  rw [List.append_nil]
  obtain ⟨x, ex⟩ := px_nb b1.2
  obtain ⟨B, wb⟩ := w1
  refine ⟨by rw [i2.len]; exact hn xs (by rw [ex]; intro z; cases z), B, xs, x, wb.bo, i2.dt wb.ft, ex, fun a H' B' sm h1 h2 hna hnB hr => ?_⟩
  · show u e (σ.set i (some (.ref a))) H'
    rw [hσ]
    have wg := wb.grow sm h1 h2
    have hz : (fps (Z ++ F) H').Sublist (fps (C m1 ++ F) H') := fps_sub ((hZ m1).append_right F)
    have w2 : Wb G.K G.O B' L2 (rootL G.K a x :: (Z ++ F)) H' := by
      refine ⟨wg.lo, wg.hi, ?_, ?_, ?_, ?_, wg.ft, wg.kp, wg.oc, wg.bo⟩
      · rw [fps_cons]
        exact List.nodup_cons.mpr ⟨fun z => wb.free hna (by rw [← wb.same sm]; exact hz.mem z), hz.nodup wg.nd⟩
      · intro p hp
        rw [fps_cons] at hp
        rcases List.mem_cons.mp hp with z | z
        · subst z; exact hnB
        · exact wg.nb p (hz.mem z)
      · intro p hp
        rw [fps_cons] at hp
        rcases List.mem_cons.mp hp with z | z
        · subst z; exact .inr (wb.none hna)
        · exact wg.fr p (hz.mem z)
      · intro c hc
        rcases List.mem_cons.mp hc with z | z
        · subst z; exact hr
        · exact wg.rt c (((hZ m1).append_right F).mem z)
    refine q () x (σ' (.ref a)) [] (fun m => rootL G.K a m :: Z) H' ?_ ⟨B', w2.fts fun f hf => w2.ft f (s2 f hf)⟩ (hk a (wb.nofp hna))
    show bd (cP mf Es) _ m = _
    rw [bd_ok (er.trans (px_ok ex))]; rfl
/-- the body of a def that makes a list -/
theorem body_N {K : PySem.W.Frag} {n : Nat} {mf : List D → SM Unit D} {ts : TS} {N : List Str} {H : Hp} {vs : List V} {Q : VK} {E : XK} (hsp : SpN K n mf vs H Q E)
    (h : ∀ (ds : List D) (O : Og), vs.length = ds.length → ∃ (R : SM Unit (Fl Unit Empty)), mf ds = fin R ∧ NV ⟨K, O, E0, noX, rfF⟩ ts (start N vs) (vs.zip ds) R) : ts { nx := fun _ H' => Q .non H', rt := Q } (start N vs) H := by
  obtain ⟨hlen, B, ds, x0, hb, hd, ex, q⟩ := hsp
  obtain ⟨R, hR, hS⟩ := h ds ⟨B, H, []⟩ hd.len
  have w0 : Wd K ⟨B, H, []⟩ (vs.zip ds) ([] ++ []) H := ⟨B, fun p b => b, fun p b => .inl b, List.nodup_nil, fun p hp => (by cases hp), fun p hp => (by cases hp), fun c hc => (by cases hc), zip_dt hd, fun p o _ e => e, fun p hp => (by cases hp), hb⟩
  rw [hR] at ex
  refine hS () [] (vs.zip ds) H _ (fun f hf => hf) w0 (fun x m' a H' e _ w => ?_) ⟨fun e m' cls d H' z => ?_, fun z => ?_⟩
  · have e2 : fin R () = .ok x m' := bd_ok e
    rw [e2] at ex
    cases ex
    obtain ⟨B', wb⟩ := w
    refine q a H' B' (fun p o e => wb.kp p o (by intro z; cases z) e) wb.lo (fun p b => ?_) ?_ (wb.nb a (.head _)) (wb.rt _ (.head _))
    · rcases wb.hi p b with z | z
      · exact .inl z
      · exact .inr ⟨z, wb.bo p b⟩
    · exact (wb.fr a (.head _)).resolve_left (by intro z; cases z)
  · have e2 : fin R () = .exc e m' := bd_exc z
    rw [e2] at ex
    cases ex
  · have e2 : fin R () = .bad := bd_bad z
    rw [e2] at ex
    cases ex
/-- return [..] of such a def -/
theorem nv_ret {ta : TA} {Es : SM Unit (List D)} (h : AV G ta σ L (fun _ => []) Es) : NV G (tSeq (tRet (tLst ta)) u) σ L (bd (opL lstD Es) fun x => pu (.rt x)) := by
  intro m F L' H d s w q b
  refine h m F L' H _ s w (fun xs m1 vs H1 L2 e1 s2 i2 w1 => ?_) b.fst.fst
  have b1 := b.fst.snd e1
  unfold lstD at b1
  split at b1
  · next c =>
    refine ⟨by rw [i2.len]; exact c, fun p hp => ?_⟩
    have hpf : p ∉ G.O.fp := by
      obtain ⟨B, wb⟩ := w1
      exact wb.nofp hp
    have w2 : Wd G.K G.O L2 (rootL G.K p (.list xs) :: F) (upd H1 p (.lst vs)) := Wd.root w1 hp i2
    refine q (.list xs) m1 p _ ?_ hpf (w2.sub fun f hf => s2 f hf)
    have e2 : opL lstD Es m = .ok (.list xs) m1 := by
      show bd Es _ m = _
      rw [bd_ok e1]
      show of (lstD xs) m1 = _
      unfold lstD
      rw [if_pos c]; rfl
    rw [bd_ok e2]; rfl
  · exact absurd rfl b1.2
theorem nv_if {A B : SM Unit (Fl Unit Empty)} {T : SM Unit Bool} {t1 t2 : TS} (h : TV G tt σ L (fun _ => []) T) (h1 : NV G (tSeq t1 u) σ L A) (h2 : NV G (tSeq t2 u) σ L B) : NV G (tSeq (tIfS tt t1 t2) u) σ L (bd T fun c => if c then A else B) :=
  fun m F L' H d s w q b => h m F L' H _ s w (fun c m1 H1 e1 w1 => by
    have er : bd T (fun c => if c then A else B) m = (if c then A else B) m1 := bd_ok e1
    rw [er] at b
    cases c with
    | true => exact h1 m1 F L' H1 d s w1 (fun x m' a H' e => q x m' a H' (er.trans e)) b
    | false => exact h2 m1 F L' H1 d s w1 (fun x m' a H' e => q x m' a H' (er.trans e)) b) b.fst
theorem nv_assoc {t1 t2 : TS} {R : SM Unit (Fl Unit Empty)} (h : NV G (tSeq t1 (tSeq t2 u)) σ L R) : NV G (tSeq (tSeq t1 t2) u) σ L R := h
theorem nv_skip {R : SM Unit (Fl Unit Empty)} (h : NV G u σ L R) : NV G (tSeq tNext u) σ L R := h
def sp_law (K : PySem.W.Frag) : Sp := fun vs H Q _ => ∃ (a : Addr) (ns : List Int), vs = [.ref a] ∧ SqL K H a (ns.map V.int) ∧ ns.length ≤ 63 ∧ (∀ z ∈ ns, Builtin.Int.intBits z ≤ 1048576) ∧ ∀ H', Q (.bl true) H'
theorem body_law {K : PySem.W.Frag} {ts : TS} {N : List Str} {H : Hp} {vs : List V} {Q : VK} {E : XK} (ml : D → SM D D) (hsp : sp_law K vs H Q E) (hm : ∀ ns : List Int, ns.length ≤ 63 → (∀ z ∈ ns, Builtin.Int.intBits z ≤ 1048576) → ∃ m', ml (scrD (ns.map .int)) .none = .ok (.bool true) m')
    (h : ∀ (v : V) (x : D) (O : Og), vs = [v] → ∃ (R : SM D (Fl Unit Empty)), ml x = fin R ∧ SV ⟨K, O, E0, noX, rfF⟩ (fun _ => []) ts (start N vs) [(v, x)] (fun _ => []) R (fun _ _ _ _ => True) (fun z _ _ _ => z.elim)) : ts { nx := fun _ H' => Q .non H', rt := Q } (start N vs) H := by
  obtain ⟨a, ns, rfl, hS, h63, hbits, q⟩ := hsp
  obtain ⟨m', em⟩ := hm ns h63 hbits
  obtain ⟨R, hR, hV⟩ := h (.ref a) (scrD (ns.map .int)) ⟨fun p => ∃ o, H p = some o, H, []⟩ rfl
  have hf : FzS K (fun p => ∃ o, H p = some o) H a (ns.map V.int) := by
    rcases hS with (z | ⟨u, z⟩) | z
    · exact .inl ⟨⟨_, z⟩, .inl z⟩
    · exact .inl ⟨⟨_, z⟩, .inr ⟨u, z⟩⟩
    · exact .inr z
  have w0 : Wd K ⟨fun p => ∃ o, H p = some o, H, []⟩ [(.ref a, scrD (ns.map .int))] ([] ++ []) H := by
    refine ⟨fun p => ∃ o, H p = some o, fun p b => b, fun p b => .inl b, List.nodup_nil, fun p hp => (by cases hp), fun p hp => (by cases hp), fun c hc => (by cases hc), fun f hf' => ?_, fun p o _ e => e, fun p hp => (by cases hp), fun p b => b⟩
    rcases List.mem_cons.mp hf' with e | e
    · subst e
      exact .scr hf (DtAll.ints ns)
    · cases e
  rw [hR] at em
  refine hV .none [] _ H _ (fun f hf => hf) w0 ?_ ?_ ?_ ?_ ?_
  · intro s m1 σ' L2 C2 H' e _ w
    have : fin R .none = .ok .none m1 := bd_ok e
    rw [this] at em
    cases em
  · intro s; exact s.elim
  · intro s; exact s.elim
  · rintro x m1 v H' _ _ e ⟨rfl, rfl⟩ w
    have : fin R .none = .ok x m1 := bd_ok e
    rw [this] at em
    cases em
    obtain ⟨B, hd⟩ := w.dt (.head _)
    rw [hd.bl_inv]
    exact q H'
  · refine ⟨fun e m1 cls d H' ex w => ?_, fun z => ?_⟩
    · have : fin R .none = .exc e m1 := bd_exc ex
      rw [this] at em
      cases em
    · have : fin R .none = .bad := bd_bad z
      rw [this] at em
      cases em
end
section
open SM
variable {μ τ ρ : Type} {G : Gx} {σ σ' : St} {L L0 : List (V × D)} {C Cp : μ → List Root} {t : TS} {Jn : Shp μ τ} {Jl : Shp μ ρ} {f : V × D}
theorem sub0 {C : μ → List Root} : Sub (fun _ => []) C := fun _ => List.nil_sublist _
theorem sub1 {r : μ → Root} {Z : μ → List Root} : Sub (fun m => [r m]) (fun m => r m :: Z m) := fun _ => List.Sublist.cons₂ _ (List.nil_sublist _)
theorem lnil : ∀ f ∈ ([] : List (V × D)), f ∈ L := fun _ h => by cases h
theorem lcons (h : f ∈ L) (h2 : ∀ f ∈ L0, f ∈ L) : ∀ g ∈ f :: L0, g ∈ L := fun g hg => by
  rcases List.mem_cons.mp hg with e | e
  · subst e; exact h
  · exact h2 g e
theorem sv_st {R : SM μ (Fl τ ρ)} (e : σ = σ') (h : SV G Cp t σ' L C R Jn Jl) : SV G Cp t σ L C R Jn Jl := by rw [e]; exact h
theorem nv_st {R : SM Unit (Fl Unit Empty)} (e : σ = σ') (h : NV G t σ' L R) : NV G t σ L R := by rw [e]; exact h
end
namespace SM
def addI : D → D → Option D
  | .int a, .int b => some (.int (a + b))
  | _, _ => none
def subI : D → D → Option D
  | .int a, .int b => some (.int (a - b))
  | _, _ => none
end SM
section
open SM
variable {G : Gx}
theorem os_ipa : OpS G (ipI fun i j => i + j) addI := opI0_s (f := fun i j => i + j) fun d e z h => by
  cases d <;> cases e <;> simp [addI] at h
  exact ⟨_, _, rfl, rfl, h.symm⟩
end
namespace SM
variable {μ α : Type}
/-- a thing whose state is d, which nobody has behind it -/
def wth (d : D) (x : SM D α) : SM μ α := fun m => match x d with
  | .ok a _ => .ok a m
  | _ => .bad
def cDN (mn : List D → SM Unit D) (Ns : SM μ (List D)) (mf : List D → SM D D) (Es : SM μ (List D)) : SM μ D := bd (cP mn Ns) fun d => bd Es fun xs => wth d (mf xs)
theorem wth_ok {d d' : D} {x : SM D α} {a : α} {m : μ} (h : x d = .ok a d') : wth d x m = .ok a m := by unfold wth; rw [h]
theorem wth_nb {d : D} {x : SM D α} {m : μ} (h : (wth d x : SM μ α) m ≠ .bad) : ∃ a d', x d = .ok a d' := by
  unfold wth at h
  cases e : x d with
  | ok a u => exact ⟨a, u, rfl⟩
  | exc e' u => rw [e] at h; exact absurd rfl h
  | bad => rw [e] at h; exact absurd rfl h
end SM
section
open SM
variable {μ : Type} {G : Gx} {σ : St} {L : List (V × D)} {C : μ → List Root}
theorem Bk.frm {α : Type} {C : μ → List Root} {F F' : List Root} {L : List (V × D)} {r : Rs μ α} (h : Bk G C F L r) (s : F.Sublist F') : Bk G C F' L r := ⟨fun e m' cls d H' q w => h.1 e m' cls d H' q (w.subC ((s.append_left _).cons₂ _)), h.2⟩
/-- a new root beside what stands -/
theorem Wb.newr {K : PySem.W.Frag} {O : Og} {B B' : Addr → Prop} {L : List (V × D)} {Z : List Root} {H H' : Hp} {a : Addr} {x : D} (wb : Wb K O B L Z H) (sm : Same H H') (h1 : ∀ p, B p → B' p) (h2 : ∀ p, B' p → B p ∨ (H p = Option.none ∧ ∃ o, H' p = some o)) (hna : H a = Option.none) (hnB : ¬ B' a) (hr : (rootL K a x).P B' H') : Wb K O B' L (rootL K a x :: Z) H' := by
  have wg := wb.grow sm h1 h2
  refine ⟨wg.lo, wg.hi, ?_, ?_, ?_, ?_, wg.ft, wg.kp, wg.oc, wg.bo⟩
  · rw [fps_cons]
    exact List.nodup_cons.mpr ⟨fun z => wb.free hna (by rw [← wb.same sm]; exact z), wg.nd⟩
  · intro p hp
    rw [fps_cons] at hp
    rcases List.mem_cons.mp hp with z | z
    · subst z; exact hnB
    · exact wg.nb p z
  · intro p hp
    rw [fps_cons] at hp
    rcases List.mem_cons.mp hp with z | z
    · subst z; exact .inr (wb.none hna)
    · exact wg.fr p z
  · intro c hc
    rcases List.mem_cons.mp hc with z | z
    · subst z; exact hr
    · exact wg.rt c z
theorem ev_cDN {ta tn : TA} {Es Ns : SM μ (List D)} {mf : List D → SM D D} {mn : List D → SM Unit D} {n k : Nat} (hk : ∀ ds, mn ds () ≠ .bad → ds.length = k) (hn : ∀ ds m, mf ds m ≠ .bad → ds.length = n) (h0 : AV G tn σ L C Ns) (h : AV G ta σ L C Es) :
    EV G (tCall (SpD G.K n mf) [] E0 (tCons (tCall (SpN G.K k mn) [] E0 tn) ta)) σ L C (cDN mn Ns mf Es) := by
  intro m F L' H Q s w q b
  refine h0 m F L' H _ s w (fun ys m1 us H1 L2 e1 s2 i2 w1 => ?_) b.fst.fst
  have b0 : Bk G C F L' (px (mn ys) m1) := b.fst.snd e1
  show SpN G.K k mn (us ++ []) H1 _ E0
  rw [List.append_nil]
  obtain ⟨d, ed⟩ := px_nb b0.2
  have ed1 : cP mn Ns m = .ok d m1 := (bd_ok e1).trans (px_ok ed)
  have b1 := b.snd ed1
  obtain ⟨B, wb⟩ := w1
  refine ⟨by rw [i2.len]; exact hk ys (by rw [ed]; intro z; cases z), B, ys, d, wb.bo, i2.dt wb.ft, ed, fun a H2 B2 sm g1 g2 hna hnB hr => ?_⟩
  have w2 : Wd G.K G.O L2 (rootL G.K a d :: (C m1 ++ F)) H2 := ⟨B2, wb.newr sm g1 g2 hna hnB hr⟩
  have w3 : Wd G.K G.O L2 (C m1 ++ (rootL G.K a d :: F)) H2 := w2.perm List.perm_middle.symm
  refine h m1 (rootL G.K a d :: F) L2 H2 _ (fun f hf => s2 f (s f hf)) w3 (fun xs m2 vs H3 L3 e2 s3 i3 w4 => ?_) ((b1.fst.mono s2).frm (List.sublist_cons_self _ _))
  have b2 : Bk G C F L' (wth d (mf xs) m2) := b1.snd e2
  obtain ⟨x, d', ex⟩ := wth_nb b2.2
  show SpD G.K n mf ((.ref a :: vs) ++ []) H3 Q E0
  rw [List.append_nil]
  obtain ⟨B3, wb3⟩ := w4.perm List.perm_middle
  have ha : ¬ B3 a := wb3.nb a (by rw [fps_cons]; exact .head _)
  refine ⟨by rw [List.length_cons, i3.len, hn xs d (by rw [ex]; intro z; cases z)], B3, a, vs, xs, d, x, d', rfl, wb3.bo, ha, i3.dt wb3.ft, wb3.rt _ (.head _), ex, fun v H' B' hk' h1 h2 hd hr' => ?_⟩
  have w5 := Wb.chg (Z := C m2 ++ F) wb3 hk' h1 h2 hr'
  have w6 : Wd G.K G.O ((v, x) :: L') (rootL G.K a d' :: (C m2 ++ F)) H' := ⟨B', (w5.fact hd).fts fun f hf => by
    rcases List.mem_cons.mp hf with e | e
    · subst e; exact hd
    · exact w5.ft f (s3 f (s2 f e))⟩
  refine q x m2 v H' ?_ (w6.subC (List.sublist_cons_self _ _))
  rw [show cDN mn Ns mf Es m = bd Es (fun xs => wth d (mf xs)) m1 from bd_ok ed1, bd_ok e2]
  exact wth_ok ex
end
/-- a test by a value's truth, its text named (for blocks of their own) -/
def tTru (K : PySem.W.Frag) (te : TE) : TT := fun σ H Q => te σ H fun x H' => ∃ k, TruV K x H' k ∧ Q k H'
section
variable {K : PySem.W.Frag} {O : Og} {B B' : Addr → Prop} {L L' : List (V × D)} {C C' Z F : List Root} {H H' : Hp} {a p : Addr}
/-- roots are changed within their own places -/
theorem Wb.swap (w : Wb K O B L (C ++ Z) H) (hfp : (fps C H).Perm (fps C' H')) (hk : ∀ q, q ∉ fps C H → H' q = H q) (hoc : ∀ q ∈ fps C H, ∃ o, H' q = some o) (hr : Kp B H B H' → ∀ c ∈ C', c.P B H') : Wb K O B L (C' ++ Z) H' := by
  have hnd := w.nd
  rw [fps_app] at hnd
  obtain ⟨n1, n2, n3⟩ := List.nodup_append.mp hnd
  have hC : ∀ q ∈ fps C H, q ∈ fps (C ++ Z) H := fun q hq => by rw [fps_app]; exact List.mem_append.mpr (.inl hq)
  have hZ : ∀ q ∈ fps Z H, q ∈ fps (C ++ Z) H := fun q hq => by rw [fps_app]; exact List.mem_append.mpr (.inr hq)
  have k : Kp B H B H' := fun q o b e => ⟨b, by rw [hk q fun z => w.nb q (hC q z) b]; exact e⟩
  have es : fps Z H' = fps Z H := fps_same k (fun c hc => w.rt c (List.mem_append.mpr (.inr hc))) fun q hq => hk q fun z => n3 q z q hq rfl
  have hm : ∀ q ∈ fps (C' ++ Z) H', q ∈ fps (C ++ Z) H := fun q hq => by
    rw [fps_app, es] at hq
    rcases List.mem_append.mp hq with e | e
    · exact hC q (hfp.mem_iff.mpr e)
    · exact hZ q e
  refine ⟨w.lo, w.hi, ?_, fun q hq => w.nb q (hm q hq), fun q hq => w.fr q (hm q hq), fun c hc => ?_, fun f hf => Dt.mono k _ _ (w.ft f hf), fun q o hq e => ?_, fun q hq => ?_, fun q b => ?_⟩
  · rw [fps_app, es]
    exact List.nodup_append.mpr ⟨hfp.nodup_iff.mp n1, n2, fun x hx y hy => n3 x (hfp.mem_iff.mpr hx) y hy⟩
  · rcases List.mem_append.mp hc with e | e
    · exact hr k c e
    · refine c.mono k (fun q hq => hk q fun z => n3 q z q (mem_fps e hq) rfl) (w.rt c (List.mem_append.mpr (.inr e)))
  · by_cases z : q ∈ fps C H
    · rcases w.fr q (hC q z) with y | y
      · exact absurd y hq
      · rw [y] at e; cases e
    · rw [hk q z]; exact w.kp q o hq e
  · by_cases z : q ∈ fps C H
    · exact hoc q z
    · rw [hk q z]; exact w.oc q hq
  · rw [hk q fun z => w.nb q (hC q z) b]; exact w.bo q b
/-- lists at ps, their items frozen -/
inductive Rws (K : PySem.W.Frag) (B : Addr → Prop) (H : Hp) : List Addr → List D → Prop
  | nil : Rws K B H [] []
  | cons {p : Addr} {ps : List Addr} {vs : List V} {ds : List D} {rs : List D} : H p = some (.lst vs) → DtAll K B H vs ds → Rws K B H ps rs → Rws K B H (p :: ps) (.list ds :: rs)
theorem Rws.mono (k : Kp B H B' H') : ∀ {ps : List Addr} {rs : List D}, (∀ q ∈ ps, H' q = H q) → Rws K B H ps rs → Rws K B' H' ps rs
  | _, _, _, .nil => .nil
  | p :: _, _, e, .cons h d r => .cons (by rw [e p (.head _)]; exact h) (Dt.monoAll k _ _ d) (Rws.mono k (fun q hq => e q (.tail _ hq)) r)
theorem Rws.occ : ∀ {ps : List Addr} {rs : List D}, Rws K B H ps rs → ∀ q ∈ ps, ∃ o, H q = some o
  | _, _, .nil, q, hq => by cases hq
  | _, _, .cons h d r, q, hq => by
    rcases List.mem_cons.mp hq with e | e
    · subst e; exact ⟨_, h⟩
    · exact r.occ q e
theorem Rws.len : ∀ {ps : List Addr} {rs : List D}, Rws K B H ps rs → ps.length = rs.length
  | _, _, .nil => rfl
  | _, _, .cons h d r => by rw [List.length_cons, List.length_cons, r.len]
theorem Rws.app : ∀ {ps : List Addr} {rs : List D} {p : Addr} {vs : List V} {ds : List D}, Rws K B H ps rs → H p = some (.lst vs) → DtAll K B H vs ds → Rws K B H (ps ++ [p]) (rs ++ [.list ds])
  | _, _, _, _, _, .nil, h, d => .cons h d .nil
  | _, _, _, _, _, .cons h' d' r, h, d => .cons h' d' (r.app h d)
theorem Rws.get : ∀ {ps : List Addr} {rs : List D} {i : Nat} {d : D}, Rws K B H ps rs → rs[i]? = some d → ∃ p vs ds, ps[i]? = some p ∧ d = .list ds ∧ H p = some (.lst vs) ∧ DtAll K B H vs ds
  | _, _, i, d, .nil, e => by cases e
  | _, _, 0, d, .cons h d' r, e => by cases e; exact ⟨_, _, _, rfl, rfl, h, d'⟩
  | _, _, i + 1, d, .cons h d' r, e => by
    obtain ⟨p, vs, ds, a1, a2, a3, a4⟩ := r.get (i := i) e
    exact ⟨p, vs, ds, a1, a2, a3, a4⟩
/-- the row at i is changed -/
theorem Rws.set (k : Kp B H B H') : ∀ {ps : List Addr} {rs : List D} {i : Nat} {p : Addr} {vs : List V} {ds : List D}, ps.Nodup → ps[i]? = some p → (∀ q, q ≠ p → H' q = H q) → H' p = some (.lst vs) → DtAll K B H' vs ds → Rws K B H ps rs → Rws K B H' ps (rs.set i (.list ds))
  | _, _, i, p, _, _, _, hi, _, _, _, .nil => by cases hi
  | _, _, 0, p, vs, ds, hn, hi, hq, hp, hd, .cons h d r => by
    cases hi
    exact .cons hp hd (r.mono k fun q hq' => hq q fun z => (List.nodup_cons.mp hn).1 (by rw [← z]; exact hq'))
  | p0 :: _, _, i + 1, p, vs, ds, hn, hi, hq, hp, hd, .cons h d r => by
    refine .cons ?_ (Dt.monoAll k _ _ d) (Rws.set k (i := i) (List.nodup_cons.mp hn).2 hi hq hp hd r)
    rw [hq p0 fun z => (List.nodup_cons.mp hn).1 (by rw [z]; exact List.mem_of_getElem? hi)]
    exact h
theorem Rws.dt (hb : ∀ p, B p → B' p) : ∀ {ps : List Addr} {rs : List D}, (∀ q ∈ ps, B' q) → Rws K B H ps rs → DtAll K B' H (ps.map .ref) rs
  | _, _, _, .nil => .nil
  | p :: _, _, e, .cons h d r => .cons (.lst ⟨e p (.head _), h⟩ (Dt.monoAll (fun q o b z => ⟨hb q b, z⟩) _ _ d)) (Rws.dt hb (fun q hq => e q (.tail _ hq)) r)
/-- a list at a of the lists at ps -/
def rootLL (K : PySem.W.Frag) (a : Addr) (ps : List Addr) (d : D) : Root where
  fp := fun _ => a :: ps
  same := fun _ _ _ => rfl
  P := fun B H => ∃ rs, d = .list rs ∧ H a = some (.lst (ps.map .ref)) ∧ Rws K B H ps rs
  mono := fun k e h => by
    obtain ⟨rs, h1, h2, h3⟩ := h
    exact ⟨rs, h1, by rw [e a (.head _)]; exact h2, h3.mono k fun q hq => e q (.tail _ hq)⟩
  occ := fun h q hq => by
    obtain ⟨rs, h1, h2, h3⟩ := h
    rcases List.mem_cons.mp hq with z | z
    · subst z; exact ⟨_, h2⟩
    · exact h3.occ q z
/-- the rows are frozen -/
theorem Wd.half {ps : List Addr} {d : D} (w : Wd K O L (rootLL K a ps d :: Z) H) (ho : ∀ q ∈ ps, q ∉ O.fp) : Wd K O L (rootL K a d :: Z) H := by
  obtain ⟨B, w⟩ := w
  have hnd := w.nd
  rw [fps_cons] at hnd
  obtain ⟨n1, n2, n3⟩ := List.nodup_append.mp hnd
  obtain ⟨rs, rfl, h0, h1⟩ := w.rt _ (.head _)
  have k : Kp B H (fun q => B q ∨ q ∈ ps) H := fun q o b e => ⟨.inl b, e⟩
  have hps : ∀ q ∈ ps, q ∈ fps (rootLL K a ps (.list rs) :: Z) H := fun q hq => by
    rw [fps_cons]
    exact List.mem_append.mpr (.inl (.tail _ hq))
  have hsub : ∀ q ∈ fps (rootL K a (.list rs) :: Z) H, q ∈ fps (rootLL K a ps (.list rs) :: Z) H := fun q hq => by
    rw [fps_cons] at hq ⊢
    rcases List.mem_append.mp hq with e | e
    · rw [List.mem_singleton.mp e]
      exact List.mem_append.mpr (.inl (.head _))
    · exact List.mem_append.mpr (.inr e)
  refine ⟨fun q => B q ∨ q ∈ ps, fun q b => .inl (w.lo q b), fun q b => ?_, ?_, fun q hq b => ?_, fun q hq => w.fr q (hsub q hq), fun c hc => ?_, fun f hf => Dt.mono k _ _ (w.ft f hf), w.kp, w.oc, fun q b => ?_⟩
  · rcases b with b | e
    · exact w.hi q b
    · exact .inr ((w.fr q (hps q e)).resolve_left (ho q e))
  · rw [fps_cons]
    exact List.nodup_cons.mpr ⟨fun z => n3 a (.head _) a z rfl, n2⟩
  · rcases b with b | e
    · exact w.nb q (hsub q hq) b
    · rw [fps_cons] at hq
      rcases List.mem_append.mp hq with z | z
      · rw [List.mem_singleton.mp z] at e
        exact (List.nodup_cons.mp n1).1 e
      · exact n3 q (.tail _ e) q z rfl
  · rcases List.mem_cons.mp hc with e | e
    · subst e
      exact ⟨rs, _, rfl, h0, h1.dt (fun _ b => .inl b) fun q hq => .inr hq⟩
    · exact c.mono k (fun _ _ => rfl) (w.rt c (.tail _ e))
  · rcases b with b | e
    · exact w.bo q b
    · exact h1.occ q e
/-- a row more -/
theorem Wb.row {ps : List Addr} {rs ds : List D} {ys : List V} (w : Wb K O B L (rootLL K a ps (.list rs) :: Z) H) (hp : H p = Option.none) (hd : DtAll K B H ys ds) : Wb K O B L (rootLL K a (ps ++ [p]) (.list (rs ++ [.list ds])) :: Z) (upd (upd H p (.lst ys)) a (.lst (ps.map .ref ++ [.ref p]))) := by
  have s : Same H (upd H p (.lst ys)) := fun b u q => by rw [upd_ne (ne_of_none q hp)]; exact q
  have nb : ¬ B p := fun b => by
    obtain ⟨o, ho⟩ := w.bo p b
    rw [ho] at hp; cases hp
  have w2 := w.newr (x := .list ds) s (fun _ b => b) (fun _ b => .inl b) hp nb ⟨ds, ys, rfl, upd_same, Dt.monoAll (fun q o b e => ⟨b, s q o e⟩) _ _ hd⟩
  have hpa : p ≠ a := fun z => by
    have := w.free hp
    rw [z, fps_cons] at this
    exact this (List.mem_append.mpr (.inl (.head _)))
  obtain ⟨rs', e1, h1, h2⟩ := w2.rt _ (.tail _ (.head _))
  cases e1
  have hfa : a ∉ ps := by
    have := w.nd
    rw [fps_cons] at this
    exact (List.nodup_cons.mp (List.nodup_append.mp this).1).1
  refine Wb.swap (C := [rootL K p (.list ds), rootLL K a ps (.list rs)]) (C' := [rootLL K a (ps ++ [p]) (.list (rs ++ [.list ds]))]) w2 ?_ ?_ ?_ ?_
  · show (p :: (a :: ps ++ [])).Perm (a :: (ps ++ [p]) ++ [])
    rw [List.append_nil, List.append_nil]
    exact (List.Perm.swap _ _ _).trans ((List.perm_append_singleton p ps).symm.cons _)
  · intro q hq
    exact upd_ne fun z => hq (by rw [z]; exact .tail _ (.head _))
  · intro q hq
    by_cases z : q = a
    · subst z; exact ⟨_, upd_same⟩
    · rw [upd_ne z]
      have hq2 : q = p ∨ q ∈ a :: ps := by simpa [fps, rootL, rootLL] using hq
      rcases hq2 with e | e
      · subst e; exact ⟨_, upd_same⟩
      · exact h2.occ q ((List.mem_cons.mp e).resolve_left z)
  · intro k c hc
    rw [List.mem_singleton.mp hc]
    refine ⟨_, rfl, by rw [upd_same, List.map_append]; rfl, ?_⟩
    refine Rws.app (h2.mono k fun q hq => upd_ne fun z => hfa (by rw [← z]; exact hq)) (by rw [upd_ne hpa]; exact upd_same) (Dt.monoAll k _ _ (Dt.monoAll (fun q o b e => ⟨b, s q o e⟩) _ _ hd))
end
section
open SM
variable {X : Cx} {μ τ τ' ρ : Type} {G : Gx} {σ : St} {L : List (V × D)} {C Cp : μ → List Root} {te ta tb tc : TE} {tt tu : TT} {t u : TS} {E E1 E2 E3 : SM μ D} {T T1 T2 : SM μ Bool} {Jn : Shp μ τ} {Jl : Shp μ ρ} {i j : Nat} {v : V} {x d : D} {l : Addr} {ps : List Addr}
/-- x = [list(r) for r in e] -/
theorem sv_copies {wi : TI} {I : SM μ (List D)} {ws : List Nat} {k : D → SM μ (Fl τ ρ)} {σ' σ2 : V → St} {C' : Addr → List Addr → D → μ → List Root} (hc : Sub Cp C) (hi : IV G wi σ L C I) (h2 : ∀ v, (wipe σ ws).set j (some v) = σ2 v) (h3 : ∀ v, (σ2 v)[j]? = some (some v)) (h4 : ∀ v, wipe (σ2 v) ws = wipe σ ws)
    (hσ : ∀ v, σ.set i (some v) = σ' v) (hC : ∀ p ps d m, (rootLL G.K p ps d :: C m).Perm (C' p ps d m)) (hk : ∀ p ps d, p ∉ G.O.fp → (∀ q ∈ ps, q ∉ G.O.fp) → SV G Cp u (σ' (.ref p)) L (C' p ps d) (k d) Jn Jl) :
    SV G Cp (tSeq (tAsg (tLc wi (gName j) tYes (tCB (fun xs H Q => ∃ p ys, xs = [.ref p] ∧ (SqL G.K H p ys ∨ SqT G.K H p ys) ∧ ∀ l, H l = none → Q (.ref l) (upd H l (.lst ys))) (tCons (tVar j) tNil)) ws) (gName i)) u) σ L C (bd (lc I (fun _ => pu true) (fun x => opL listD (ac (pu x) a0))) k) Jn Jl := by
  refine sv_bd hc fun m F L' H e s w q bk => ?_
  refine hi m F L' H _ s w (fun xs m1 It H1 L1 e1 s1 w1 hit => ?_) bk.fst
  have b1 := bk.snd e1
  intro A hA
  have hAO : A ∉ G.O.fp := by
    obtain ⟨B, wb⟩ := w1
    exact wb.nofp hA
  have w0 : Wd G.K G.O L1 (C m1 ++ (rootLL G.K A [] (.list []) :: F)) (upd H1 A (.lst [])) := by
    obtain ⟨B, wb⟩ := (w1.acc hA).perm List.perm_middle
    refine Wd.perm (C := rootLL G.K A [] (.list []) :: (C m1 ++ F)) ⟨B, Wb.swap (C := [rootL G.K A (.list [])]) (C' := [rootLL G.K A [] (.list [])]) wb (.refl _) (fun _ _ => rfl) (fun q hq => ?_) fun _ c hc => ?_⟩ List.perm_middle.symm
    · have : q = A := by simpa [fps, rootL] using hq
      subst this; exact ⟨_, upd_same⟩
    · rw [List.mem_singleton.mp hc]
      exact ⟨[], rfl, upd_same, .nil⟩
  refine ⟨fun i n H' => n = xs.length - i ∧ i ≤ xs.length ∧ ∃ acc ps, lcS (fun _ => pu true) (fun x => opL listD (ac (pu x) a0)) xs [] m1 = lcS (fun _ => pu true) (fun x => opL listD (ac (pu x) a0)) (xs.drop i) acc m1 ∧ (∀ q ∈ ps, q ∉ G.O.fp) ∧ Wd G.K G.O L1 (C m1 ++ (rootLL G.K A ps (.list acc) :: F)) H', ⟨xs.length, by simp, Nat.zero_le _, [], [], rfl, fun q hq => (by cases hq), w0⟩, ?_⟩
  rintro i n H' ⟨rfl, hin, acc, ps, ez, ho, wz⟩
  have hI := hit _ _ _ (fun f hf => hf) wz i
  by_cases hlt : i < xs.length
  · have hx : xs[i]? = some xs[i] := List.getElem?_eq_getElem hlt
    obtain ⟨go, hy⟩ := hI.1 _ hx
    rw [forS_step hx] at ez
    refine .inr ⟨go, fun H'' => ∃ acc ps, lcS (fun _ => pu true) (fun x => opL listD (ac (pu x) a0)) xs [] m1 = lcS (fun _ => pu true) (fun x => opL listD (ac (pu x) a0)) (xs.drop (i + 1)) acc m1 ∧ (∀ q ∈ ps, q ∉ G.O.fp) ∧ Wd G.K G.O L1 (C m1 ++ (rootLL G.K A ps (.list acc) :: F)) H'', fun H'' hN => ⟨xs.length - (i + 1), by omega, rfl, hlt, hN⟩, fun v H2 y => ?_⟩
    have w2 := hy v H2 y
    have b2 : Bk G C F L' (lcS (fun _ => pu true) (fun x => opL listD (ac (pu x) a0)) (xs[i] :: xs.drop (i + 1)) acc m1) := by
      have := b1.fst
      rw [ez] at this
      exact this
    have e4 : lcS (fun _ => pu true) (fun x => opL listD (ac (pu x) a0)) (xs[i] :: xs.drop (i + 1)) acc m1 = (bd (of (listD [xs[i]])) fun y => if acc.length < sizeLine then lcS (fun _ => pu true) (fun x => opL listD (ac (pu x) a0)) (xs.drop (i + 1)) (acc ++ [y]) else bad) m1 := rfl
    rw [e4] at b2
    show wipe ((wipe σ ws).set j (some v)) ws = wipe σ ws ∧ _
    rw [h2]
    refine ⟨h4 v, ?_⟩
    refine ⟨v, h3 v, ?_⟩
    obtain ⟨B, wb⟩ := w2.perm List.perm_middle
    -- the row's items
    have row : ∃ p ys ds, v = .ref p ∧ (SqL G.K H2 p ys ∨ SqT G.K H2 p ys) ∧ DtAll G.K B H2 ys ds ∧ listD [xs[i]] = some (.list ds) := by
      have hd := wb.ft _ (.head _)
      generalize hxi : xs[i] = xi at hd b2
      cases xi with
      | list ds =>
        obtain ⟨p, ys, rfl, hl, ha⟩ := Dt.lst_inv hd
        exact ⟨p, ys, ds, rfl, .inl hl.sq, ha, rfl⟩
      | tuple ds =>
        obtain ⟨p, ys, rfl, hl, ha⟩ := Dt.tup_inv hd
        exact ⟨p, ys, ds, rfl, .inr hl.sq, ha, rfl⟩
      | _ => exact absurd rfl b2.2
    obtain ⟨p, ys, ds, rfl, hsq, hda, hls⟩ := row
    refine ⟨p, ys, rfl, hsq, fun r hr => ?_⟩
    obtain ⟨rs0, e0, h0, hrw⟩ := wb.rt _ (.head _)
    cases e0
    have hrA : r ≠ A := fun z => by
      rw [z, h0] at hr; cases hr
    rw [hls] at b2
    have b3 : Bk G C F L' ((if acc.length < sizeLine then lcS (fun _ => pu true) (fun x => opL listD (ac (pu x) a0)) (xs.drop (i + 1)) (acc ++ [.list ds]) else bad) m1) := b2
    by_cases hz : acc.length < sizeLine
    · refine ⟨ps.map .ref, by rw [upd_ne (Ne.symm hrA)]; exact h0, by rw [List.length_map, hrw.len]; exact hz, acc ++ [.list ds], ps ++ [r], ez.trans ?_, fun q hq => ?_, ?_⟩
      · rw [e4, hls]
        show (fun y => if acc.length < sizeLine then lcS (fun _ => pu true) (fun x => opL listD (ac (pu x) a0)) (xs.drop (i + 1)) (acc ++ [y]) else bad) (.list ds) m1 = _
        simp only [hz, if_true]
      · rcases List.mem_append.mp hq with z | z
        · exact ho q z
        · rw [List.mem_singleton.mp z]
          exact wb.nofp hr
      · have w4 := wb.row hr hda
        exact (Wd.perm (C := rootLL G.K A (ps ++ [r]) (.list (acc ++ [.list ds])) :: (C m1 ++ F)) ⟨B, w4⟩ List.perm_middle.symm).sub fun f hf => .tail _ hf
    · rw [if_neg hz] at b3
      exact absurd rfl b3.2
  · have ei : i = xs.length := by omega
    subst ei
    rw [List.drop_length] at ez
    refine .inl ⟨hI.2 (Nat.le_refl _), ?_⟩
    show u e (σ.set _ (some (.ref A))) H'
    rw [hσ]
    have w5 : Wd G.K G.O L1 (C' A ps (.list acc) m1 ++ F) H' := (wz.perm List.perm_middle).perm ((hC A ps (.list acc) m1).append_right F)
    refine q (.list acc) m1 (σ' (.ref A)) [] (C' A ps (.list acc)) H' ?_ (w5.sub fun f hf => s1 f hf) (hk A ps (.list acc) hAO ho)
    show bd I _ m = _
    rw [bd_ok e1]
    show bd (lcS _ _ xs []) _ m1 = _
    rw [bd_ok (show lcS (fun _ => pu true) (fun x => opL listD (ac (pu x) a0)) xs [] m1 = .ok acc m1 from ez)]; rfl
theorem sv_half {R : SM μ (Fl τ ρ)} {Z : μ → List Root} {C' : μ → List Root} (hC : ∀ m, (C m).Perm (rootLL G.K l ps d :: Z m)) (hC' : ∀ m, (rootL G.K l d :: Z m).Perm (C' m)) (ho : ∀ q ∈ ps, q ∉ G.O.fp) (h : SV G Cp t σ L C' R Jn Jl) : SV G Cp t σ L C R Jn Jl :=
  fun m F L' H e s w q1 q2 q3 q4 b => h m F L' H e s (((w.perm ((hC m).append_right F)).half ho).perm ((hC' m).append_right F)) q1 q2 q3 q4 b
theorem rootLLAt {K : PySem.W.Frag} {O : Og} {L : List (V × D)} {Z : List Root} {H : Hp} (w : Wd K O L (rootLL K l ps d :: Z) H) : ∃ B rs, Wb K O B L (rootLL K l ps d :: Z) H ∧ d = .list rs ∧ H l = some (.lst (ps.map .ref)) ∧ Rws K B H ps rs := by
  obtain ⟨B, wb⟩ := w
  obtain ⟨rs, h1, h2, h3⟩ := wb.rt _ (.head _)
  exact ⟨B, rs, wb, h1, h2, h3⟩
theorem ev_rlenLL {Z : μ → List Root} (hv : σ[i]? = some (some (.ref l))) (hC : ∀ m, (C m).Perm (rootLL G.K l ps d :: Z m)) : EV G (tCB (fun xs H Q => ∃ x n, xs = [x] ∧ LenV G.K x H n ∧ Q (.int n) H) (tCons (tVar i) tNil)) σ L C (of (lenD [d])) := by
  intro m F L' H Q s w q b
  obtain ⟨B, rs, wb, ed, h1, hd⟩ := rootLLAt (Z := Z m ++ F) (w.perm ((hC m).append_right F))
  subst ed
  refine ⟨.ref l, hv, .ref l, (ps.map V.ref).length, rfl, .inl ⟨_, SqL.of h1, rfl⟩, ?_⟩
  rw [List.length_map, hd.len]
  exact q _ m _ H rfl (w.fact fun _ _ => .int _)
/-- len(x[i]) -/
theorem ev_llen {Z : μ → List Root} (hv : σ[i]? = some (some (.ref l))) (h : EV G te σ L C E) (hC : ∀ m, (C m).Perm (rootLL G.K l ps d :: Z m)) : EV G (tCB (fun xs H Q => ∃ x n, xs = [x] ∧ LenV G.K x H n ∧ Q (.int n) H) (tCons (tOp (rIx G.K) (tVar i) te) tNil)) σ L C (bd E fun x => bd (of (idxD d x)) fun y => of (lenD [y])) := by
  intro m F L' H Q s w q b
  refine ⟨.ref l, hv, h m F L' H _ s w (fun x m1 v H1 e1 w1 => ?_) b.fst⟩
  have b1 := b.snd e1
  obtain ⟨B, rs, wb, ed, h1, hd⟩ := rootLLAt (Z := Z m1 ++ F) (w1.perm ((hC m1).append_right F))
  subst ed
  cases x with
  | int n =>
    simp only [idxD] at b1
    cases ea : atI rs n with
    | none => rw [ea] at b1; exact absurd rfl b1.2
    | some y =>
      unfold atI at ea
      cases ei : ixN rs.length n with
      | none => rw [ei] at ea; cases ea
      | some k =>
        rw [ei] at ea
        obtain ⟨p, vs, ds, hp, rfl, hvp, hda⟩ := hd.get (show rs[k]? = some y from ea)
        refine .inl ⟨l, _, n, .ref p, rfl, (wb.ft _ (.head _)).int_inv, SqL.of h1, ?_, ?_⟩
        · unfold atI
          rw [List.length_map, hd.len, ei]
          show (ps.map V.ref)[k]? = _
          rw [List.getElem?_map, hp]; rfl
        · refine ⟨.ref p, vs.length, rfl, .inl ⟨vs, SqL.of hvp, rfl⟩, ?_⟩
          rw [hda.len]
          refine q _ m1 _ H1 ?_ ((w1.sub fun f hf => .tail _ hf).fact fun _ _ => .int _)
          show bd E _ m = _
          rw [bd_ok e1]
          simp only [idxD]
          unfold atI
          rw [ei]
          show bd (of (rs[k]?)) _ m1 = _
          rw [show rs[k]? = some (.list ds) from ea]; rfl
  | _ => exact absurd rfl b1.2
end
namespace SM
def set2D (d x y z : D) : Option D := match idxD d x with
  | some r => match setD r y z with
    | some r' => setD d x r'
    | none => none
  | none => none
end SM
section
open SM
variable {X : Cx} {μ τ τ' ρ : Type} {G : Gx} {σ : St} {L : List (V × D)} {C Cp : μ → List Root} {te ta tb tc : TE} {tt tu : TT} {t u : TS} {E E1 E2 E3 : SM μ D} {T T1 T2 : SM μ Bool} {Jn : Shp μ τ} {Jl : Shp μ ρ} {i j : Nat} {v : V} {x d : D} {l : Addr} {ps : List Addr}
/-- x[i][j] = e -/
theorem sv_set2 {k : D → SM μ (Fl τ ρ)} {Z : μ → List Root} {C' : D → μ → List Root} (hc : Sub Cp C) (hv : σ[i]? = some (some (.ref l))) (h1 : EV G ta σ L C E1) (h2 : EV G tb σ L C E2) (h3 : EV G tc σ L C E3) (hC : ∀ m, (C m).Perm (rootLL G.K l ps d :: Z m)) (hC' : ∀ d' m, (rootLL G.K l ps d' :: Z m).Perm (C' d' m))
    (hk : ∀ d', SV G Cp u σ L (C' d') (k d') Jn Jl) : SV G Cp (tSeq (tAsg ta (gSub (tOp (rIx G.K) (tVar i) tb) tc rSetL)) u) σ L C (bd (bd E1 fun z => bd E2 fun x => bd (of (idxD d x)) fun _ => bd E3 fun y => of (set2D d x y z)) k) Jn Jl := by
  refine sv_bd hc fun m F L' H e s w q b => ?_
  refine h1 m F L' H _ s w (fun z m1 vz H1 e1 w1 => ?_) b.fst
  have b1 := b.snd e1
  refine ⟨.ref l, hv, h2 m1 F _ H1 _ (fun f hf => .tail _ (s f hf)) w1 (fun x m2 v H2 e2 w2 => ?_) (b1.fst.mono fun f hf => .tail _ hf)⟩
  have b2 := b1.snd e2
  obtain ⟨B, rs, wb, ed, hl, hd⟩ := rootLLAt (Z := Z m2 ++ F) (w2.perm ((hC m2).append_right F))
  subst ed
  cases x with
  | int n =>
    cases ei : ixN rs.length n with
    | none =>
      have : idxD (.list rs) (.int n) = none := by simp only [idxD]; unfold atI; rw [ei]; rfl
      rw [this] at b2
      exact absurd rfl b2.2
    | some a =>
      have ha := (ixN_seq ei).2.1
      obtain ⟨y, hy⟩ : ∃ y, rs[a]? = some y := ⟨_, List.getElem?_eq_getElem ha⟩
      have hidx : idxD (.list rs) (.int n) = some y := by
        simp only [idxD]; unfold atI; rw [ei]; exact hy
      rw [hidx] at b2
      have b3 : Bk G C F L' (bd E3 (fun y => of (set2D (.list rs) (.int n) y z)) m2) := b2
      obtain ⟨p, vs, ds, hp, rfl, hvp, hda⟩ := hd.get hy
      refine .inl ⟨l, _, n, .ref p, rfl, (wb.ft _ (.head _)).int_inv, SqL.of hl, ?_, ?_⟩
      · unfold atI
        rw [List.length_map, hd.len, ei]
        show (ps.map V.ref)[a]? = _
        rw [List.getElem?_map, hp]; rfl
      refine h3 m2 F _ H2 _ (fun f hf => .tail _ (.tail _ (s f hf))) w2 (fun y m3 vy H3 e3 w3 => ?_) (b3.fst.mono fun f hf => .tail _ (.tail _ hf))
      have b4 := b3.snd e3
      obtain ⟨B3, rs3, wb3, ed3, hl3, hd3⟩ := rootLLAt (Z := Z m3 ++ F) (w3.perm ((hC m3).append_right F))
      cases ed3
      obtain ⟨p3, vs3, ds3, hp3, ed4, hvp3, hda3⟩ := hd3.get hy
      cases ed4
      rw [hp] at hp3
      cases hp3
      have hset : set2D (.list rs) (.int n) y z = (match setD (.list ds) y z with | some r' => setD (.list rs) (.int n) r' | none => none) := by
        unfold set2D
        rw [hidx]
      cases y with
      | int n2 =>
        have hs1 : setD (.list ds) (.int n2) z = (match ixN ds.length n2 with | some j => some (.list (ds.set j z)) | none => none) := rfl
        cases ej : ixN ds.length n2 with
        | none =>
          rw [ej] at hs1
          rw [hset, hs1] at b4
          exact absurd rfl b4.2
        | some c =>
          rw [ej] at hs1
          have hs2 : set2D (.list rs) (.int n) (.int n2) z = some (.list (rs.set a (.list (ds.set c z)))) := by
            rw [hset, hs1]
            show setD (.list rs) (.int n) (.list (ds.set c z)) = _
            show (match ixN rs.length n with | some j => some (PyData.list (rs.set j (.list (ds.set c z)))) | none => none) = _
            rw [ei]
          refine ⟨p, vs3, n2, c, rfl, (wb3.ft _ (.head _)).int_inv, hvp3, by rw [hda3.len]; exact ej, ?_⟩
          have hps : p ∈ ps := List.mem_of_getElem? hp
          have hnd : (l :: ps).Nodup := by
            have := wb3.nd
            rw [fps_cons] at this
            exact (List.nodup_append.mp this).1
          have hpl : l ≠ p := fun zz => (List.nodup_cons.mp hnd).1 (by rw [zz]; exact hps)
          have w4 : Wb G.K G.O B3 ((vy, .int n2) :: (v, .int n) :: (vz, z) :: L') ([rootLL G.K l ps (.list (rs.set a (.list (ds.set c z))))] ++ (Z m3 ++ F)) (upd H3 p (.lst (vs3.set c vz))) := by
            refine Wb.swap (C := [rootLL G.K l ps (.list rs)]) wb3 (.refl _) (fun q hq => upd_ne fun zz => hq ?_) (fun q hq => ?_) fun kk c' hc' => ?_
            · rw [zz, fps_cons]
              exact List.mem_append.mpr (.inl (.tail _ hps))
            · by_cases zz : q = p
              · subst zz; exact ⟨_, upd_same⟩
              · rw [upd_ne zz]
                have hq2 : q ∈ l :: ps := by simpa [fps, rootLL] using hq
                rcases List.mem_cons.mp hq2 with e9 | e9
                · subst e9; exact ⟨_, hl3⟩
                · exact hd3.occ q e9
            · rw [List.mem_singleton.mp hc']
              refine ⟨_, rfl, by rw [upd_ne hpl]; exact hl3, hd3.set kk (List.nodup_cons.mp hnd).2 hp (fun q hq => upd_ne hq) upd_same ?_⟩
              exact (Dt.monoAll kk _ _ hda3).set (Dt.mono kk _ _ (wb3.ft _ (.tail _ (.tail _ (.head _)))))
          have w5 : Wd G.K G.O ((vy, .int n2) :: (v, .int n) :: (vz, z) :: L') (C' (.list (rs.set a (.list (ds.set c z)))) m3 ++ F) (upd H3 p (.lst (vs3.set c vz))) := (Wd.perm (C := rootLL G.K l ps (.list (rs.set a (.list (ds.set c z)))) :: (Z m3 ++ F)) ⟨B3, w4⟩ ((hC' _ m3).append_right F))
          refine q (.list (rs.set a (.list (ds.set c z)))) m3 σ [] (C' (.list (rs.set a (.list (ds.set c z))))) _ ?_ (w5.sub fun f hf => .tail _ (.tail _ (.tail _ hf))) (hk _)
          show bd E1 _ m = _
          rw [bd_ok e1, bd_ok e2, hidx]
          show bd E3 _ m2 = _
          rw [bd_ok e3, hs2]; rfl
      | _ =>
        rw [hset] at b4
        exact absurd rfl b4.2
  | _ => exact absurd rfl b2.2
end
section
open PySem
open PySem.Sem (wp)
abbrev IsZ (h : Heap) (z TI TO : Addr) (f0 : Value) (b : Bool) : Prop :=
  h.get? z = some { cls := .type "zip", dict := none, data := .fields #[f0, .bool b, .bool false, .ref TI, .ref TO], slots := #[] }
abbrev IsTr (h : Heap) (T : Addr) (a b c : Value) : Prop := h.get? T = some { cls := .type "tuple", data := .seq #[a, b, c] }
theorem typeCall_zip_3 (a b c : Value) : checkTypeCall "zip" ⟨[a, b, c], []⟩ = pure () := by kernel_rfl
theorem newCall_zip_3 (a b c : Value) : checkBuiltinCall "zip.__new__" ⟨[.type "zip", a, b, c], []⟩ = pure () := by kernel_rfl
theorem args_object_init_4 (a b c d : Value) : argsOk "object.__init__" ⟨[a, b, c, d], []⟩ := by
  unfold argsOk; rw [signature?_of (id := "object.__init__") (n := ['_', '_', 't', 'i', 'n', 'i', '_', '_']) (o := ['t', 'c', 'e', 'j', 'b', 'o']) (by kernel_rfl) F.owner_object]; kernel_rfl
abbrev z3H1 (h : Heap) (a n : Int) : Heap := h.push { cls := .type "range_iterator", data := .fields #[rawInt a, rawInt n, rawInt 1] }
abbrev z3H2 (h : Heap) (a n : Int) (l1 : Addr) : Heap := (z3H1 h a n).push { cls := .type "list_iterator", data := .fields #[.ref l1, .int 0 0] }
abbrev z3H3 (h : Heap) (a n : Int) (l1 l2 : Addr) : Heap := (z3H2 h a n l1).push { cls := .type "list_iterator", data := .fields #[.ref l2, .int 0 0] }
abbrev z3H4 (h : Heap) (a n : Int) (l1 l2 : Addr) : Heap := (z3H3 h a n l1 l2).push { cls := .type "tuple", data := .seq #[.ref h.objs.size, .ref (z3H1 h a n).objs.size, .ref (z3H2 h a n l1).objs.size] }
abbrev z3H5 (h : Heap) (a n : Int) (l1 l2 : Addr) : Heap := (z3H4 h a n l1 l2).push { cls := .type "tuple", data := .seq #[.none, .none, .none] }
abbrev z3H6 (h : Heap) (a n : Int) (l1 l2 : Addr) : Heap := (z3H5 h a n l1 l2).push { cls := .type "zip", data := .fields #[.none, .bool false, .bool false, .ref (z3H3 h a n l1 l2).objs.size, .ref (z3H4 h a n l1 l2).objs.size] }
theorem meets_zip_new3 (r l1 l2 : Addr) (a b : Int) (t u v : Tok) (xs ys : Array Value) (hsm : Builtin.Range.small a b 1 = true) :
    Meets (Builtin.«zip.__new__» ⟨[.type "zip", .ref r, .ref l1, .ref l2], []⟩) (fun _ R s => IsRange s.heap r a b 1 t u v ∧ s.heap.IsList l1 xs ∧ s.heap.IsList l2 ys ∧
      R (.ok (.ret (.ref (z3H5 s.heap a (Builtin.Range.rangeSize a b 1) l1 l2).objs.size))) { s with heap := z3H6 s.heap a (Builtin.Range.rangeSize a b 1) l1 l2 }) :=
  .of_wp fun prog w A R s h => by
    obtain ⟨hp, g, d, tk, os⟩ := s; obtain ⟨hr, hl1, hl2, h⟩ := h
    have hsub := sub_zip
    have hR : IsRange (Shared.heap ⟨hp, g, d, tk, os⟩) r a b 1 t u v := hr
    have hL1 : Heap.IsList (Shared.heap ⟨z3H1 hp a (Builtin.Range.rangeSize a b 1), g, d, tk, os⟩) l1 xs := Heap.IsList.push hl1 _
    have hL2 : Heap.IsList (Shared.heap ⟨z3H2 hp a (Builtin.Range.rangeSize a b 1) l1, g, d, tk, os⟩) l2 ys := Heap.IsList.push (Heap.IsList.push hl2 _) _
    wp_walk using wpAny_pyIter_range hR hsm, wpAny_pyIter_list hL1, wpAny_pyIter_list hL2
    exact ⟨_, rfl, h⟩
section
variable {prog : Program} {w : World} {A : Around} {E : Value → Shared → Prop} {s : Shared}
theorem call_zip_3 {r l1 l2 : Addr} {i j : Int} {t u v : Tok} {xs ys : Array Value} {Q : Value → Shared → Prop} (hr : IsRange s.heap r i j 1 t u v) (hsm : Builtin.Range.small i j 1 = true) (hl1 : s.heap.IsList l1 xs) (hl2 : s.heap.IsList l2 ys)
    (h : ∀ h' N, N = s.heap.objs.size → IsZ h' (N + 5) (N + 3) (N + 4) .none false → IsTr h' (N + 3) (.ref N) (.ref (N + 1)) (.ref (N + 2)) →
      IsTr h' (N + 4) .none .none .none → IsRangeIter h' N i (Builtin.Range.rangeSize i j 1) 1 → h'.IsListIter (N + 1) l1 0 → h'.IsListIter (N + 2) l2 0 → h'.objs.size = N + 6 →
      (∀ c o, s.heap.get? c = some o → h'.get? c = some o) → Q (.ref (N + 5)) { s with heap := h' }) :
    wpAny (model prog w) A (call (.type "zip") [.ref r, .ref l1, .ref l2]) Q E s := by
  refine callType_new F.called_zip (by decide) (typeCall_zip_3 _ _ _) (newCall_zip_3 _ _ _) (fun obj => args_object_init_4 obj _ _ _) F.entry_zip_new
    (meets_zip_new3 r l1 l2 i j t u v xs ys hsm) ⟨hr, hl1, hl2, ?_⟩
  generalize Builtin.Range.rangeSize i j 1 = n at *
  have z1 : (z3H1 s.heap i n).objs.size = s.heap.objs.size + 1 := Heap.size_push ..
  have z2 : (z3H2 s.heap i n l1).objs.size = s.heap.objs.size + 2 := by rw [Heap.size_push, z1]
  have z3 : (z3H3 s.heap i n l1 l2).objs.size = s.heap.objs.size + 3 := by rw [Heap.size_push, z2]
  have z4 : (z3H4 s.heap i n l1 l2).objs.size = s.heap.objs.size + 4 := by rw [Heap.size_push, z3]
  have z5 : (z3H5 s.heap i n l1 l2).objs.size = s.heap.objs.size + 5 := by rw [Heap.size_push, z4]
  have z6 : (z3H6 s.heap i n l1 l2).objs.size = s.heap.objs.size + 6 := by rw [Heap.size_push, z5]
  have g6 : (z3H6 s.heap i n l1 l2).get? (z3H5 s.heap i n l1 l2).objs.size = some _ := Heap.get?_push_size _ rfl
  have g5 : (z3H6 s.heap i n l1 l2).get? (z3H4 s.heap i n l1 l2).objs.size = some _ := Heap.get?_push_of_some _ (Heap.get?_push_size _ rfl)
  have g4 : (z3H6 s.heap i n l1 l2).get? (z3H3 s.heap i n l1 l2).objs.size = some _ := Heap.get?_push_of_some _ (Heap.get?_push_of_some _ (Heap.get?_push_size _ rfl))
  have g3 : (z3H6 s.heap i n l1 l2).get? (z3H2 s.heap i n l1).objs.size = some _ := Heap.get?_push_of_some _ (Heap.get?_push_of_some _ (Heap.get?_push_of_some _ (Heap.get?_push_size _ rfl)))
  have g2 : (z3H6 s.heap i n l1 l2).get? (z3H1 s.heap i n).objs.size = some _ := Heap.get?_push_of_some _ (Heap.get?_push_of_some _ (Heap.get?_push_of_some _ (Heap.get?_push_of_some _ (Heap.get?_push_size _ rfl))))
  have g1 : (z3H6 s.heap i n l1 l2).get? s.heap.objs.size = some _ := Heap.get?_push_of_some _ (Heap.get?_push_of_some _ (Heap.get?_push_of_some _ (Heap.get?_push_of_some _ (Heap.get?_push_of_some _ (Heap.get?_push_size _ rfl)))))
  show _ ∧ _
  rw [z3, z4, z5] at g6
  rw [z4] at g5
  rw [z1, z2, z3] at g4
  rw [z2] at g3
  rw [z1] at g2
  rw [z5]
  exact ⟨⟨_, g6, rfl⟩, h _ _ rfl g6 g4 g5 g1 ⟨_, g2, rfl, rfl⟩ ⟨_, g3, rfl, rfl⟩ z6 fun c o x =>
    Heap.get?_push_of_some _ (Heap.get?_push_of_some _ (Heap.get?_push_of_some _ (Heap.get?_push_of_some _ (Heap.get?_push_of_some _ (Heap.get?_push_of_some _ x)))))⟩
theorem nextOf_range_item {it : Addr} {x left step : Int} {Q : Value → Shared → Prop} (hit : IsRangeIter s.heap it x left step) (hleft : 0 < left)
    (hQ : ∀ h', IsRangeIter h' it (x + step) (left - 1) step → Heap.SameBut it s.heap h' → Q (.int x s.toks) { s with heap := h', toks := s.toks + 1 }) :
    wpAny (model prog w) A (Builtin.SmallTypes.nextOf (.ref it)) Q E s := by
  have hT : s.TypeIs (.ref it) "range_iterator" := ⟨_, hit, rfl⟩
  unfold Builtin.SmallTypes.nextOf
  refine wpAny_bind (wpAny_callSpecial?_slot (name := Str.ofString "__next__") hT F.slot_range_iterator_next
    (call_meets F.slot_range_iterator_next hT F.entry_range_iterator_next (F.args_range_iterator_next_1 _) (AutoRange.range_iterator___next___range_iterator_1 it x left step (by omega)) ⟨hit, ?_⟩))
  exact wpAny_pure (hQ _ (Heap.get?_update_self _ (Heap.get?_update_self _ hit rfl) rfl) ((Heap.SameBut.update ..).trans (Heap.SameBut.update ..)))
theorem nextOf_range_end {it : Addr} {x left step : Int} {Q : Value → Shared → Prop} (hh : A.handled = none) (hit : IsRangeIter s.heap it x left step) (hleft : left ≤ 0)
    (hE : ∀ h' e, Heap.ExtBut it s.heap h' → (∃ o, h'.get? e = some o ∧ o.cls = .type "StopIteration") → E (.ref e) { s with heap := h' }) :
    wpAny (model prog w) A (Builtin.SmallTypes.nextOf (.ref it)) Q E s := by
  have hT : s.TypeIs (.ref it) "range_iterator" := ⟨_, hit, rfl⟩
  unfold Builtin.SmallTypes.nextOf
  refine wpAny_bind (wpAny_callSpecial?_slot (name := Str.ofString "__next__") hT F.slot_range_iterator_next
    (wpAny_call_entry F.slot_range_iterator_next hT F.entry_range_iterator_next ?_ (F.args_range_iterator_next_1 _)))
  show wpAny _ _ (field (.ref it) 0 >>= _) _ _ s
  refine wpAny_bind (wpAny_field hit rfl (x := rawInt x) rfl ?_)
  show wpAny _ _ (field (.ref it) 1 >>= _) _ _ s
  refine wpAny_bind (wpAny_field hit rfl (x := rawInt left) rfl ?_)
  show wpAny _ _ (field (.ref it) 2 >>= _) _ _ s
  refine wpAny_bind (wpAny_field hit rfl (x := rawInt step) rfl ?_)
  show wpAny _ _ (if left ≤ 0 then _ else _) _ _ s
  rw [if_pos hleft]
  refine wpAny_bind (wpAny_rule ?_)
  refine wpAny_bind ?_
  show wpAny _ _ (newExc (.type "StopIteration") [] >>= _) _ _ _
  refine wpAny_bind ?_
  simp only [newExc, newTuple]
  refine wpAny_bind (wpAny_newObj_type ?_ (by size_fits))
  refine wpAny_bind (m := firstArgMember _ _) (wpAny_of_eq (a := Value.none) (by first | rfl | (simp only [firstArgMember]; rfl)) ?_)
  refine wpAny_newObj_type ?_ (by size_fits)
  simp only [raiseNew]
  refine wpAny_bind (wpAny_handled ?_)
  first | rw [show A.in1.handled = none from hh] | rw [hh]
  refine wpAny_bind (wpAny_pure (wpAny_throw ?_))
  exact hE _ _ (((Heap.ExtBut.refl it s.heap).push _).push _) ⟨_, Heap.get?_push_size _ rfl, rfl⟩
theorem updateSeq_tr {T : Addr} {a b c x : Value} {k : Nat} {Q : Unit → Shared → Prop} (hT : IsTr s.heap T a b c)
    (h : ∀ h', h'.get? T = some { cls := .type "tuple", data := .seq ((#[a, b, c] : Array Value).setIfInBounds k x) } → Heap.SameBut T s.heap h' → Q () { s with heap := h' }) :
    wpAny (model prog w) A (updateSeq T (·.setIfInBounds k x)) Q E s := by
  refine wpAny_updateSeq hT rfl (h _ ?_ (Heap.SameBut.update ..))
  rw [Heap.get?_update_self _ hT rfl]
  simp [Obj.mapSeq]
/-- all of these apart -/
structure Z3Ap (z TI TO i1 i2 i3 l1 l2 : Addr) : Prop where
  TIz : TI ≠ z
  TOz : TO ≠ z
  i1z : i1 ≠ z
  i2z : i2 ≠ z
  i3z : i3 ≠ z
  TITO : TI ≠ TO
  TIi1 : TI ≠ i1
  TIi2 : TI ≠ i2
  TIi3 : TI ≠ i3
  TOi1 : TO ≠ i1
  TOi2 : TO ≠ i2
  TOi3 : TO ≠ i3
  i12 : i1 ≠ i2
  i13 : i1 ≠ i3
  i23 : i2 ≠ i3
  l1z : l1 ≠ z
  l1TO : l1 ≠ TO
  l1i1 : l1 ≠ i1
  l1i2 : l1 ≠ i2
  l1i3 : l1 ≠ i3
  l2z : l2 ≠ z
  l2TO : l2 ≠ TO
  l2i1 : l2 ≠ i1
  l2i2 : l2 ≠ i2
  l2i3 : l2 ≠ i3
/-- what a zip of a range and two lists has at step k: where it stands -/
structure Z3St (h : Heap) (z TI TO i1 i2 i3 l1 l2 : Addr) (f0 : Value) (b : Bool) (a n : Int) (k : Nat) (xs ys : Array Value) : Prop where
  z : IsZ h z TI TO f0 b
  ti : IsTr h TI (.ref i1) (.ref i2) (.ref i3)
  to : ∃ p q r, IsTr h TO p q r
  r1 : IsRangeIter h i1 (a + (k : Int)) (n - (k : Int)) 1
  r2 : h.IsListIter i2 l1 k
  r3 : h.IsListIter i3 l2 k
  h1 : h.IsList l1 xs
  h2 : h.IsList l2 ys
theorem z3_item0 {z TI TO i1 i2 i3 l1 l2 : Addr} {b : Bool} {a n : Int} {k : Nat} {xs ys : Array Value} {x y : Value} {Q : Value → Shared → Prop} (D : Z3Ap z TI TO i1 i2 i3 l1 l2)
    (st : Z3St s.heap z TI TO i1 i2 i3 l1 l2 .none b a n k xs ys) (hn : (k : Int) < n) (hx : xs[k]? = some x) (hy : ys[k]? = some y)
    (hQ : ∀ h' tk t, Z3St h' z TI TO i1 i2 i3 l1 l2 (rawInt s.heap.objs.size) false a n (k + 1) xs ys → IsTr h' s.heap.objs.size (.int (a + (k : Int)) t) x y → h'.objs.size = s.heap.objs.size + 1 →
      (∀ c o, c ≠ z → c ≠ TO → c ≠ i1 → c ≠ i2 → c ≠ i3 → s.heap.get? c = some o → h'.get? c = some o) → Q (.ref s.heap.objs.size) { s with heap := h', toks := tk }) :
    wpAny (model prog w) A (Builtin.«zip.__next__» ⟨[.ref z], []⟩) (fun fin s' => ∃ v, fin = .done (.ret v) ∧ Q v s') E s := by
  obtain ⟨hz, hTI, ⟨p, q, r, hTO⟩, hr1, hr2, hr3, hl1, hl2⟩ := st
  show wpAny _ _ (field (.ref z) 2 >>= _) _ _ _
  refine wpAny_bind (wpAny_field hz rfl (x := .bool false) rfl ?_)
  show wpAny _ _ (field (.ref z) 3 >>= _) _ _ _
  refine wpAny_bind (wpAny_field hz rfl (x := .ref TI) rfl ?_)
  refine wpAny_bind (wpAny_seqItems hTI rfl ?_)
  show wpAny _ _ (Builtin.SmallTypes.ownedTupleIsFree (.ref z) >>= _) _ _ _
  refine wpAny_bind ?_
  unfold Builtin.SmallTypes.ownedTupleIsFree
  refine wpAny_bind (wpAny_field hz rfl (x := .none) rfl (wpAny_pure ?_))
  simp only [if_true]
  refine wpAny_bind (wpAny_rule ?_)
  refine wpAny_bind (wpAny_field hz rfl (x := .ref TO) rfl ?_)
  refine wpAny_bind (wpAny_setField_rec hz (by simp) fun h₁ hz₁ hs₁ => ?_)
  replace hz₁ : IsZ h₁ z TI TO .ellipsis b := hz₁
  refine wpAny_bind ?_
  simp only [List.zipIdx_cons, List.zipIdx_nil, List.forIn_cons, List.forIn_nil]
  refine wpAny_bind (wpAny_bind (wpAny_onRaise ?_))
  show wpAny _ _ (Builtin.SmallTypes.nextOf (.ref i1) >>= _) _ _ _
  refine wpAny_bind (nextOf_range_item (hs₁.extBut _ _ D.i1z hr1) (by omega) fun h₂ hr1₂ hs₂ => wpAny_pure ?_)
  replace hs₂ : Heap.SameBut i1 h₁ h₂ := hs₂
  have hTO₂ : IsTr h₂ TO p q r := hs₂.extBut _ _ D.TOi1 (hs₁.extBut _ _ D.TOz hTO)
  refine wpAny_bind (wpAny_seqItems hTO₂ rfl ?_)
  refine wpAny_bind (updateSeq_tr hTO₂ fun h₃ hTO₃ hs₃ => ?_)
  replace hs₃ : Heap.SameBut TO h₂ h₃ := hs₃
  replace hTO₃ : IsTr h₃ TO (.int (a + (k : Int)) s.toks) q r := hTO₃
  refine wpAny_bind (wpAny_letGo (wpAny_pure ?_))
  refine wpAny_bind (wpAny_bind (wpAny_onRaise ?_))
  show wpAny _ _ (Builtin.SmallTypes.nextOf (.ref i2) >>= _) _ _ _
  refine wpAny_bind (wpAny_nextOf_list_item (((hr2.extBut hs₁.extBut D.i2z).extBut hs₂.extBut D.i12.symm).extBut hs₃.extBut D.TOi2.symm)
    (((hl1.extBut hs₁.extBut D.l1z).extBut hs₂.extBut D.l1i1).extBut hs₃.extBut D.l1TO) hx fun h₄ hr2₄ hs₄ => wpAny_pure ?_)
  replace hs₄ : Heap.SameBut i2 h₃ h₄ := hs₄
  have hTO₄ : IsTr h₄ TO (.int (a + (k : Int)) s.toks) q r := hs₄.extBut _ _ D.TOi2 hTO₃
  refine wpAny_bind (wpAny_seqItems hTO₄ rfl ?_)
  refine wpAny_bind (updateSeq_tr hTO₄ fun h₅ hTO₅ hs₅ => ?_)
  replace hs₅ : Heap.SameBut TO h₄ h₅ := hs₅
  replace hTO₅ : IsTr h₅ TO (.int (a + (k : Int)) s.toks) x r := hTO₅
  refine wpAny_bind (wpAny_letGo (wpAny_pure ?_))
  refine wpAny_bind (wpAny_bind (wpAny_onRaise ?_))
  show wpAny _ _ (Builtin.SmallTypes.nextOf (.ref i3) >>= _) _ _ _
  refine wpAny_bind (wpAny_nextOf_list_item (((((hr3.extBut hs₁.extBut D.i3z).extBut hs₂.extBut D.i13.symm).extBut hs₃.extBut D.TOi3.symm).extBut hs₄.extBut D.i23.symm).extBut hs₅.extBut D.TOi3.symm)
    (((((hl2.extBut hs₁.extBut D.l2z).extBut hs₂.extBut D.l2i1).extBut hs₃.extBut D.l2TO).extBut hs₄.extBut D.l2i2).extBut hs₅.extBut D.l2TO) hy fun h₆ hr3₆ hs₆ => wpAny_pure ?_)
  replace hs₆ : Heap.SameBut i3 h₅ h₆ := hs₆
  have hTO₆ : IsTr h₆ TO (.int (a + (k : Int)) s.toks) x r := hs₆.extBut _ _ D.TOi3 hTO₅
  refine wpAny_bind (wpAny_seqItems hTO₆ rfl ?_)
  refine wpAny_bind (updateSeq_tr hTO₆ fun h₇ hTO₇ hs₇ => ?_)
  replace hs₇ : Heap.SameBut TO h₆ h₇ := hs₇
  replace hTO₇ : IsTr h₇ TO (.int (a + (k : Int)) s.toks) x y := hTO₇
  refine wpAny_bind (wpAny_letGo (wpAny_pure (wpAny_pure ?_)))
  refine wpAny_bind (wpAny_seqItems hTO₇ rfl ?_)
  refine wpAny_bind (wpAny_newTuple ?_)
  have up₁ : ∀ c o, c ≠ z → c ≠ TO → c ≠ i1 → c ≠ i2 → c ≠ i3 → s.heap.get? c = some o → h₇.get? c = some o := fun c o c1 c2 c3 c4 c5 e =>
    hs₇.extBut _ _ c2 (hs₆.extBut _ _ c5 (hs₅.extBut _ _ c2 (hs₄.extBut _ _ c4 (hs₃.extBut _ _ c2 (hs₂.extBut _ _ c3 (hs₁.extBut _ _ c1 e))))))
  have hsz : h₇.objs.size = s.heap.objs.size := by rw [hs₇.1, hs₆.1, hs₅.1, hs₄.1, hs₃.1, hs₂.1, hs₁.1]
  have hz₇ : IsZ h₇ z TI TO .ellipsis b := hs₇.extBut _ _ D.TOz.symm (hs₆.extBut _ _ D.i3z.symm (hs₅.extBut _ _ D.TOz.symm (hs₄.extBut _ _ D.i2z.symm (hs₃.extBut _ _ D.TOz.symm (hs₂.extBut _ _ D.i1z.symm hz₁)))))
  have hr1₇ : IsRangeIter h₇ i1 (a + (k : Int) + 1) (n - (k : Int) - 1) 1 := hs₇.extBut _ _ D.TOi1.symm (hs₆.extBut _ _ D.i13 (hs₅.extBut _ _ D.TOi1.symm (hs₄.extBut _ _ D.i12 (hs₃.extBut _ _ D.TOi1.symm hr1₂))))
  have hr2₇ : h₇.IsListIter i2 l1 (k + 1) := ((hr2₄.extBut hs₅.extBut D.TOi2.symm).extBut hs₆.extBut D.i23).extBut hs₇.extBut D.TOi2.symm
  have hr3₇ : h₇.IsListIter i3 l2 (k + 1) := hr3₆.extBut hs₇.extBut D.TOi3.symm
  have hzlt : z < h₇.objs.size := Heap.lt_size hz₇
  show wpAny _ _ (Builtin.SmallTypes.ownedTupleHandOut (.ref z) (.ref h₇.objs.size) >>= _) _ _ _
  refine wpAny_bind ?_
  unfold Builtin.SmallTypes.ownedTupleHandOut
  have hz₈ : IsZ (h₇.push { cls := .type "tuple", data := .seq #[.int (a + (k : Int)) s.toks, x, y] }) z TI TO .ellipsis b := Heap.get?_push_of_some _ hz₇
  refine wpAny_bind (wpAny_setField_rec hz₈ (by simp) fun h₈ hz₈ hs₈ => ?_)
  replace hz₈ : IsZ h₈ z TI TO (rawInt h₇.objs.size) b := hz₈
  refine wpAny_setField_rec hz₈ (by simp) fun h₉ hz₉ hs₉ => ?_
  replace hz₉ : IsZ h₉ z TI TO (rawInt h₇.objs.size) false := hz₉
  have up : ∀ c o, c ≠ z → h₇.get? c = some o → h₉.get? c = some o := fun c o c1 e => hs₉.extBut _ _ c1 (hs₈.extBut _ _ c1 (Heap.get?_push_of_some _ e))
  have hT₉ : IsTr h₉ h₇.objs.size (.int (a + (k : Int)) s.toks) x y := hs₉.extBut _ _ (Nat.ne_of_gt hzlt) (hs₈.extBut _ _ (Nat.ne_of_gt hzlt) (Heap.get?_push_size _ rfl))
  have hz9 : h₉.objs.size = h₇.objs.size + 1 := by rw [hs₉.1, hs₈.1, Heap.size_push]
  rw [hsz] at hz₉ hT₉ hz9
  refine wpAny_pure ⟨_, rfl, ?_⟩
  show Q (.ref h₇.objs.size) _
  rw [hsz]
  refine hQ h₉ _ _ ⟨hz₉, up _ _ D.TIz (up₁ _ _ D.TIz D.TITO D.TIi1 D.TIi2 D.TIi3 hTI), ⟨_, _, _, up _ _ D.TOz hTO₇⟩, ?_, hr2₇.at fun o e => up _ o D.i2z e, hr3₇.at fun o e => up _ o D.i3z e, hl1.at fun o e => up _ o D.l1z (up₁ _ o D.l1z D.l1TO D.l1i1 D.l1i2 D.l1i3 e), hl2.at fun o e => up _ o D.l2z (up₁ _ o D.l2z D.l2TO D.l2i1 D.l2i2 D.l2i3 e)⟩ hT₉ hz9 fun c o c1 c2 c3 c4 c5 e => up c o c1 (up₁ c o c1 c2 c3 c4 c5 e)
  have e1 : a + ((k + 1 : Nat) : Int) = a + (k : Int) + 1 := by omega
  have e2 : n - ((k + 1 : Nat) : Int) = n - (k : Int) - 1 := by omega
  rw [e1, e2]
  exact up _ _ D.i1z hr1₇
theorem alive_ok {a : Addr} {o : Obj} {Q : Option Obj → Shared → Prop} (ho : s.heap.get? a = some o) (h : Q (some o) s) : wpAny (model prog w) A (loadIfAlive a) Q E s := by
  have h' : Q (s.heap.get? a) s := by rw [ho]; exact h
  exact fun _ _ _ => h'
theorem free_no {z TI TO a0 : Addr} {o0 : Obj} {b : Bool} {Q : Bool → Shared → Prop} (hz : IsZ s.heap z TI TO (rawInt a0) b) (ha : s.heap.get? a0 = some o0)
    (hQ : ∀ h₁, IsZ h₁ z TI TO (rawInt a0) true → Heap.SameBut z s.heap h₁ → Q false { s with heap := h₁ }) : wpAny (model prog w) A (Builtin.SmallTypes.ownedTupleIsFree (.ref z)) Q E s := by
  unfold Builtin.SmallTypes.ownedTupleIsFree
  refine wpAny_bind (wpAny_field hz rfl (x := rawInt a0) rfl ?_)
  show wpAny _ _ (loadIfAlive ((a0 : Int).toNat) >>= _) _ _ _
  rw [Int.toNat_natCast]
  refine wpAny_bind (alive_ok ha ?_)
  simp only [Option.isNone_some, Bool.false_eq_true, if_false]
  refine wpAny_bind (wpAny_field hz rfl (x := .bool b) rfl ?_)
  cases b with
  | true =>
    rw [if_neg (show ¬ ((Value.bool true != Value.bool true) = true) from Bool.false_ne_true)]
    exact wpAny_pure (hQ s.heap hz (Heap.SameBut.refl _ _))
  | false =>
    rw [if_pos (show (Value.bool false != Value.bool true) = true from rfl)]
    refine wpAny_bind (wpAny_setField_rec hz (by simp) fun h₁ hz₁ hs₁ => ?_)
    exact wpAny_pure (hQ h₁ hz₁ hs₁)
/-- the tuple told last is still held: another one is made -/
theorem z3_item1 {z TI TO i1 i2 i3 l1 l2 a0 : Addr} {o0 : Obj} {b : Bool} {a n : Int} {k : Nat} {xs ys : Array Value} {x y : Value} {Q : Value → Shared → Prop} (D : Z3Ap z TI TO i1 i2 i3 l1 l2)
    (st : Z3St s.heap z TI TO i1 i2 i3 l1 l2 (rawInt a0) b a n k xs ys) (ha : s.heap.get? a0 = some o0) (hn : (k : Int) < n) (hx : xs[k]? = some x) (hy : ys[k]? = some y)
    (hQ : ∀ h' tk t, Z3St h' z TI TO i1 i2 i3 l1 l2 (rawInt a0) true a n (k + 1) xs ys → IsTr h' s.heap.objs.size (.int (a + (k : Int)) t) x y → h'.objs.size = s.heap.objs.size + 1 →
      (∀ c o, c ≠ z → c ≠ TO → c ≠ i1 → c ≠ i2 → c ≠ i3 → s.heap.get? c = some o → h'.get? c = some o) → Q (.ref s.heap.objs.size) { s with heap := h', toks := tk }) :
    wpAny (model prog w) A (Builtin.«zip.__next__» ⟨[.ref z], []⟩) (fun fin s' => ∃ v, fin = .done (.ret v) ∧ Q v s') E s := by
  obtain ⟨hz, hTI, ⟨p, q, r, hTO⟩, hr1, hr2, hr3, hl1, hl2⟩ := st
  show wpAny _ _ (field (.ref z) 2 >>= _) _ _ _
  refine wpAny_bind (wpAny_field hz rfl (x := .bool false) rfl ?_)
  show wpAny _ _ (field (.ref z) 3 >>= _) _ _ _
  refine wpAny_bind (wpAny_field hz rfl (x := .ref TI) rfl ?_)
  refine wpAny_bind (wpAny_seqItems hTI rfl ?_)
  show wpAny _ _ (Builtin.SmallTypes.ownedTupleIsFree (.ref z) >>= _) _ _ _
  refine wpAny_bind (free_no hz ha fun h₁ hz₁ hs₁ => ?_)
  simp only [Bool.false_eq_true, if_false]
  refine wpAny_bind ?_
  simp only [List.forIn_toArray, List.forIn_cons, List.forIn_nil]
  refine wpAny_bind (wpAny_bind (wpAny_holding ?_))
  show wpAny _ _ (Builtin.SmallTypes.nextOf (.ref i1) >>= _) _ _ _
  refine wpAny_bind (nextOf_range_item (hs₁.extBut _ _ D.i1z hr1) (by omega) fun h₂ hr1₂ hs₂ => wpAny_pure ?_)
  replace hs₂ : Heap.SameBut i1 h₁ h₂ := hs₂
  refine wpAny_pure ?_
  refine wpAny_bind (wpAny_bind (wpAny_holding ?_))
  show wpAny _ _ (Builtin.SmallTypes.nextOf (.ref i2) >>= _) _ _ _
  refine wpAny_bind (wpAny_nextOf_list_item ((hr2.extBut hs₁.extBut D.i2z).extBut hs₂.extBut D.i12.symm)
    ((hl1.extBut hs₁.extBut D.l1z).extBut hs₂.extBut D.l1i1) hx fun h₄ hr2₄ hs₄ => wpAny_pure ?_)
  replace hs₄ : Heap.SameBut i2 h₂ h₄ := hs₄
  refine wpAny_pure ?_
  refine wpAny_bind (wpAny_bind (wpAny_holding ?_))
  show wpAny _ _ (Builtin.SmallTypes.nextOf (.ref i3) >>= _) _ _ _
  refine wpAny_bind (wpAny_nextOf_list_item (((hr3.extBut hs₁.extBut D.i3z).extBut hs₂.extBut D.i13.symm).extBut hs₄.extBut D.i23.symm)
    (((hl2.extBut hs₁.extBut D.l2z).extBut hs₂.extBut D.l2i1).extBut hs₄.extBut D.l2i2) hy fun h₆ hr3₆ hs₆ => wpAny_pure ?_)
  replace hs₆ : Heap.SameBut i3 h₄ h₆ := hs₆
  refine wpAny_pure (wpAny_pure ?_)
  refine wpAny_bind (wpAny_newTuple ?_ (by show 3 ≤ sizeLine; decide))
  have up₁ : ∀ c o, c ≠ z → c ≠ i1 → c ≠ i2 → c ≠ i3 → s.heap.get? c = some o → h₆.get? c = some o := fun c o c1 c3 c4 c5 e =>
    hs₆.extBut _ _ c5 (hs₄.extBut _ _ c4 (hs₂.extBut _ _ c3 (hs₁.extBut _ _ c1 e)))
  have hsz : h₆.objs.size = s.heap.objs.size := by rw [hs₆.1, hs₄.1, hs₂.1, hs₁.1]
  have hz₆ : IsZ h₆ z TI TO (rawInt a0) true := hs₆.extBut _ _ D.i3z.symm (hs₄.extBut _ _ D.i2z.symm (hs₂.extBut _ _ D.i1z.symm hz₁))
  have hr1₆ : IsRangeIter h₆ i1 (a + (k : Int) + 1) (n - (k : Int) - 1) 1 := hs₆.extBut _ _ D.i13 (hs₄.extBut _ _ D.i12 hr1₂)
  have hr2₆ : h₆.IsListIter i2 l1 (k + 1) := hr2₄.extBut hs₆.extBut D.i23
  have up : ∀ c o, h₆.get? c = some o → (h₆.push { cls := .type "tuple", data := .seq #[.int (a + (k : Int)) s.toks, x, y] }).get? c = some o := fun c o e => Heap.get?_push_of_some _ e
  refine wpAny_pure ⟨_, rfl, ?_⟩
  show Q (.ref h₆.objs.size) _
  have hT : IsTr (h₆.push { cls := .type "tuple", data := .seq #[.int (a + (k : Int)) s.toks, x, y] }) h₆.objs.size (.int (a + (k : Int)) s.toks) x y := Heap.get?_push_size _ rfl
  rw [hsz] at hT
  rw [hsz]
  refine hQ _ _ s.toks ⟨up _ _ hz₆, up _ _ (up₁ _ _ D.TIz D.TIi1 D.TIi2 D.TIi3 hTI), ⟨_, _, _, up _ _ (up₁ _ _ D.TOz D.TOi1 D.TOi2 D.TOi3 hTO)⟩, ?_, hr2₆.at fun o e => up _ o e, hr3₆.at fun o e => up _ o e, hl1.at fun o e => up _ o (up₁ _ o D.l1z D.l1i1 D.l1i2 D.l1i3 e), hl2.at fun o e => up _ o (up₁ _ o D.l2z D.l2i1 D.l2i2 D.l2i3 e)⟩ hT (by rw [Heap.size_push, hsz]) fun c o c1 c2 c3 c4 c5 e => up c o (up₁ c o c1 c3 c4 c5 e)
  have e1 : a + ((k + 1 : Nat) : Int) = a + (k : Int) + 1 := by omega
  have e2 : n - ((k + 1 : Nat) : Int) = n - (k : Int) - 1 := by omega
  rw [e1, e2]
  exact up _ _ hr1₆
/-- the range has ended, a tuple is still held -/
theorem z3_end {z TI TO i1 i2 i3 l1 l2 a0 : Addr} {o0 : Obj} {b : Bool} {a n : Int} {k : Nat} {xs ys : Array Value} {Q : Fin → Shared → Prop} (hh : A.handled = none) (D : Z3Ap z TI TO i1 i2 i3 l1 l2)
    (st : Z3St s.heap z TI TO i1 i2 i3 l1 l2 (rawInt a0) b a n k xs ys) (ha : s.heap.get? a0 = some o0) (hn : n ≤ (k : Int))
    (hE : ∀ h' e, (∀ c o, c ≠ z → c ≠ i1 → s.heap.get? c = some o → h'.get? c = some o) → (∃ o, h'.get? e = some o ∧ o.cls = .type "StopIteration") → E (.ref e) { s with heap := h' }) :
    wpAny (model prog w) A (Builtin.«zip.__next__» ⟨[.ref z], []⟩) Q E s := by
  obtain ⟨hz, hTI, ⟨p, q, r, hTO⟩, hr1, hr2, hr3, hl1, hl2⟩ := st
  show wpAny _ _ (field (.ref z) 2 >>= _) _ _ _
  refine wpAny_bind (wpAny_field hz rfl (x := .bool false) rfl ?_)
  show wpAny _ _ (field (.ref z) 3 >>= _) _ _ _
  refine wpAny_bind (wpAny_field hz rfl (x := .ref TI) rfl ?_)
  refine wpAny_bind (wpAny_seqItems hTI rfl ?_)
  show wpAny _ _ (Builtin.SmallTypes.ownedTupleIsFree (.ref z) >>= _) _ _ _
  refine wpAny_bind (free_no hz ha fun h₁ hz₁ hs₁ => ?_)
  simp only [Bool.false_eq_true, if_false]
  refine wpAny_bind ?_
  simp only [List.forIn_toArray, List.forIn_cons, List.forIn_nil]
  refine wpAny_bind (wpAny_bind (wpAny_holding ?_))
  show wpAny _ _ (Builtin.SmallTypes.nextOf (.ref i1) >>= _) _ _ _
  exact wpAny_bind (nextOf_range_end hh (hs₁.extBut _ _ D.i1z hr1) (by omega) fun h₂ e he hs => hE h₂ e (fun c o c1 c2 x => he _ _ c2 (hs₁.extBut _ _ c1 x)) hs)
end
end
section
open PySem PySem.Spec PyProof.Rows
theorem Z3St.keep {h h' : Heap} {z TI TO i1 i2 i3 l1 l2 : Addr} {f0 : Value} {b : Bool} {a n : Int} {k : Nat} {xs ys : Array Value} (st : Z3St h z TI TO i1 i2 i3 l1 l2 f0 b a n k xs ys)
    (hk : ∀ c ∈ [z, TI, TO, i1, i2, i3, l1, l2], ∀ o, h.get? c = some o → h'.get? c = some o) : Z3St h' z TI TO i1 i2 i3 l1 l2 f0 b a n k xs ys := by
  obtain ⟨hz, hTI, ⟨p, q, r, hTO⟩, hr1, hr2, hr3, hl1, hl2⟩ := st
  exact ⟨hk _ (by simp) _ hz, hk _ (by simp) _ hTI, ⟨p, q, r, hk _ (by simp) _ hTO⟩, hk _ (by simp) _ hr1, hr2.at fun o e => hk _ (by simp) o e, hr3.at fun o e => hk _ (by simp) o e, hl1.at fun o e => hk _ (by simp) o e, hl2.at fun o e => hk _ (by simp) o e⟩
theorem Z3St.lt {h : Heap} {z TI TO i1 i2 i3 l1 l2 : Addr} {f0 : Value} {b : Bool} {a n : Int} {k : Nat} {xs ys : Array Value} (st : Z3St h z TI TO i1 i2 i3 l1 l2 f0 b a n k xs ys) : ∀ c ∈ [z, TI, TO, i1, i2, i3], c < h.objs.size := by
  obtain ⟨hz, hTI, ⟨p, q, r, hTO⟩, hr1, hr2, hr3, hl1, hl2⟩ := st
  obtain ⟨_, e2, _⟩ := hr2
  obtain ⟨_, e3, _⟩ := hr3
  intro c hc
  have e' : c = z ∨ c = TI ∨ c = TO ∨ c = i1 ∨ c = i2 ∨ c = i3 := by simpa using hc
  rcases e' with q | q | q | q | q | q
  · rw [q]; exact Heap.lt_size hz
  · rw [q]; exact Heap.lt_size hTI
  · rw [q]; exact Heap.lt_size hTO
  · rw [q]; exact Heap.lt_size hr1
  · rw [q]; exact Heap.lt_size e2
  · rw [q]; exact Heap.lt_size e3
variable {X : Cx} {pins : List (Addr × Obj)} {σ : L2.St}
/-- what a list of such a zip has told so far -/
structure Z3I (X : Cx) (pins : List (Addr × Obj)) (σ : L2.St) (H0 H : Hp) (s : Shared) (S z TI TO i1 i2 i3 l1 l2 : Addr) (a n : Int) (k : Nat) (xs ys : List V) (as : List Addr) : Prop where
  inv : Inv X pins σ H s
  fp : ∀ c ∈ [z, TI, TO, i1, i2, i3], FpOk X pins H c
  st : ∃ f0 b its1 its2, Z3St s.heap z TI TO i1 i2 i3 l1 l2 f0 b a n k (List.toArray its1) (List.toArray its2) ∧ Vals xs its1 ∧ Vals ys its2 ∧ ((k = 0 ∧ f0 = .none) ∨ ∃ a0 o0, f0 = rawInt ((a0 : Nat) : Int) ∧ s.heap.get? a0 = some o0 ∧ a0 ≠ z ∧ a0 ≠ TO ∧ a0 ≠ i1 ∧ a0 ≠ i2 ∧ a0 ≠ i3 ∧ a0 ≠ S)
  hS : H S = some (.lst (as.map V.ref))
  al : as.length = k
  tu : ∀ (j : Nat) (c : Addr), as[j]? = some c → H0 c = none ∧ c ≠ S ∧ ∃ x y, xs[j]? = some x ∧ ys[j]? = some y ∧ H c = some (.tup [.int (a + (j : Int)), x, y])
  kp : ∀ c o, H0 c = some o → H c = some o
  nS : H0 S = none
/-- what comes of it -/
def Z3Out (H0 H : Hp) (S : Addr) (a : Int) (xs ys : List V) : Prop := ∃ as : List Addr, as.length = xs.length ∧ H0 S = none ∧ H S = some (.lst (as.map V.ref)) ∧
  (∀ (j : Nat) (c : Addr), as[j]? = some c → H0 c = none ∧ ∃ x y, xs[j]? = some x ∧ ys[j]? = some y ∧ H c = some (.tup [.int (a + (j : Int)), x, y])) ∧ ∀ c o, H0 c = some o → H c = some o
theorem pyNext_z3_item {prog : Program} {w : World} {A : Around} {E : Value → Shared → Prop} {s : Shared} {S z TI TO i1 i2 i3 l1 l2 : Addr} {f0 : Value} {b : Bool} {a n : Int} {k : Nat} {xs ys : Array Value} {x y : Value} {Q : Option Value → Shared → Prop} (D : Z3Ap z TI TO i1 i2 i3 l1 l2)
    (st : Z3St s.heap z TI TO i1 i2 i3 l1 l2 f0 b a n k xs ys) (hf : f0 = .none ∨ ∃ a0 o0, f0 = rawInt ((a0 : Nat) : Int) ∧ s.heap.get? a0 = some o0 ∧ a0 ≠ z ∧ a0 ≠ TO ∧ a0 ≠ i1 ∧ a0 ≠ i2 ∧ a0 ≠ i3 ∧ a0 ≠ S) (hS : S < s.heap.objs.size) (hn : (k : Int) < n) (hx : xs[k]? = some x) (hy : ys[k]? = some y)
    (hQ : ∀ h' tk t f0 b, Z3St h' z TI TO i1 i2 i3 l1 l2 f0 b a n (k + 1) xs ys → (∃ a0 o0, f0 = rawInt ((a0 : Nat) : Int) ∧ h'.get? a0 = some o0 ∧ a0 ≠ z ∧ a0 ≠ TO ∧ a0 ≠ i1 ∧ a0 ≠ i2 ∧ a0 ≠ i3 ∧ a0 ≠ S) → IsTr h' s.heap.objs.size (.int (a + (k : Int)) t) x y → h'.objs.size = s.heap.objs.size + 1 →
      (∀ c o, c ≠ z → c ≠ TO → c ≠ i1 → c ≠ i2 → c ≠ i3 → s.heap.get? c = some o → h'.get? c = some o) → Q (some (.ref s.heap.objs.size)) { s with heap := h', toks := tk }) :
    wpAny (model prog w) A (pyNext (.ref z)) Q E s := by
  have hT : s.TypeIs (.ref z) "zip" := ⟨_, st.z, rfl⟩
  have lt : ∀ {c o}, s.heap.get? c = some o → s.heap.objs.size ≠ c := fun e => Nat.ne_of_gt (Heap.lt_size e)
  unfold pyNext
  refine wpAny_bind (wpAny_attempt (wpAny_callSpecial?_slot (name := Str.ofString "__next__") hT F.slot_zip_next (wpAny_call_entry F.slot_zip_next hT F.entry_zip_next ?_ (F.args_zip_next_1 _))))
  rcases hf with rfl | ⟨a0, o0, rfl, ha, n1, n2, n3, n4, n5, n6⟩
  · exact z3_item0 D st hn hx hy fun h' tk t st' hT' hz hk => wpAny_pure (hQ h' tk t _ _ st' ⟨s.heap.objs.size, _, rfl, hT', lt st.z, (by obtain ⟨_, _, _, e⟩ := st.to; exact lt e), lt st.r1, (by obtain ⟨_, e, _⟩ := st.r2; exact lt e), (by obtain ⟨_, e, _⟩ := st.r3; exact lt e), Nat.ne_of_gt hS⟩ hT' hz hk)
  · exact z3_item1 D st ha hn hx hy fun h' tk t st' hT' hz hk => wpAny_pure (hQ h' tk t _ _ st' ⟨a0, o0, rfl, hk _ _ n1 n2 n3 n4 n5 ha, n1, n2, n3, n4, n5, n6⟩ hT' hz hk)
theorem z3_loop (hh : X.A.handled = none) {A : Around} (hA : A.handled = none) {H0 : Hp} {S z TI TO i1 i2 i3 l1 l2 : Addr} {a n : Int} {xs ys : List V} {R : Result → Shared → Prop} (D : Z3Ap z TI TO i1 i2 i3 l1 l2) (hSn : S ∉ [z, TI, TO, i1, i2, i3, l1, l2])
    (hx : (xs.length : Int) = n) (hy : ys.length = xs.length) (hz : xs.length ≤ sizeLine) (h0 : 0 < xs.length)
    (hR : ∀ (H : Hp) (s : Shared) (as : List Addr), Inv X pins σ H s → as.length = xs.length → H S = some (.lst (as.map V.ref)) → (∀ (j : Nat) (c : Addr), as[j]? = some c → H0 c = none ∧ ∃ x y, xs[j]? = some x ∧ ys[j]? = some y ∧ H c = some (.tup [.int (a + (j : Int)), x, y])) → (∀ c o, H0 c = some o → H c = some o) → R (.ok (.ret .none)) s) :
    ∀ (m k : Nat) (H : Hp) (s : Shared) (as : List Addr), xs.length - k = m → k ≤ xs.length → Z3I X pins σ H0 H s S z TI TO i1 i2 i3 l1 l2 a n k xs ys as →
      codeAny (model X.prog X.w) A (.builtin "list.extend.loop" ⟨[.ref S, .ref z, .none], []⟩) R s := by
  intro m
  induction m with
  | zero =>
    intro k H s as hm hk Z
    obtain ⟨I, fp, ⟨f0, b, its1, its2, st, v1, v2, hf⟩, hS, al, tu, kp, nS⟩ := Z
    have hke : k = xs.length := by omega
    subst hke
    rcases hf with ⟨e, _⟩ | ⟨a0, o0, rfl, ha, n1, n2, n3, n4, n5, n6⟩
    · omega
    refine codeAny_builtin PySem.F.entry_extend_loop ?_
    rw [Around.under_plainId PySem.F.plain_extend_loop _]
    show wpAny _ A.in1 (pyNext (.ref z) >>= _) _ _ _
    have hT : s.TypeIs (.ref z) "zip" := ⟨_, st.z, rfl⟩
    refine wpAny_bind ?_
    unfold pyNext
    refine wpAny_bind (wpAny_attempt (wpAny_callSpecial?_slot (name := Str.ofString "__next__") hT F.slot_zip_next
      (wpAny_call_entry F.slot_zip_next hT F.entry_zip_next (z3_end hA D st ha (by omega) fun h' e hk he => ?_) (F.args_zip_next_1 _))))
    obtain ⟨o, ho, hc⟩ := he
    refine wpAny_bind (wpAny_isInstance (T := "StopIteration") (b := true) ⟨o, ho, hc⟩ isSubtype_stop ?_)
    refine wpAny_pure (wpAny_pure ?_)
    have I1 : Inv X pins σ H { s with heap := h' } := I.turnedL (t' := s.toks) (ch := [z, i1]) (fun c o hb e => hk c o (fun q => hb (by simp [q])) (fun q => hb (by simp [q])) e) (fun c hc => fp c (by simp at hc; rcases hc with q | q <;> simp [q]))
    exact hR H _ as I1 al hS (fun j c e => ⟨(tu j c e).1, (tu j c e).2.2⟩) kp
  | succ m ih =>
    intro k H s as hm hk Z
    have em1 : xs.length - (k + 1) = m := by omega
    have em2 : k + 1 ≤ xs.length := by omega
    obtain ⟨I, fp, ⟨f0, b, its1, its2, st, v1, v2, hf⟩, hS, al, tu, kp, nS⟩ := Z
    have hlt : k < xs.length := by omega
    have hlt2 : k < ys.length := by omega
    have ex : xs[k]? = some xs[k] := List.getElem?_eq_getElem hlt
    have ey : ys[k]? = some ys[k] := List.getElem?_eq_getElem hlt2
    obtain ⟨u1, hu1, ru1⟩ := v1.get ex
    obtain ⟨u2, hu2, ru2⟩ := v2.get ey
    have Slt : S < s.heap.objs.size := I.hok.lt hS
    refine codeAny_builtin PySem.F.entry_extend_loop ?_
    rw [Around.under_plainId PySem.F.plain_extend_loop _]
    show wpAny _ A.in1 (pyNext (.ref z) >>= _) _ _ _
    refine wpAny_bind (pyNext_z3_item (S := S) D st (hf.imp (fun q => q.2) fun q => q) Slt (by omega) (by simpa using hu1) (by simpa using hu2) fun h' tk t f0' b' st' hf' hT hsz hkp => ?_)
    have I1 : Inv X pins σ (upd H s.heap.objs.size (.tup [.int (a + (k : Int)), xs[k], ys[k]])) { s with heap := h', toks := tk } :=
      I.turnedNew (t' := tk) (ch := [z, TO, i1, i2, i3]) (fun c o hb e => hkp c o (fun q => hb (by simp [q])) (fun q => hb (by simp [q])) (fun q => hb (by simp [q])) (fun q => hb (by simp [q])) (fun q => hb (by simp [q])) e)
        (fun c hc => fp c (by simp at hc; rcases hc with q | q | q | q | q <;> simp [q])) (Nat.le_refl _) ⟨by show 3 ≤ sizeLine; decide, [.int (a + (k : Int)) t, u1, u2], .cons ⟨_, rfl⟩ (.cons ru1 (.cons ru2 .nil)), ⟨_, hT, rfl, _, rfl⟩⟩
    have hS1 : upd H s.heap.objs.size (.tup [.int (a + (k : Int)), xs[k], ys[k]]) S = some (.lst (as.map V.ref)) := (upd_ne (Nat.ne_of_lt Slt)).trans hS
    obtain ⟨_, its, c, r, hrl, e⟩ := I1.lstM hS1
    rw [List.length_map, al] at hrl
    show wpAny _ A.in1 (Builtin.List.listUpdate (.ref S) (·.push (.ref s.heap.objs.size)) >>= _) _ _ _
    refine wpAny_bind ?_
    show wpAny _ A.in1 (updateSeq S (·.push (.ref s.heap.objs.size))) _ _ _
    refine wpAny_updateSeq e rfl ?_ (by simp only [Array.size_push, List.size_toArray]; omega)
    have I2 := I1.lset (t' := tk) (f := (·.push (.ref s.heap.objs.size))) (its' := its ++ [.ref s.heap.objs.size]) (ys := (as ++ [s.heap.objs.size]).map V.ref) hS1 e (by simp) (by rw [List.map_append]; exact r.append (.cons rfl .nil)) (by rw [List.length_map, List.length_append, List.length_singleton, al]; exact Nat.le_trans em2 hz)
    refine wpAny_pure ⟨plainId_quiet F.plain_extend_loop _, ih (k + 1) _ _ (as ++ [s.heap.objs.size]) em1 em2 ⟨I2, fun c hc => ?_, ⟨f0', b', its1, its2, ?_, v1, v2, .inr ?_⟩, upd_same, by rw [List.length_append, List.length_singleton, al], fun j c hj => ?_, fun c o hc => ?_, nS⟩⟩
    · have c1 : c ≠ s.heap.objs.size := Nat.ne_of_lt (st.lt c hc)
      have c2 : c ≠ S := fun q => hSn (q ▸ (by simp at hc ⊢; rcases hc with q | q | q | q | q | q <;> simp [q]))
      exact ⟨(upd_ne c2).trans ((upd_ne c1).trans (fp c hc).1), (fp c hc).2⟩
    · refine st'.keep fun c hc o e => (Heap.get?_update_other _ _ (fun q => hSn ?_)).trans e
      rw [q]; exact hc
    · obtain ⟨a0, o0, e1, e2, n1, n2, n3, n4, n5, n6⟩ := hf'
      exact ⟨a0, o0, e1, (Heap.get?_update_other _ _ (Ne.symm n6)).trans e2, n1, n2, n3, n4, n5, n6⟩
    · by_cases hjl : j < as.length
      · rw [List.getElem?_append_left hjl] at hj
        obtain ⟨q1, q2, x, y, q3, q4, q5⟩ := tu j c hj
        have c1 : c ≠ s.heap.objs.size := fun q => by rw [q, I.fresh] at q5; cases q5
        exact ⟨q1, q2, x, y, q3, q4, (upd_ne q2).trans ((upd_ne c1).trans q5)⟩
      · rw [List.getElem?_append_right (by omega)] at hj
        have hj0 : j - as.length = 0 := by
          by_cases q : j - as.length = 0
          · exact q
          · rw [List.getElem?_eq_none (by rw [List.length_singleton]; omega)] at hj; cases hj
        rw [hj0] at hj
        have ec : s.heap.objs.size = c := by simpa using hj
        subst ec
        have ejk : j = k := by omega
        subst ejk
        refine ⟨?_, Nat.ne_of_gt Slt, _, _, ex, ey, (upd_ne (Nat.ne_of_gt Slt)).trans upd_same⟩
        cases q : H0 s.heap.objs.size with
        | none => rfl
        | some o => have := kp _ _ q; rw [I.fresh] at this; cases this
    · have q := kp c o hc
      have c1 : c ≠ s.heap.objs.size := fun z => by rw [z, I.fresh] at q; cases q
      have c2 : c ≠ S := fun z => by rw [z, nS] at hc; cases hc
      exact (upd_ne c2).trans ((upd_ne c1).trans q)
theorem nolen_zip : typeLookup (.type "zip") "__len__" = pure none := by rw [typeLookup_type, builtinLookup_eq_fast]; kernel_rfl
theorem nohint_zip : typeLookup (.type "zip") "__length_hint__" = pure none := by rw [typeLookup_type, builtinLookup_eq_fast]; kernel_rfl
theorem pyIter_z {prog : Program} {w : World} {A : Around} {E : Value → Shared → Prop} {s : Shared} {z TI TO : Addr} {f0 : Value} {b : Bool} {Q : Value → Shared → Prop} (hz : IsZ s.heap z TI TO f0 b) (h : Q (.ref z) s) : wpAny (model prog w) A (pyIter (.ref z)) Q E s := by
  have hT : s.TypeIs (.ref z) "zip" := ⟨_, hz, rfl⟩
  refine wpAny_pyIter_slot hT F.slot_zip_iter (wpAny_call_entry F.slot_zip_iter hT F.entry_zip_iter ?_ (F.args_zip_iter_1 _))
  show wpAny _ _ (ret (.ref z)) _ _ s
  exact wpAny_pure ⟨_, rfl, "zip", _, hT, F.slot_zip_next.lookup, h⟩
theorem z3_list (hh : X.A.handled = none) {A : Around} (hA : A.handled = none) {E : Value → Shared → Prop} {H : Hp} {s : Shared} {z TI TO i1 i2 i3 l1 l2 : Addr} {a n : Int} {xs ys : List V} {its1 its2 : List Value} {Q : Value → Shared → Prop} (I : Inv X pins σ H s) (D : Z3Ap z TI TO i1 i2 i3 l1 l2)
    (fp : ∀ c ∈ [z, TI, TO, i1, i2, i3], FpOk X pins H c) (st : Z3St s.heap z TI TO i1 i2 i3 l1 l2 .none false a n 0 its1.toArray its2.toArray) (v1 : Vals xs its1) (v2 : Vals ys its2) (lt1 : l1 < s.heap.objs.size) (lt2 : l2 < s.heap.objs.size)
    (hx : (xs.length : Int) = n) (hy : ys.length = xs.length) (hz : xs.length ≤ sizeLine) (h0 : 0 < xs.length) (hQ : ∀ S H' s', Inv X pins σ H' s' → Z3Out H H' S a xs ys → Q (.ref S) s') :
    wpAny (model X.prog X.w) A (call (.type "list") [.ref z]) Q E s := by
  have hSn : s.heap.objs.size ∉ [z, TI, TO, i1, i2, i3, l1, l2] := fun hm => by
    have e' : s.heap.objs.size ∈ [z, TI, TO, i1, i2, i3] ∨ s.heap.objs.size = l1 ∨ s.heap.objs.size = l2 := by
      simp at hm ⊢
      rcases hm with q | q | q | q | q | q | q | q <;> simp [q]
    rcases e' with q | q | q
    · exact Nat.lt_irrefl _ (st.lt _ q)
    · rw [← q] at lt1; exact Nat.lt_irrefl _ lt1
    · rw [← q] at lt2; exact Nat.lt_irrefl _ lt2
  have nS : H s.heap.objs.size = none := I.fresh
  refine callType_codes (Q₁ := fun obj s₁ => obj = .ref s.heap.objs.size ∧ s₁ = { s with heap := s.heap.push { cls := .type "list", data := .seq #[] } }) F.called_list (F.typeCall_list_1 _) F.entry_list_init
    (code_list_new _ ⟨rfl, rfl⟩) fun obj s₁ h₁ => ?_
  obtain ⟨rfl, rfl⟩ := h₁
  have hS : (s.heap.push { cls := .type "list", data := .seq #[] }).get? s.heap.objs.size = some { cls := .type "list", data := .seq #[] } := Heap.get?_push_size _ rfl
  have I1 : Inv X pins σ (upd H s.heap.objs.size (.lst [])) { s with heap := s.heap.push { cls := .type "list", data := .seq #[] } } := I.lnew (t' := s.toks) (its := []) (ys := []) .nil (Nat.zero_le _)
  refine ⟨⟨_, hS, rfl⟩, F.args_list_init_2 _ _, ?_⟩
  show wpAny _ _ (do let old ← Builtin.List.listItems (.ref s.heap.objs.size); Builtin.List.listUpdate (.ref s.heap.objs.size) (fun _ => #[]); letGo old.toList.reverse; Builtin.List.listExtendWith (.ref s.heap.objs.size) (.ref z) .none) _ _ _
  refine wpAny_bind ?_
  unfold Builtin.List.listItems
  refine wpAny_bind (wpAny_seqItems hS rfl (wpAny_pure ?_))
  show wpAny _ _ (updateSeq s.heap.objs.size (fun _ => #[]) >>= fun _ => letGo (#[] : Array Value).toList.reverse >>= fun _ => Builtin.List.listExtendWith (.ref s.heap.objs.size) (.ref z) .none) _ _ _
  refine wpAny_bind (wpAny_updateSeq hS rfl ?_)
  have I2 := I1.lset (t' := s.toks) (its := []) (f := fun _ => (#[] : Array Value)) (its' := []) (ys := []) upd_same hS rfl .nil (Nat.zero_le _)
  rw [upd_upd] at I2
  have hS₂ := Heap.get?_update_self (Obj.mapSeq (fun _ => (#[] : Array Value))) hS rfl
  refine wpAny_bind (wpAny_letGo ?_)
  have k2 : ∀ b o, b ≠ s.heap.objs.size → s.heap.get? b = some o → ((s.heap.push { cls := .type "list", data := .seq #[] }).update s.heap.objs.size (Obj.mapSeq (fun _ => (#[] : Array Value)))).get? b = some o :=
    fun b o hb e => (Heap.get?_update_other _ _ (Ne.symm hb)).trans (Heap.get?_push_of_some _ e)
  generalize hh2 : (s.heap.push { cls := .type "list", data := .seq #[] }).update s.heap.objs.size (Obj.mapSeq (fun _ => (#[] : Array Value))) = h₂ at I2 hS₂ k2 ⊢
  have st2 := st.keep (h' := h₂) fun c hc o e => k2 c o (fun q => hSn (q ▸ hc)) e
  have hT : Shared.TypeIs { s with heap := h₂ } (.ref z) "zip" := ⟨_, st2.z, rfl⟩
  unfold Builtin.List.listExtendWith
  refine wpAny_bind (wpAny_typeOf hT ?_)
  have hzS : s.heap.objs.size ≠ z := fun q => hSn (by rw [q]; simp)
  have h1 : Builtin.List.listSameRef (.ref s.heap.objs.size) (.ref z) = false := by simp [Builtin.List.listSameRef, hzS]
  have h2 : (Value.type "zip" == Value.type "list") = false := by decide
  have h3 : (Value.type "zip" == Value.type "tuple") = false := by decide
  simp only [h1, h2, h3, Bool.or_false, Bool.false_eq_true, if_false]
  refine wpAny_bind (pyIter_z (s := { s with heap := h₂ }) st2.z ?_)
  refine wpAny_bind (wpAny_holding ?_)
  unfold Builtin.List.listLengthHint
  refine wpAny_bind (wpAny_specialOf hT nolen_zip ?_)
  show wpAny _ _ (specialOf (Value.ref z) (Str.ofString "__length_hint__") >>= _) _ _ _
  refine wpAny_bind (wpAny_specialOf hT nohint_zip ?_)
  refine wpAny_pure ?_
  show wpAny _ _ (rule "list.extend.makes-room" >>= fun _ => Builtin.List.listTouch (.ref s.heap.objs.size) >>= fun _ =>
    again (.builtin "list.extend.loop" ⟨[.ref s.heap.objs.size, .ref z, .none], []⟩)) _ _ _
  refine wpAny_bind (wpAny_rule ?_)
  refine wpAny_bind ?_
  show wpAny _ _ (updateSeq s.heap.objs.size (·.push .none) >>= fun _ => updateSeq s.heap.objs.size (·.pop)) _ _ _
  refine wpAny_bind (wpAny_updateSeq hS₂ rfl ?_)
  have I3 := I2.lset (t' := s.toks) (its := []) (f := (·.push Value.none)) (its' := [.none]) (ys := [.non]) upd_same hS₂ rfl (.cons rfl .nil) (by show 1 ≤ sizeLine; decide)
  rw [upd_upd] at I3
  have hS₃ := Heap.get?_update_self (Obj.mapSeq (·.push Value.none)) hS₂ rfl
  refine wpAny_updateSeq (hz := by seq_fits) hS₃ rfl ?_
  have I4 := I3.lset (t' := s.toks) (its := [.none]) (f := (·.pop)) (its' := []) (ys := []) upd_same hS₃ rfl .nil (Nat.zero_le _)
  rw [upd_upd] at I4
  have k4 : ∀ b o, b ≠ s.heap.objs.size → h₂.get? b = some o → ((h₂.update s.heap.objs.size (Obj.mapSeq (·.push Value.none))).update s.heap.objs.size (Obj.mapSeq (·.pop))).get? b = some o :=
    fun b o hb e => (Heap.get?_update_other _ _ (Ne.symm hb)).trans ((Heap.get?_update_other _ _ (Ne.symm hb)).trans e)
  refine wpAny_pure ⟨plainId_quiet F.plain_extend_loop _, z3_loop hh (A := _) (by exact hA) (H0 := H) (S := s.heap.objs.size) D hSn hx hy hz h0 (fun H' s' as J al e1 tu kp => ⟨rfl, hQ _ H' s' J ⟨as, al, nS, e1, tu, kp⟩⟩) xs.length 0 _ _ [] (Nat.sub_zero _) (Nat.zero_le _) ⟨I4, fun c hc => ?_, ⟨.none, false, its1, its2, st2.keep fun c hc o e => k4 c o (fun q => hSn (q ▸ hc)) e, v1, v2, .inl ⟨rfl, rfl⟩⟩, upd_same, rfl, fun j c hj => by simp at hj, fun c o hc => ?_, nS⟩⟩
  · have c2 : c ≠ s.heap.objs.size := Nat.ne_of_lt (st.lt c hc)
    exact ⟨(upd_ne c2).trans (fp c hc).1, (fp c hc).2⟩
  · have c2 : c ≠ s.heap.objs.size := fun z => by rw [z, nS] at hc; cases hc
    exact (upd_ne c2).trans hc
theorem z3_ap (N p1 p2 : Nat) (h1 : p1 < N) (h2 : p2 < N) : Z3Ap (N + 5) (N + 3) (N + 4) N (N + 1) (N + 2) p1 p2 := by
  constructor <;> (intro h; have h' : @Eq Nat _ _ := h; clear h; omega)
/-- list(zip(range(i, j), xs, ys)) of lists of one length -/
def tLZ (K : PySem.W.Frag) (ta : TA) (tx ty : TE) : TE := fun σ H Q => ta σ H fun vs H1 => ∃ (i j : Int), vs = [.int i, .int j] ∧ (-(2 ^ 62) ≤ i ∧ i < 2 ^ 62 ∧ -(2 ^ 62) ≤ j ∧ j < 2 ^ 62) ∧ tx σ H1 fun x H2 => ty σ H2 fun y H3 => ∃ (p q : Addr) (xs ys : List V),
  x = .ref p ∧ y = .ref q ∧ SqL K H3 p xs ∧ SqL K H3 q ys ∧ (xs.length : Int) = j - i ∧ ys.length = xs.length ∧ 0 < xs.length ∧ ∀ S H', Z3Out H3 H' S i xs ys → Q (.ref S) H'
theorem pe_lz {a b x y : Expr} {ta : TA} {tx ty : TE} {p p2 p3 pos pos2 pos3 : Pos} (hc : X.calm = true) (hg : Gl X "list") (hm : X.mg "list" = none) (hg2 : Gl X "zip") (hm2 : X.mg "zip" = none) (hg3 : Gl X "range") (hm3 : X.mg "range" = none)
    (ha : PA X [a, b] ta) (hx : PE X x tx) (hy : PE X y ty)
    (s1 : starEach [a, b] X.env = (false, eval a X.env) :: starEach [b] X.env := by rfl) (s1p : (backTo pos3 (starEach [b] X.env)).any (·.1) = false := by rfl)
    (s2 : starEach [.Call (.Name "range" p3) [a, b] [] pos3, x, y] X.env = (false, eval (.Call (.Name "range" p3) [a, b] [] pos3) X.env) :: starEach [x, y] X.env := by rfl) (s2p : (backTo pos2 (starEach [x, y] X.env)).any (·.1) = false := by rfl)
    (s3 : starEach [x, y] X.env = (false, eval x X.env) :: starEach [y] X.env := by rfl) (s4 : starEach [y] X.env = (false, eval y X.env) :: starEach [] X.env := by rfl)
    (s5 : starEach [.Call (.Name "zip" p2) [.Call (.Name "range" p3) [a, b] [] pos3, x, y] [] pos2] X.env = (false, eval (.Call (.Name "zip" p2) [.Call (.Name "range" p3) [a, b] [] pos3, x, y] [] pos2) X.env) :: starEach [] X.env := by rfl) :
    PE X (.Call (.Name "list" p) [.Call (.Name "zip" p2) [.Call (.Name "range" p3) [a, b] [] pos3, x, y] [] pos2] [] pos) (tLZ X.K ta tx ty) := by
  refine ⟨fun pins s σ H Q I h => ?_⟩
  have hh : X.A.handled = none := I.ok.hd hc
  refine Call_ (ld_blt I hg hm PyProof.Rows.boot_list (PyProof.Rows.callWith_type1 (args_cons (Call_ (ld_blt I hg2 hm2 PyProof.Rows.boot_zip (PyProof.Rows.callWith_type1 (args_cons (Call_ (ld_blt I hg3 hm3 boot_range (PyProof.Rows.callWith_type1 (thn (ha.run pos3 pins s σ H _ I h) fun us s1 ⟨vs, H1, I1, r1, q1⟩ => ?_) s1 s1p))) s2) s2 s2p))) s5) s5 rfl))
  obtain ⟨i, j, e, ⟨b1, b2, b3, b4⟩, q1⟩ := q1
  subst e
  obtain ⟨t, t', rfl⟩ : ∃ t t', us = [.int i t, .int j t'] := by
    cases r1 with
    | cons r rr =>
      cases rr with
      | cons r' rr =>
        cases rr
        obtain ⟨t, rfl⟩ := r
        obtain ⟨t', rfl⟩ := r'
        exact ⟨t, t', rfl⟩
  refine call_range_2 ?_
  have hfp : FpOk X pins H1 s1.heap.objs.size := I1.fpOk (Nat.le_refl _) I1.fresh
  have hR : IsRange (s1.heap.push { cls := .type "range", data := .fields #[.int i t, .int j t', .int 1 s1.toks] }) s1.heap.objs.size i j 1 t t' s1.toks := IsRange.new _ _ _ _ _ _ _
  have I2 : Inv X pins σ H1 { s1 with heap := s1.heap.push { cls := .type "range", data := .fields #[.int i t, .int j t', .int 1 s1.toks] }, toks := s1.toks + 1 } := I1.kept (t' := s1.toks + 1) fun b o e => Heap.get?_push_of_some _ e
  have I3 : Inv X ((s1.heap.objs.size, { cls := .type "range", dict := none, data := .fields #[.int i t, .int j t', .int 1 s1.toks], slots := #[] }) :: pins) σ H1 { s1 with heap := s1.heap.push { cls := .type "range", data := .fields #[.int i t, .int j t', .int 1 s1.toks] }, toks := s1.toks + 1 } := I2.pins_of fun pp hp => by
    rcases List.mem_cons.mp hp with q | q
    · subst q
      exact ⟨hR, hfp.1, hfp.2.1, hfp.2.2.1, fun v q => nomatch q⟩
    · exact I2.pin pp (List.mem_append_right _ q)
  refine args_cons (thn (hx.run _ _ σ H1 _ I3 q1) fun u2 s2 ⟨x2, H2, I4, r2, q2⟩ => ?_) s3
  refine args_cons (thn (hy.run _ _ σ H2 _ I4 q2) fun u3 s3 ⟨x3, H3, I5, r3, q3⟩ => args_nil ?_) s4
  obtain ⟨p1, p2, xs, ys, rfl, rfl, hq1, hq2, hl, hl2, h0, q⟩ := q3
  cases r2
  cases r3
  have hR3 : IsRange s3.heap s1.heap.objs.size i j 1 t t' s1.toks := (I5.pin _ (List.mem_append_right _ (.head _))).1
  have I6 : Inv X pins σ H3 s3 := I5.pins_of fun pp hp => I5.pin pp (List.mem_append_right _ (.tail _ hp))
  obtain ⟨its1, v1, pl1, hz1⟩ := I6.list hq1
  obtain ⟨its2, v2, pl2, hz2⟩ := I6.list hq2
  refine call_zip_3 hR3 (small_one b1 b2 b3 b4) pl1.isList pl2.isList fun h' N eN hz hTI hTO hr1 hr2 hr3 hsz hk => args_nil ?_
  subst eN
  have I7 : Inv X pins σ H3 { s3 with heap := h' } := I6.kept (t' := s3.toks) hk
  have fresh : ∀ c, c ∈ [s3.heap.objs.size + 5, s3.heap.objs.size + 3, s3.heap.objs.size + 4, s3.heap.objs.size, s3.heap.objs.size + 1, s3.heap.objs.size + 2] → FpOk X pins H3 c := fun c hcm => by
    have e' : c = s3.heap.objs.size + 5 ∨ c = s3.heap.objs.size + 3 ∨ c = s3.heap.objs.size + 4 ∨ c = s3.heap.objs.size ∨ c = s3.heap.objs.size + 1 ∨ c = s3.heap.objs.size + 2 := by simpa using hcm
    have hle : s3.heap.objs.size ≤ c := by rcases e' with z | z | z | z | z | z <;> omega
    exact I6.fpOk hle (I6.hok.fresh hle)
  have l1 := pl1.lt
  have l2 := pl2.lt
  generalize s3.heap.objs.size = N at *
  have D : Z3Ap (N + 5) (N + 3) (N + 4) N (N + 1) (N + 2) p1 p2 := z3_ap N p1 p2 l1 l2
  have hn : Builtin.Range.rangeSize i j 1 = j - i := by
    rw [rangeSize_one]
    omega
  rw [hn] at hr1
  refine z3_list (s := { s3 with heap := h' }) hh hh I7 D fresh ⟨hz, hTI, ⟨_, _, _, hTO⟩, ?_, hr2, hr3, pl1.isList.at fun o e => hk _ o e, pl2.isList.at fun o e => hk _ o e⟩ v1 v2 (by show p1 < h'.objs.size; rw [hsz]; exact Nat.lt_of_lt_of_le l1 (Nat.le_add_right _ _)) (by show p2 < h'.objs.size; rw [hsz]; exact Nat.lt_of_lt_of_le l2 (Nat.le_add_right _ _)) hl hl2 hz1 h0 fun S H' s' J o => ⟨.ref S, H', J, rfl, q S H' o⟩
  simpa using hr1
end
namespace SM
variable {μ : Type}
def z3L : Int → List D → List D → List D
  | a, x :: xs, y :: ys => .tuple [.int a, x, y] :: z3L (a + 1) xs ys
  | _, _, _ => []
def rg2D : List D → Option (Int × Int)
  | [.int i, .int j] => if -(2 ^ 62) ≤ i ∧ i < 2 ^ 62 ∧ -(2 ^ 62) ≤ j ∧ j < 2 ^ 62 then some (i, j) else none
  | _ => none
def lzD (p : Int × Int) (x y : D) : Option D := match x, y with
  | .list xs, .list ys => if (xs.length : Int) = p.2 - p.1 ∧ ys.length = xs.length ∧ 0 < xs.length then some (.list (z3L p.1 xs ys)) else none
  | _, _ => none
def lz (Es : SM μ (List D)) (E3 E4 : SM μ D) : SM μ D := bd Es fun ds => bd (of (rg2D ds)) fun p => bd E3 fun x => bd E4 fun y => of (lzD p x y)
end SM
section
open SM
variable {X : Cx} {μ τ τ' ρ : Type} {G : Gx} {σ : St} {L : List (V × D)} {C Cp : μ → List Root} {te ta tb tc : TE} {E E1 E2 E3 E4 : SM μ D}
theorem z3_dt {K : PySem.W.Frag} {B : Addr → Prop} {H : Hp} : ∀ {xs ys : List V} {ds es : List D} {as : List Addr} {a : Int}, DtAll K B H xs ds → DtAll K B H ys es → as.length = xs.length → ys.length = xs.length →
    (∀ (j : Nat) (c : Addr), as[j]? = some c → B c ∧ ∃ x y, xs[j]? = some x ∧ ys[j]? = some y ∧ H c = some (.tup [.int (a + (j : Int)), x, y])) → DtAll K B H (as.map V.ref) (z3L a ds es)
  | [], [], _, _, [], _, .nil, .nil, _, _, _ => .nil
  | x :: xs, y :: ys, _, _, c :: as, a, .cons hx h1, .cons hy h2, e1, e2, h => by
    obtain ⟨b, x', y', q1, q2, q3⟩ := h 0 c rfl
    have e1' : x = x' := by simpa using q1
    have e2' : y = y' := by simpa using q2
    subst e1' e2'
    have q3' : H c = some (.tup [.int a, x, y]) := by simpa using q3
    refine .cons (.tup (.inl ⟨b, .inl q3'⟩) (.cons (.int _) (.cons hx (.cons hy .nil)))) (z3_dt h1 h2 (by simpa using e1) (by simpa using e2) fun j c' hj => ?_)
    obtain ⟨b', x2, y2, r1, r2, r3⟩ := h (j + 1) c' (by simpa using hj)
    refine ⟨b', x2, y2, by simpa using r1, by simpa using r2, ?_⟩
    rw [r3]
    have : a + ((j + 1 : Nat) : Int) = a + 1 + (j : Int) := by omega
    rw [this]
theorem Wd.z3 {K : PySem.W.Frag} {O : Og} {C : List Root} {H H' : Hp} {S p1 p2 : Addr} {a : Int} {xs ys : List V} {ds es : List D} (w : Wd K O L C H) (hx : (V.ref p1, PyData.list ds) ∈ L) (hy : (V.ref p2, PyData.list es) ∈ L)
    (o : Z3Out H H' S a xs ys) (h1 : ∀ B, (∀ f ∈ L, Dt K B H f.1 f.2) → DtAll K B H xs ds) (h2 : ∀ B, (∀ f ∈ L, Dt K B H f.1 f.2) → DtAll K B H ys es) (hl : ys.length = xs.length) : Wd K O ((.ref S, .list (z3L a ds es)) :: L) C H' := by
  obtain ⟨B, wb⟩ := w
  obtain ⟨as, al, nS, hS, tu, kp⟩ := o
  have s : Same H H' := kp
  have w2 := wb.grow (B' := fun q => B q ∨ q = S ∨ q ∈ as) s (fun q b => .inl b) (fun q b => b.elim .inl fun e => .inr (by
    rcases e with e | e
    · subst e; exact ⟨nS, _, hS⟩
    · obtain ⟨j, hj⟩ := List.mem_iff_getElem?.mp e
      obtain ⟨n, x, y, _, _, e⟩ := tu j q hj
      exact ⟨n, _, e⟩))
  have k : Kp B H (fun q => B q ∨ q = S ∨ q ∈ as) H' := fun q o b e => ⟨.inl b, s q o e⟩
  refine ⟨_, w2.fact (.lst ⟨.inr (.inl rfl), hS⟩ (z3_dt (Dt.monoAll k _ _ (h1 B wb.ft)) (Dt.monoAll k _ _ (h2 B wb.ft)) al hl fun j c hj => ?_))⟩
  obtain ⟨_, x, y, q1, q2, q3⟩ := tu j c hj
  exact ⟨.inr (.inr (List.mem_of_getElem? hj)), x, y, q1, q2, q3⟩
theorem ev_lz {tA : TA} {Es : SM μ (List D)} (ha : AV G tA σ L C Es) (hx : EV G ta σ L C E3) (hy : EV G tb σ L C E4) : EV G (tLZ G.K tA ta tb) σ L C (lz Es E3 E4) := by
  intro m F L' H Q s w q b
  refine ha m F L' H _ s w (fun ds m1 vs H1 L2 e1 s2 i2 w1 => ?_) b.fst
  have b1 := b.snd e1
  cases er : rg2D ds with
  | none => rw [er] at b1; exact absurd rfl b1.2
  | some p =>
    rw [er] at b1
    obtain ⟨i, j⟩ := p
    have hd : ds = [.int i, .int j] ∧ (-(2 ^ 62) ≤ i ∧ i < 2 ^ 62 ∧ -(2 ^ 62) ≤ j ∧ j < 2 ^ 62) := by
      unfold rg2D at er
      split at er
      · split at er
        · next c => cases er; exact ⟨rfl, c⟩
        · cases er
      · cases er
    obtain ⟨rfl, hb⟩ := hd
    obtain ⟨v1, v2, rfl, hv1, hv2⟩ := i2.two
    obtain ⟨B1, d1⟩ := w1.dt hv1
    obtain ⟨B2, d2⟩ := w1.dt hv2
    rw [d1.int_inv, d2.int_inv]
    refine ⟨i, j, rfl, hb, ?_⟩
    have b2 : Bk G C F L2 (bd E3 (fun x => bd E4 fun y => of (lzD (i, j) x y)) m1) := b1.mono s2
    refine hx m1 F L2 H1 _ (fun f hf => s2 f (s f hf)) w1 (fun x m2 v H2 e2 w2 => ?_) b2.fst
    have b3 := b2.snd e2
    refine hy m2 F ((v, x) :: L2) H2 _ (fun f hf => .tail _ (s2 f (s f hf))) w2 (fun y m3 u H3 e3 w3 => ?_) (b3.fst.mono fun f hf => .tail _ hf)
    have b4 := b3.snd e3
    cases x with
    | list xs =>
      cases y with
      | list ys =>
        by_cases hc : (xs.length : Int) = j - i ∧ ys.length = xs.length ∧ 0 < xs.length
        · have w3' := w3
          obtain ⟨B, wb⟩ := w3'
          obtain ⟨p1, us, rfl, f1, a1⟩ := Dt.lst_inv (wb.ft _ (.tail _ (.head _)))
          obtain ⟨p2, us2, rfl, f2, a2⟩ := Dt.lst_inv (wb.ft _ (.head _))
          have l1 := a1.len
          have l2 := a2.len
          refine ⟨p1, p2, us, us2, rfl, rfl, f1.sq, f2.sq, by rw [l1]; exact hc.1, by rw [l1, l2]; exact hc.2.1, by rw [l1]; exact hc.2.2, fun S H' o => q (.list (z3L i xs ys)) m3 _ H' ?_ ?_⟩
          · show bd Es _ m = _
            rw [bd_ok e1, er]
            show bd E3 _ m1 = _
            rw [bd_ok e2, bd_ok e3]
            show of (lzD (i, j) (.list xs) (.list ys)) m3 = _
            have el : lzD (i, j) (.list xs) (.list ys) = some (.list (z3L i xs ys)) := if_pos hc
            rw [el]; rfl
          · refine (w3.z3 (.tail _ (.head _)) (.head _) o (fun B' hf => ?_) (fun B' hf => ?_) (by rw [l1, l2]; exact hc.2.1)).sub fun f hf => ?_
            · obtain ⟨p', us', e', f', a'⟩ := Dt.lst_inv (hf _ (.tail _ (.head _)))
              cases e'
              have e3 : us' = us := by
                have h1 := f1.2
                rw [f'.2] at h1
                cases h1; rfl
              rw [← e3]; exact a'
            · obtain ⟨p', us', e', f', a'⟩ := Dt.lst_inv (hf _ (.head _))
              cases e'
              have e3 : us' = us2 := by
                have h1 := f2.2
                rw [f'.2] at h1
                cases h1; rfl
              rw [← e3]; exact a'
            · rcases List.mem_cons.mp hf with e | e
              · rw [e]; exact .head _
              · exact .tail _ (.tail _ (.tail _ (s2 f e)))
        · have : lzD (i, j) (.list xs) (.list ys) = none := if_neg hc
          rw [this] at b4
          exact absurd rfl b4.2
      | _ => exact absurd rfl b4.2
    | _ => exact absurd rfl b4.2
end
namespace SM
variable {μ : Type}
def rng3D : List D → Option (List D)
  | [.int i, .int j, .int c] => if c ≠ 0 ∧ c.natAbs < 1073741824 ∧ Builtin.Range.small i j c = true ∧ 0 ≤ Builtin.Range.rangeSize i j c then some ((List.range (Builtin.Range.rangeSize i j c).toNat).map fun k => .int (i + (k : Nat) * c)) else none
  | _ => none
def itR3 (Es : SM μ (List D)) : SM μ (List D) := bd Es fun ds => of (rng3D ds)
def zip2L : List D → List D → List D
  | x :: xs, y :: ys => .tuple [x, y] :: zip2L xs ys
  | _, _ => []
def zip2D : List D → Option (List D)
  | [.list xs, .list ys] => some (zip2L xs ys)
  | _ => none
def itZ (Es : SM μ (List D)) : SM μ (List D) := bd Es fun ds => of (zip2D ds)
end SM
section
open SM RT RZ
variable {X : Cx} {μ τ τ' ρ : Type} {G : Gx} {σ : St} {L : List (V × D)} {C Cp : μ → List Root} {te tb tc : TE} {E E1 E2 E3 E4 : SM μ D}
theorem In2.three {L : List (V × D)} {xs : List V} {d e f : D} (h : In2 L xs [d, e, f]) : ∃ x y z, xs = [x, y, z] ∧ (x, d) ∈ L ∧ (y, e) ∈ L ∧ (z, f) ∈ L := by
  cases h with | cons a h => cases h with | cons b h => cases h with | cons c h => cases h; exact ⟨_, _, _, rfl, a, b, c⟩
theorem iv_rng3 {ta : TA} {Es : SM μ (List D)} (h : AV G ta σ L C Es) : IV G (iRng3 ta) σ L C (itR3 Es) := by
  intro m F L' H R s w q b
  refine h m F L' H _ s w (fun ds m1 vs H1 L2 e1 s2 i2 w1 => ?_) b.fst
  have b1 := b.snd e1
  cases er : rng3D ds with
  | none => rw [er] at b1; exact absurd rfl b1.2
  | some xs =>
    have hd : ∃ i j c, ds = [.int i, .int j, .int c] ∧ (c ≠ 0 ∧ c.natAbs < 1073741824 ∧ Builtin.Range.small i j c = true ∧ 0 ≤ Builtin.Range.rangeSize i j c) ∧ xs = (List.range (Builtin.Range.rangeSize i j c).toNat).map fun k => .int (i + (k : Nat) * c) := by
      unfold rng3D at er
      split at er
      · split at er
        · next c => cases er; exact ⟨_, _, _, rfl, c, rfl⟩
        · cases er
      · cases er
    obtain ⟨i, j, c, rfl, ⟨c1, c2, c3, c4⟩, rfl⟩ := hd
    obtain ⟨v1, v2, v3, rfl, hv1, hv2, hv3⟩ := i2.three
    obtain ⟨B1, d1⟩ := w1.dt hv1
    obtain ⟨B2, d2⟩ := w1.dt hv2
    obtain ⟨B3, d3⟩ := w1.dt hv3
    rw [d1.int_inv, d2.int_inv, d3.int_inv]
    refine ⟨i, j, c, (Builtin.Range.rangeSize i j c).toNat, rfl, ⟨c1, c2, c3, by omega⟩, q ((List.range (Builtin.Range.rangeSize i j c).toNat).map fun k => .int (i + (k : Nat) * c)) m1 _ H1 L2 ?_ s2 w1 ?_⟩
    · show bd Es _ m = _
      rw [bd_ok e1, er]; rfl
    · intro L3 C3 H3 s3 w3 k
      refine ⟨fun x hx => ?_, fun hi => ?_⟩
      · rw [List.getElem?_map] at hx
        cases e : (List.range (Builtin.Range.rangeSize i j c).toNat)[k]? with
        | none => rw [e] at hx; cases hx
        | some k' =>
          rw [e] at hx
          cases hx
          rw [List.getElem?_eq_some_iff] at e
          obtain ⟨h1, h2⟩ := e
          rw [List.getElem_range] at h2
          rw [List.length_range] at h1
          refine ⟨h1, fun u H' y => ?_⟩
          obtain ⟨e1, y⟩ := y
          subst e1 y
          rw [h2]
          exact w3.fact fun _ _ => .int _
      · rw [List.length_map, List.length_range] at hi
        exact hi
theorem zip2_get : ∀ {xs ys : List D} {i : Nat} {z : D}, (zip2L xs ys)[i]? = some z → ∃ x y, xs[i]? = some x ∧ ys[i]? = some y ∧ z = .tuple [x, y]
  | x :: xs, y :: ys, 0, z, h => ⟨x, y, rfl, rfl, by simpa [zip2L] using h.symm⟩
  | x :: xs, y :: ys, i + 1, z, h => by
    obtain ⟨a, b, h1, h2, h3⟩ := zip2_get (xs := xs) (ys := ys) (i := i) (z := z) (by simpa [zip2L] using h)
    exact ⟨a, b, by simpa using h1, by simpa using h2, h3⟩
  | [], _, _, z, h => by simp [zip2L] at h
  | _ :: _, [], _, z, h => by simp [zip2L] at h
theorem zip2_len : ∀ (xs ys : List D), (zip2L xs ys).length = min xs.length ys.length
  | x :: xs, y :: ys => by simp [zip2L, zip2_len xs ys]
  | [], _ => by simp [zip2L]
  | _ :: _, [] => by simp [zip2L]
theorem iv_zip {ta : TA} {Es : SM μ (List D)} (h : AV G ta σ L C Es) : IV G (iZipA G.K ta) σ L C (itZ Es) := by
  intro m F L' H R s w q b
  refine h m F L' H _ s w (fun ds m1 vs H1 L2 e1 s2 i2 w1 => ?_) b.fst
  have b1 := b.snd e1
  cases er : zip2D ds with
  | none => rw [er] at b1; exact absurd rfl b1.2
  | some zs =>
    have hd : ∃ xs ys, ds = [.list xs, .list ys] ∧ zs = zip2L xs ys := by
      unfold zip2D at er
      split at er
      · cases er; exact ⟨_, _, rfl, rfl⟩
      · cases er
    obtain ⟨xs, ys, rfl, rfl⟩ := hd
    obtain ⟨v1, v2, rfl, hv1, hv2⟩ := i2.two
    have w1' := w1
    obtain ⟨B, wb⟩ := w1'
    obtain ⟨p1, us1, rfl, hl1, ha1⟩ := Dt.lst_inv (wb.ft _ hv1)
    obtain ⟨p2, us2, rfl, hl2, ha2⟩ := Dt.lst_inv (wb.ft _ hv2)
    refine ⟨p1, p2, us1, us2, rfl, .inl ⟨hl1.sq, hl2.sq, q (zip2L xs ys) m1 _ H1 L2 ?_ s2 w1 ?_⟩⟩
    · show bd Es _ m = _
      rw [bd_ok e1, er]; rfl
    · intro L3 C3 H3 s3 w3 i
      have w3' := w3
      obtain ⟨B3, wb3⟩ := w3'
      obtain ⟨p1', us1', e1', hl1', ha1'⟩ := Dt.lst_inv (wb3.ft _ (s3 _ hv1))
      obtain ⟨p2', us2', e2', hl2', ha2'⟩ := Dt.lst_inv (wb3.ft _ (s3 _ hv2))
      cases e1'
      cases e2'
      have el1 := ha1'.len
      have el2 := ha2'.len
      refine ⟨fun z hz => ?_, fun hi => ?_⟩
      · obtain ⟨x, y, hx, hy, rfl⟩ := zip2_get hz
        obtain ⟨a, ha, hda⟩ := ha1'.get hx
        obtain ⟨c, hc, hdc⟩ := ha2'.get hy
        refine ⟨⟨us1', us2', a, c, hl1'.sq, hl2'.sq, ha, hc⟩, fun u H' y => ?_⟩
        obtain ⟨T, a', c', rfl, hT, rfl, f1, f2⟩ := y
        have q1 := f1 _ hl1'.sq
        have q2 := f2 _ hl2'.sq
        rw [ha] at q1
        rw [hc] at q2
        cases q1
        cases q2
        exact Wb.tupD wb3 hT (.cons hda (.cons hdc .nil))
      · rw [zip2_len] at hi
        exact ⟨us1', us2', hl1'.sq, hl2'.sq, by omega⟩
end
section
open PySem PySem.Spec PyProof.Rows
variable {X : Cx}
/-- an item that is a number or None -/
def INv (y : V) : Prop := y = .non ∨ ∃ i, y = .int i
def cntV (k : Int) (ys : List V) : Nat := ys.countP fun y => match y with | .int i => i == k | _ => false
def rCntN (K : PySem.W.Frag) : V → List V → Hp → VK → Prop := fun x xs H Q => ∃ (p : Addr) (ys : List V) (k : Int), x = .ref p ∧ xs = [.int k] ∧ SqL K H p ys ∧ (∀ y ∈ ys, INv y) ∧ Q (.int (cntV k ys : Nat)) H
theorem eqk_at {A : Around} {s : Shared} {k : Int} {t : Tok} {y : V} {v : Value} (r : RelV y v) (h : INv y) : SeqAt.EqAt A s v (.int k t) (eqk k v) := by
  rcases h with h | ⟨i, h⟩
  · subst h
    have e : v = Value.none := r
    subst e
    exact SeqAt.EqAt.none_int k t
  · subst h
    obtain ⟨u, e⟩ := r
    subst e
    exact (MeetsSeq.EqGives.int i k u t).at _ _
theorem cntV_eq {k : Int} : ∀ {ys : List V} {us : List Value}, Vals ys us → (∀ y ∈ ys, INv y) → us.countP (eqk k) = cntV k ys
  | _, _, .nil, _ => rfl
  | y :: ys, u :: us, .cons r t, h => by
    have ih := cntV_eq (k := k) t fun z hz => h z (.tail _ hz)
    unfold cntV at ih ⊢
    rw [List.countP_cons, List.countP_cons, ih]
    rcases h y (.head _) with e | ⟨i, e⟩
    · subst e
      have e2 : u = Value.none := r
      subst e2; rfl
    · subst e
      obtain ⟨z, e2⟩ := r
      subst e2; rfl
theorem mt_lcountN : MtR X "list.count" (rCntN X.K) := by
  intro pins s σ H x xs v us Q I rx rxs h
  obtain ⟨p, ys, k, rfl, rfl, hs, hn, q⟩ := h
  cases rx
  obtain ⟨u, rfl, ru⟩ := rxs.one
  obtain ⟨t, rfl⟩ := ru
  obtain ⟨its, rv, ⟨⟨cls, dd, data, sl⟩, n, ho, hc, hdn, hd⟩, hlen⟩ := I.list hs
  simp only at hc hd
  subst hc hd
  refine call_meets PySem.F.slot_list_count ⟨_, ho, rfl⟩ PySem.F.entry_list_count (PySem.F.args_list_count_2 _ _)
    (SeqAt.list_countAt p its.toArray n dd sl (.int k t) (eqk k)) ⟨ho, fun y hy => ?_, ?_⟩
  · have hy' : y ∈ its := by simpa using hy
    obtain ⟨i, hi, e⟩ := List.getElem_of_mem hy'
    have hl : i < ys.length := by rw [rv.length]; exact hi
    obtain ⟨w', hw, rw'⟩ := rv.get (List.getElem?_eq_getElem hl)
    rw [List.getElem?_eq_getElem hi, e] at hw
    cases hw
    exact eqk_at rw' (hn _ (List.getElem_mem hl))
  have ec : its.toArray.toList.countP (eqk k) = cntV k ys := cntV_eq rv hn
  refine ⟨.int (cntV k ys : Nat), H, I.tok _, ⟨s.toks, ?_⟩, q⟩
  show Value.int ((its.toArray.toList.countP (eqk k) : Nat) : Int) s.toks = Value.int ((cntV k ys : Nat) : Int) s.toks
  rw [ec]
theorem callWith_type_kw {M : Model} {A : Around} {E : Value → Shared → Prop} {s : Shared} {env : Env} {pos : Pos} {T : String} {e : Expr} {rest : List Expr} {kws : List Keyword} {Q : Value → Shared → Prop}
    (h : wpAny M A (spliced (backTo pos (starEach (e :: rest) env))) (fun vs s₁ => wpAny M A (evalAll ((backToKw pos (keywordEach kws env)).map (·.2)))
      (fun kvs s₂ => wpAny M A (call (.type T) vs (((backToKw pos (keywordEach kws env)).filterMap (·.1)).zip kvs)) Q E s₂) E s₁) E s)
    (he : backTo pos (starEach (e :: rest) env) = (false, eval e env) :: backTo pos (starEach rest env)) (hplain : (backTo pos (starEach (e :: rest) env)).any (·.1) = false)
    (hall : (backToKw pos (keywordEach kws env)).all (·.1.isSome) = true) (hkw : (backToKw pos (keywordEach kws env)).any (·.1.isNone) = false) :
    wpAny M A (callWith pos (.type T) [] (backTo pos (starEach (e :: rest) env)) (backToKw pos (keywordEach kws env))) Q E s := by
  unfold callWith
  have h2 : wpAny M A (evalArgs (.type T) true (backTo pos (starEach (e :: rest) env)) (backToKw pos (keywordEach kws env))) (fun a s₁ => wpAny M A (call (.type T) ([] ++ a.pos) a.kw) Q E s₁) E s := by
    rw [he] at h ⊢
    exact evalArgs_kwB hall h
  refine wpAny_bind (wpAny_holding (wpAny_mono h2 (fun a s₁ h₁ => wpAny_bind (wpAny_standAt ?_)) fun _ _ x => x))
  simp only [hplain, hkw, Bool.or_false]
  refine wpAny_bind (wpAny_pure ?_)
  exact wpAny_bind (wpAny_mono h₁ (fun r s₂ hr => wpAny_bind (wpAny_holding (wpAny_point (wpAny_pure hr)))) fun _ _ x => x)
def IteS (K : PySem.W.Frag) (a : Addr) (k : Int) : It :=
  ⟨fun i H => ∃ (xs : List V) (x : V), SqL K H a xs ∧ xs[i]? = some x, fun i H v H' => ∃ T x, v = .ref T ∧ H T = none ∧ H' = upd H T (.tup [.int (k + (i : Nat)), x]) ∧ ∀ xs, SqL K H a xs → xs[i]? = some x, fun i H => ∃ xs : List V, SqL K H a xs ∧ xs.length ≤ i⟩
theorem turn_enumS {P : Program} {w : World} {K : PySem.W.Frag} {elts : List Expr} {kk : Nat} {tpos : Pos} (a e it : Addr) (k : Int) (hae : a ≠ e) (hai : a ≠ it) :
    Turn P w K (.Tuple elts kk tpos) (IteS K a k) [e, it] e (fun i h => (∃ old, IsEnum h e it (k + ((i : Nat) : Int)) old) ∧ h.IsListIter it a i ∧ e ≠ it) where
  mem := by simp
  obj := fun i h st b hb => by
    obtain ⟨⟨old, he⟩, ⟨o, ho, hc, hd⟩, _⟩ := st
    have e' : b = e ∨ b = it := by simpa using hb
    rcases e' with z | z
    · rw [z]; exact ⟨_, he, fun v q => nomatch q⟩
    · rw [z]; exact ⟨o, ho, fun v q => by rw [hd] at q; cases q⟩
  keep := fun i h h' st kp => let ⟨⟨old, he⟩, hi, hne⟩ := st; ⟨⟨old, kp e (by simp) _ he⟩, hi.at fun o q => kp it (by simp) o q, hne⟩
  item := by
    intro X hP hw hK hc i pins s σ H E I hf st hg
    subst hP hw hK
    obtain ⟨⟨old, he⟩, hit, hne⟩ := st
    obtain ⟨xs, x, hq, hx⟩ := hg
    obtain ⟨its, rv, p, hz⟩ := I.list hq
    obtain ⟨u, hu, ru⟩ := rv.get hx
    have hel : e < s.heap.objs.size := Heap.lt_size he
    have hil : it < s.heap.objs.size := by obtain ⟨_, q, _⟩ := hit; exact Heap.lt_size q
    have hlt : i < its.toArray.size := by
      rw [List.size_toArray, ← rv.length]
      exact (List.getElem?_eq_some_iff.mp hx).1
    have D : Draws X.prog X.w X.A.in1 it [it, a] its.toArray.size (fun i v => its.toArray[i]? = some v) (fun i h => h.IsListIter it a i ∧ h.IsList a its.toArray) := Draws.list (show X.A.in1.handled = none from I.ok.hd hc) it a hai its.toArray
    refine wpAny_pyNext_enum_itemC (c := k + ((i : Nat) : Int)) D he ⟨hit, p.isList⟩ hlt hne (by simp [hne, hae.symm]) fun u' h' tk hu' ho hst' hT hsz hkk => ?_
    have eu : u' = u := by
      have h1 : its.toArray[i]? = some u' := hu'
      have h2 : its.toArray[i]? = some u := by simpa using hu
      rw [h2] at h1; cases h1; rfl
    subst eu
    refine ⟨_, rfl, wpAny_letOwnedTupleGo_enum (s := { s with heap := h', toks := tk + 1 }) ho fun h'' he' sb => ?_⟩
    have hT2 : h''.get? s.heap.objs.size = some { cls := .type "tuple", data := .seq #[.int (k + ((i : Nat) : Int)) tk, u'] } := (sb.2 _ (Nat.ne_of_gt hel)).trans hT
    have new : ObjOk X.prog X.w (upd H s.heap.objs.size (.tup [.int (k + (i : Nat)), x])) h'' s.heap.objs.size (.tup [.int (k + (i : Nat)), x]) :=
      ⟨by show 2 ≤ sizeLine; decide, [.int (k + ((i : Nat) : Int)) tk, u'], .cons ⟨_, rfl⟩ (.cons ru .nil), ⟨_, hT2, rfl, _, rfl⟩⟩
    have I1 : Inv X pins σ (upd H s.heap.objs.size (.tup [.int (k + (i : Nat)), x])) { s with heap := h'', toks := tk + 1 } :=
      I.turnedNew (ch := [e, it]) (fun b ob hb q => (sb.2 b (fun z => hb (by simp [z]))).trans (hkk b ob (fun z => hb (by simp [z])) (fun z => hb (by simp [z])) q)) hf (Nat.le_refl _) new
    refine ⟨.ref s.heap.objs.size, _, I1, rfl, ⟨_, x, rfl, I.hok.fresh (Nat.le_refl _), rfl, fun ys hy => by rw [I.list_inj hy hq]; exact hx⟩, ⟨⟨u', ?_⟩, hst'.1.at fun o q => (sb.2 it (Ne.symm hne)).trans q, hne⟩, fun b hb => ?_⟩
    · have e1 : k + ((i + 1 : Nat) : Int) = k + (i : Int) + 1 := by omega
      rw [e1]; exact he'
    · have hb' : b < s.heap.objs.size := by
        have e' : b = e ∨ b = it := by simpa using hb
        rcases e' with z | z
        · rw [z]; exact hel
        · rw [z]; exact hil
      rw [upd_ne (Nat.ne_of_lt hb')]
      exact (hf b hb).1
  done := by
    intro X hP hw hK hc i pins s σ H E I hf st hg
    subst hP hw hK
    obtain ⟨⟨old, he⟩, hit, hne⟩ := st
    obtain ⟨xs, hq, hx⟩ := hg
    obtain ⟨its, rv, p, hz⟩ := I.list hq
    obtain ⟨f0, f1, f2, f3, f4, f5⟩ := hf it (by simp)
    have hl := rv.length
    have hT : s.TypeIs (.ref e) "enumerate" := ⟨_, he, rfl⟩
    unfold pyNext
    refine wpAny_bind (wpAny_attempt (wpAny_callSpecial?_slot (name := Str.ofString "__next__") hT F.slot_enumerate_next
      (wpAny_call_entry F.slot_enumerate_next hT F.entry_enumerate_next ?_ (F.args_enumerate_next_1 _))))
    show wpAny _ _ (field (.ref e) 2 >>= _) _ _ s
    refine wpAny_bind (wpAny_field he rfl (x := .ref it) rfl ?_)
    refine wpAny_bind (wpAny_nextOf_list_end (I.ok.hd hc) hit p.isList (by simp; omega) fun h' ex eb hex => ?_)
    obtain ⟨o, ho, hoc⟩ := hex
    refine wpAny_bind (wpAny_isInstance (T := "StopIteration") (b := true) ⟨o, ho, hoc⟩ isSubtype_stop ?_)
    exact wpAny_pure ⟨rfl, I.turned (t' := s.toks) (fun b o hb q => eb b o hb q) f0 f1 f3 f4 f5⟩
  self := fun A i s Q E st h => let ⟨⟨_, he⟩, _⟩ := st; wpAny_pyIter_enum he h
def iEnumS (K : PySem.W.Frag) (ta tk : TA) : TI := fun σ H R => ta σ H fun vs H1 => tk σ H1 fun zs H2 => ∃ a xs k, vs = [.ref a] ∧ zs = [.int k] ∧ (-(2 ^ 62) ≤ k ∧ k < 2 ^ 62) ∧ SqL K H2 a xs ∧ R (IteS K a k) H2
theorem pi_enumS {e : Expr} {ta tk : TA} {p pos tpos : Pos} {elts : List Expr} {kk : Nat} {kws : List Keyword} (hg : Gl X "enumerate") (hm : X.mg "enumerate" = none) (ha : PA X [e] ta) (hk : PK X kws tk)
    (he : backTo pos (starEach [e] X.env) = (false, eval e X.env) :: backTo pos (starEach [] X.env) := by rfl) (hpl : (backTo pos (starEach [e] X.env)).any (·.1) = false := by rfl)
    (hall : (backToKw pos (keywordEach kws X.env)).all (·.1.isSome) = true := by rfl) (hkw : (backToKw pos (keywordEach kws X.env)).any (·.1.isNone) = false := by rfl) (hks : (backToKw pos (keywordEach kws X.env)).filterMap (·.1) = [Str.ofString "start"] := by rfl) :
    PI X (.Tuple elts kk tpos) (.Call (.Name "enumerate" p) [e] kws pos) (iEnumS X.K ta tk) := by
  refine ⟨fun pins s σ H R I h => ?_⟩
  refine wpAny_Call_Name_kw (ld_blt I hg hm boot_enumerate ?_)
  refine callWith_type_kw (thn (ha.run pos pins s σ H _ I h) fun us s1 ⟨vs, H1, I1, r1, q1⟩ => thn (hk.run pos pins s1 σ H1 _ I1 q1) fun ws s2 ⟨zs, H2, I2, r2, q2⟩ => ?_) he hpl hall hkw
  obtain ⟨a, xs, k, ex, ez, hb, hq, q⟩ := q2
  subst ex ez
  rw [hks]
  cases r1 with
  | cons r rr =>
    cases rr
    cases r
    obtain ⟨w', rfl, rw'⟩ := r2.one
    obtain ⟨t, rfl⟩ := rw'
    obtain ⟨its, rv, p', hz⟩ := I2.list hq
    have hal : a < s2.heap.objs.size := by obtain ⟨o, ho, _⟩ := p'.isList; exact Heap.lt_size ho
    refine enum_begins_start (begins_list a its.toArray) p'.isList (by omega) (by omega) fun h' he' hit hsz hkk => wpAny_pyIter_enum he' ?_
    have I3 : Inv X pins σ H2 { s2 with heap := h' } := I2.kept (t' := s2.toks) hkk
    refine ⟨s2.heap.objs.size + 1, [s2.heap.objs.size + 1, s2.heap.objs.size], _, _, H2, rfl, I3, turn_enumS a (s2.heap.objs.size + 1) s2.heap.objs.size k (Nat.ne_of_lt (Nat.lt_succ_of_lt hal)) (Nat.ne_of_lt hal), ⟨⟨.none, by simpa using he'⟩, ⟨_, hit, rfl, rfl⟩, Nat.succ_ne_self _⟩, fun b hb => ?_, q⟩
    have e' : b = s2.heap.objs.size + 1 ∨ b = s2.heap.objs.size := by simpa using hb
    have hle : s2.heap.objs.size ≤ b := by
      rcases e' with z | z
      · rw [z]; exact Nat.le_add_right _ _
      · rw [z]; exact Nat.le_refl _
    exact I2.fpOk hle (I2.hok.fresh hle)
end
section
open PySem PySem.Spec PyProof.Rows
variable {X : Cx} {pins : List (Addr × Obj)} {σ : L2.St} {H : Hp} {s : Shared}
theorem kept_all {g h h' : Heap} {L : Addr} {m : Str → Option Value} (k : ∀ b o, g.get? b = some o → h.get? b = some o) (F : Fr g L h' m) (N : News g L h' (allNews g h L)) : ∀ b o, b ≠ L → h.get? b = some o → h'.get? b = some o := fun b o h1 e => by
  cases q : g.get? b with
  | some u =>
    have := k b u q
    rw [e] at this; cases this
    exact F.keep b _ q
  | none => exact (N (b, o) (mem_allNews h1 q e)).1
theorem keptL_ {h' : Heap} {t' : Nat} {m : Str → Option Value} (I : Inv X pins σ H s) (F : Fr X.base X.env.locals s.heap m) (F' : Fr X.base X.env.locals h' m) (N : News X.base X.env.locals h' (allNews X.base s.heap X.env.locals)) : Inv X pins σ H { s with heap := h', toks := t' } := by
  have kp : ∀ b o, b ≠ X.env.locals → s.heap.get? b = some o → h'.get? b = some o := kept_all (fun b o e => F.keep b o e) F' N
  have nL : ∀ b o, H b = some o → b ≠ X.env.locals := fun b o e z => by
    rw [z, I.free] at e; cases e
  have hok : HOk X.prog X.w H h' := fun a o e => (I.hok a o e).stay (fun b u hb q => kp b u (by
    rcases hb with z | z
    · rw [z]; exact nL a o e
    · exact nL b _ z) q) (fun _ r => r) fun _ _ r => r
  refine I.step (g' := s.gens) (d' := s.drawn) (ch := []) (fun _ z => nomatch z) (fun b o h1 _ _ e _ => kp b o h1 e) (fun b o h1 _ _ e _ => ⟨o.slots, kp b o h1 e⟩) (fun _ _ _ _ n => n) (fun b o _ e => ?_) (fun _ _ e => e) (fun _ _ _ e => e) (fun b ps e => ⟨#[], by rw [e]; simp⟩) (fun m' hm => ?_) hok I.bare
  · by_cases z : b = X.env.locals
    · subst z
      obtain ⟨o', _, _, ho', _⟩ := F'.ns
      exact ⟨o', ho'⟩
    · exact ⟨o, kp b o z e⟩
  · have em : m' = m := by rw [Heap.Ns.eq_nsMap hm, Heap.Ns.eq_nsMap F.ns]
    rw [em]
    exact F'.ns
def minA : List Int → Option Int
  | [] => none
  | x :: xs => match minA xs with
    | none => some x
    | some y => if x.natAbs ≤ y.natAbs then some x else some y
theorem minA_first : ∀ {ns : List Int} {i : Nat} {n : Int}, ns[i]? = some n → (∀ j m, ns[j]? = some m → n.natAbs ≤ m.natAbs ∧ (j < i → n.natAbs < m.natAbs)) → minA ns = some n
  | [], i, n, h, _ => by cases h
  | x :: xs, 0, n, h, hm => by
    cases h
    unfold minA
    cases e : minA xs with
    | none => rfl
    | some y =>
      have hy : ∃ j : Nat, xs[j]? = some y := by
        have : ∀ {l : List Int} {y : Int}, minA l = some y → y ∈ l := fun {l} => by
          induction l with
          | nil => intro y h; cases h
          | cons a r ih =>
            intro y h
            unfold minA at h
            split at h
            · cases h; exact .head _
            · next z hz =>
              split at h
              · cases h; exact .head _
              · cases h; exact .tail _ (ih hz)
        exact List.mem_iff_getElem?.mp (this e)
      obtain ⟨j, hj⟩ := hy
      simp only []
      rw [if_pos (hm (j + 1) y (by simpa using hj)).1]
  | x :: xs, i + 1, n, h, hm => by
    have h' : xs[i]? = some n := by simpa using h
    have ih : minA xs = some n := minA_first (i := i) h' fun j m hj => by
      have := hm (j + 1) m (by simpa using hj)
      exact ⟨this.1, fun q => this.2 (by omega)⟩
    unfold minA
    rw [ih]
    have := (hm 0 x rfl).2 (by omega)
    simp only []
    rw [if_neg (by omega)]
theorem minA_some : ∀ {ns : List Int}, 0 < ns.length → ∃ k, minA ns = some k
  | x :: xs, _ => by
    unfold minA
    cases minA xs with
    | none => exact ⟨_, rfl⟩
    | some y =>
      simp only []
      split
      · exact ⟨_, rfl⟩
      · exact ⟨_, rfl⟩
theorem abs_if (n : Int) : (if n < 0 then -n else n) = (n.natAbs : Int) := by split <;> omega
theorem min_abs_run {a : Addr} {ns : List Int} {k : Int} {Q : VK} (hc : X.calm = true) (I : Inv X pins σ H s) (hs : SqL X.K H a (ns.map V.int)) (hk : minA ns = some k) (q : Q (.int k) H) :
    wpAny (model X.prog X.w) X.A (call (.builtin "min") [.ref a] [(Str.ofString "key", .builtin "abs")]) (EP X pins σ Q) X.xe s := by
  obtain ⟨its, rv, hl, hz⟩ := I.list hs
  have hi := ints_of_vals rv
  have hlen := hi.length
  obtain ⟨m, F⟩ := I.fr
  have hne : 0 < its.length := by
    cases ns with
    | nil => cases hk
    | cons x r => rw [hlen]; simp
  have haL : a ≠ X.env.locals := fun z => by
    obtain ⟨o, ho, hcl, n, hd⟩ := hl.isList
    obtain ⟨o', es, ep, ho', hd', _⟩ := F.ns
    rw [z, ho'] at ho; cases ho
    rw [hd] at hd'; cases hd'
  refine kmb_min (fun i => ((ns.getD i 0).natAbs : Int)) (I.ok.hd hc) F (news_all (g := X.base) (h := s.heap) (L := X.env.locals)) (fun h F' N' => ?_) hne (fun i v hv h tk own F' N' => ?_) fun i v h' tk' hv hb F' N' => ?_
  · obtain ⟨o, ho, r⟩ := hl.isList
    exact ⟨o, kept_all (fun b o e => F.keep b o e) F' N' a o haL ho, r⟩
  · have hi' : i < its.length := (List.getElem?_eq_some_iff.mp hv).1
    obtain ⟨n, hn⟩ : ∃ n, ns[i]? = some n := ⟨_, List.getElem?_eq_getElem (by omega)⟩
    obtain ⟨t, ht⟩ := hi.get i n hn
    rw [ht] at hv
    cases hv
    have e : ns.getD i 0 = n := by simp [hn]
    refine call_abs_int fun u tk' => ?_
    rw [abs_if]
    show KskEnd _ _ _ _ ((ns.getD i 0).natAbs : Int) _ _ _
    rw [e]
    exact KskEnd.intro F' N' fun p hp => hp
  · have hi' : i < its.length := (List.getElem?_eq_some_iff.mp hv).1
    obtain ⟨n, hn⟩ : ∃ n, ns[i]? = some n := ⟨_, List.getElem?_eq_getElem (by omega)⟩
    obtain ⟨t, ht⟩ := hi.get i n hn
    rw [ht] at hv
    cases hv
    have e : ns.getD i 0 = n := by simp [hn]
    have em : minA ns = some n := minA_first hn fun j m' hj => by
      have hj' : j < ns.length := (List.getElem?_eq_some_iff.mp hj).1
      have b := hb j (by omega)
      have e2 : ns.getD j 0 = m' := by simp [hj]
      simp only [e, e2] at b
      exact ⟨by omega, fun z => by have := b.2 z; omega⟩
    rw [hk] at em
    cases em
    exact ⟨.int k, H, keptL_ I F F' N', ⟨t, rfl⟩, q⟩
def tMinA (K : PySem.W.Frag) (ta : TA) : TE := fun σ H Q => ta σ H fun vs H1 => ∃ (a : Addr) (ns : List Int) (k : Int), vs = [.ref a] ∧ SqL K H1 a (ns.map V.int) ∧ minA ns = some k ∧ Q (.int k) H1
theorem pe_minA {e : Expr} {ta : TA} {p np kpos pos : Pos} (hc : X.calm = true) (hg : Gl X "min") (hm : X.mg "min" = none) (hg2 : Gl X "abs") (hm2 : X.mg "abs" = none) (ha : PA X [e] ta)
    (he : backTo pos (starEach [e] X.env) = (false, eval e X.env) :: backTo pos (starEach [] X.env) := by rfl) (hpl : (backTo pos (starEach [e] X.env)).any (·.1) = false := by rfl) :
    PE X (.Call (.Name "min" p) [e] [⟨some "key", .Name "abs" np, kpos⟩] pos) (tMinA X.K ta) := by
  refine ⟨fun pins s σ H Q I h => ?_⟩
  refine wpAny_Call_Name_kw (ld_blt I hg hm (by decide +kernel : bootBuiltins "min" = some (.builtin "min")) ?_)
  refine callWith_kw (thn (ha.run pos pins s σ H _ I h) fun us s1 ⟨vs, H1, I1, r1, q1⟩ => ?_) he hpl (by rfl) (by rfl)
  show wpAny _ _ (evalAll [do let v ← eval (.Name "abs" np) X.env; standAt pos; pure v]) _ _ s1
  refine wpAny_evalAll_cons (wpAny_bind (ld_blt I1 hg2 hm2 (by decide +kernel : bootBuiltins "abs" = some (.builtin "abs")) (wpAny_bind (wpAny_standAt (wpAny_pure ?_)))))
  refine wpAny_evalAll_nil ?_
  obtain ⟨a, ns, k, rfl, hs, hk, q⟩ := q1
  obtain ⟨u, rfl, ru⟩ := r1.one
  cases ru
  exact min_abs_run hc I1 hs hk q
end
namespace SM
variable {μ : Type}
def inD1 : D → Bool
  | .none => true
  | .int _ => true
  | _ => false
def isI (k : Int) : D → Bool
  | .int i => i == k
  | _ => false
def countD : D → D → Option D
  | .list ds, .int k => if ds.all inD1 = true then some (.int (ds.countP (isI k) : Nat)) else none
  | _, _ => none
def isL : D → Option Unit
  | .list _ => some ()
  | _ => none
def cnt2 (E1 E2 : SM μ D) : SM μ D := bd E1 fun x => bd (of (isL x)) fun _ => bd E2 fun y => of (countD x y)
def intsOf : List D → Option (List Int)
  | [] => some []
  | .int i :: r => (intsOf r).map fun l => i :: l
  | _ => none
def minAD : List D → Option D
  | [.list ds] => match intsOf ds with
    | some ns => (minA ns).map PyData.int
    | none => none
  | _ => none
def enL : Int → List D → List D
  | _, [] => []
  | k, d :: ds => .tuple [.int k, d] :: enL (k + 1) ds
def enSD : List D → List D → Option (List D)
  | [.list ds], [.int k] => if -(2 ^ 62) ≤ k ∧ k < 2 ^ 62 then some (enL k ds) else none
  | _, _ => none
def itES (Es Ek : SM μ (List D)) : SM μ (List D) := bd Es fun xs => bd Ek fun ks => of (enSD xs ks)
def enD : List D → Option (List D)
  | [.list ds] => some (enL 0 ds)
  | _ => none
def itE (Es : SM μ (List D)) : SM μ (List D) := bd Es fun xs => of (enD xs)
end SM
section
open SM
variable {X : Cx} {μ τ τ' ρ : Type} {G : Gx} {σ : St} {L : List (V × D)} {C Cp : μ → List Root} {te ta tb tc : TE} {E E1 E2 E3 E4 : SM μ D}
theorem intsOf_map : ∀ {ds : List D} {ns : List Int}, intsOf ds = some ns → ds = ns.map PyData.int
  | [], ns, h => by cases h; rfl
  | .int i :: r, ns, h => by
    cases e : intsOf r with
    | none => simp [intsOf, e] at h
    | some l =>
      have : i :: l = ns := by simpa [intsOf, e] using h
      subst this
      rw [List.map_cons, ← intsOf_map e]
  | .none :: r, ns, h => by cases h
  | .bool _ :: r, ns, h => by cases h
  | .str _ :: r, ns, h => by cases h
  | .list _ :: r, ns, h => by cases h
  | .tuple _ :: r, ns, h => by cases h
  | .dict _ :: r, ns, h => by cases h
theorem intsOf_of : ∀ (ns : List Int), intsOf (ns.map PyData.int) = some ns
  | [] => rfl
  | n :: r => by simp [intsOf, intsOf_of r]
theorem cnt_dt {K : PySem.W.Frag} {B : Addr → Prop} {H : Hp} {k : Int} : ∀ {vs : List V} {ds : List D}, DtAll K B H vs ds → ds.all inD1 = true → (∀ y ∈ vs, INv y) ∧ cntV k vs = ds.countP (isI k)
  | [], _, h, _ => by cases h; exact ⟨fun y hy => (by cases hy), rfl⟩
  | v :: vs, _, h, ha => by
    cases h with
    | cons a b =>
      rw [List.all_cons, Bool.and_eq_true] at ha
      obtain ⟨i1, i2⟩ := cnt_dt (k := k) b ha.2
      unfold cntV at i2 ⊢
      rw [List.countP_cons, List.countP_cons, i2]
      cases a with
      | non =>
        refine ⟨fun y hy => ?_, rfl⟩
        rcases List.mem_cons.mp hy with e | e
        · exact .inl e
        · exact i1 y e
      | int i =>
        refine ⟨fun y hy => ?_, rfl⟩
        rcases List.mem_cons.mp hy with e | e
        · exact .inr ⟨i, e⟩
        · exact i1 y e
      | bl z => exact absurd ha.1 (by simp [inD1])
      | str z => exact absurd ha.1 (by simp [inD1])
      | lst _ _ => exact absurd ha.1 (by simp [inD1])
      | tup _ _ => exact absurd ha.1 (by simp [inD1])
      | scr _ _ => exact absurd ha.1 (by simp [inD1])
theorem ev_count (h1 : EV G ta σ L C E1) (h2 : EV G tb σ L C E2) : EV G (tBM G.K "list" (rCntN G.K) ta (tCons tb tNil)) σ L C (cnt2 E1 E2) := by
  intro m F L' H Q s w q b
  refine h1 m F L' H _ s w (fun x m1 v H1 e1 w1 => ?_) b.fst
  have b1 := b.snd e1
  cases x with
  | list ds =>
    have b1' : Bk G C F L' (bd E2 (fun y => of (countD (.list ds) y)) m1) := b1
    obtain ⟨B1, wb1⟩ := id w1
    obtain ⟨p, vs, rfl, hl, ha⟩ := Dt.lst_inv (wb1.ft _ (.head _))
    refine ⟨.inl ⟨rfl, vs, hl.sq⟩, h2 m1 F ((.ref p, .list ds) :: L') H1 _ (fun f hf => .tail _ (s f hf)) w1 (fun y m2 u H2 e2 w2 => ?_) (b1'.fst.mono fun f hf => .tail _ hf)⟩
    have b2 := b1'.snd e2
    cases y with
    | int k =>
      have ec : countD (.list ds) (.int k) = if ds.all inD1 = true then some (.int (ds.countP (isI k) : Nat)) else none := rfl
      by_cases hc : ds.all inD1 = true
      · rw [if_pos hc] at ec
        obtain ⟨B2, wb2⟩ := id w2
        obtain ⟨p', vs', e', hl', ha'⟩ := Dt.lst_inv (wb2.ft _ (.tail _ (.head _)))
        cases e'
        obtain ⟨c1, c2⟩ := cnt_dt (k := k) ha' hc
        refine ⟨p, vs', k, rfl, by rw [show u = V.int k from (wb2.ft _ (.head _)).int_inv], hl'.sq, c1, ?_⟩
        rw [c2]
        refine q (.int (ds.countP (isI k) : Nat)) m2 _ H2 ?_ ((w2.fact fun _ _ => .int (ds.countP (isI k) : Nat)).sub fun f hf => ?_)
        · show bd E1 _ m = _
          rw [bd_ok e1]
          show bd E2 _ m1 = _
          rw [bd_ok e2, ec]; rfl
        · rcases List.mem_cons.mp hf with e | e
          · rw [e]; exact .head _
          · exact .tail _ (.tail _ (.tail _ e))
      · rw [if_neg hc] at ec
        rw [ec] at b2
        exact absurd rfl b2.2
    | _ => exact absurd rfl b2.2
  | _ => exact absurd rfl b1.2
theorem ev_minA {tA : TA} {Es : SM μ (List D)} (h : AV G tA σ L C Es) : EV G (tMinA G.K tA) σ L C (opL minAD Es) := by
  intro m F L' H Q s w q b
  refine h m F L' H _ s w (fun xs m1 vs H1 L2 e1 s2 i2 w1 => ?_) b.fst
  have b1 := b.snd e1
  have go : ∀ z, minAD xs = some z → ∃ (a : Addr) (ns : List Int) (k : Int), vs = [.ref a] ∧ SqL G.K H1 a (ns.map V.int) ∧ minA ns = some k ∧ z = .int k := fun z hz => by
    unfold minAD at hz
    split at hz
    · next ds =>
      split at hz
      · next ns hn =>
        have := intsOf_map hn
        subst this
        cases ek : minA ns with
        | none => rw [ek] at hz; cases hz
        | some k =>
          rw [ek] at hz
          cases hz
          obtain ⟨v1, rfl, hv1⟩ := i2.one
          obtain ⟨B1, wb1⟩ := id w1
          obtain ⟨p, us, rfl, hl, ha⟩ := Dt.lst_inv (wb1.ft _ hv1)
          rw [ha.ints_inv] at hl
          exact ⟨p, ns, k, rfl, hl.sq, ek, rfl⟩
      · cases hz
    · cases hz
  cases ef : minAD xs with
  | none => rw [ef] at b1; exact absurd rfl b1.2
  | some z =>
    obtain ⟨a, ns, k, rfl, hs, hk, rfl⟩ := go z ef
    refine ⟨a, ns, k, rfl, hs, hk, q (.int k) m1 _ H1 ?_ ((w1.fact fun _ _ => .int k).sub fun f hf => ?_)⟩
    · show bd Es _ m = _
      rw [bd_ok e1, ef]; rfl
    · rcases List.mem_cons.mp hf with e | e
      · rw [e]; exact .head _
      · exact .tail _ (s2 _ e)
theorem enL_get : ∀ {ds : List D} {k : Int} {i : Nat} {z : D}, (enL k ds)[i]? = some z → ∃ d, ds[i]? = some d ∧ z = .tuple [.int (k + (i : Nat)), d]
  | [], k, i, z, h => by cases h
  | d :: ds, k, 0, z, h => by
    refine ⟨d, rfl, ?_⟩
    have : PyData.tuple [.int k, d] = z := by simpa [enL] using h
    rw [← this]; simp
  | d :: ds, k, i + 1, z, h => by
    obtain ⟨d', h1, h2⟩ := enL_get (ds := ds) (k := k + 1) (i := i) (z := z) (by simpa [enL] using h)
    refine ⟨d', by simpa using h1, ?_⟩
    rw [h2]
    have : k + 1 + (i : Int) = k + ((i + 1 : Nat) : Int) := by omega
    rw [this]
theorem enL_len : ∀ (ds : List D) (k : Int), (enL k ds).length = ds.length
  | [], _ => rfl
  | d :: ds, k => by rw [enL, List.length_cons, List.length_cons, enL_len ds (k + 1)]
theorem itok_enS {a : Addr} {k : Int} {ds : List D} {L0 : List (V × D)} (h : (V.ref a, PyData.list ds) ∈ L0) : ItOk G (IteS G.K a k) (enL k ds) L0 := by
  intro L3 C3 H3 s3 w3 i
  obtain ⟨B3, wb3⟩ := id w3
  obtain ⟨p', vs', e', hl', ha'⟩ := Dt.lst_inv (wb3.ft _ (s3 _ h))
  cases e'
  have el := ha'.len
  refine ⟨fun z hz => ?_, fun hi => ?_⟩
  · obtain ⟨d, hd, rfl⟩ := enL_get hz
    obtain ⟨u, hu, hdu⟩ := ha'.get hd
    refine ⟨⟨vs', u, hl'.sq, hu⟩, fun v H' y => ?_⟩
    obtain ⟨T, x, rfl, hT, rfl, hy⟩ := y
    have := hy vs' hl'.sq
    rw [hu] at this
    cases this
    exact Wb.tupD wb3 hT (.cons (.int _) (.cons hdu .nil))
  · rw [enL_len] at hi
    exact ⟨vs', hl'.sq, by omega⟩
theorem iv_enumS {tA tk : TA} {Es Ek : SM μ (List D)} (h : AV G tA σ L C Es) (hk : AV G tk σ L C Ek) : IV G (iEnumS G.K tA tk) σ L C (itES Es Ek) := by
  intro m F L' H R s w q b
  refine h m F L' H _ s w (fun ds m1 vs H1 L2 e1 s2 i2 w1 => ?_) b.fst
  have b1 := b.snd e1
  refine hk m1 F L2 H1 _ (fun f hf => s2 f (s f hf)) w1 (fun ks m2 zs H2 L3 e2 s3 i3 w2 => ?_) (b1.fst.mono s2)
  have b2 := b1.snd e2
  cases er : enSD ds ks with
  | none => rw [er] at b2; exact absurd rfl b2.2
  | some out =>
    have hd : ∃ xs k, ds = [.list xs] ∧ ks = [.int k] ∧ (-(2 ^ 62) ≤ k ∧ k < 2 ^ 62) ∧ out = enL k xs := by
      unfold enSD at er
      split at er
      · split at er
        · next c => cases er; exact ⟨_, _, rfl, rfl, c, rfl⟩
        · cases er
      · cases er
    obtain ⟨xs, k, rfl, rfl, hb, rfl⟩ := hd
    obtain ⟨v1, rfl, hv1⟩ := i2.one
    obtain ⟨v2, rfl, hv2⟩ := i3.one
    obtain ⟨B2, wb2⟩ := id w2
    obtain ⟨p, us, rfl, hl, ha⟩ := Dt.lst_inv (wb2.ft _ (s3 _ hv1))
    refine ⟨p, us, k, rfl, by rw [show v2 = V.int k from (wb2.ft _ hv2).int_inv], hb, hl.sq, q (enL k xs) m2 _ H2 L3 ?_ (fun f hf => s3 f (s2 f hf)) w2 (itok_enS (s3 _ hv1))⟩
    show bd Es _ m = _
    rw [bd_ok e1, bd_ok e2, er]; rfl
theorem itok_en {a : Addr} {ds : List D} {L0 : List (V × D)} (h : (V.ref a, PyData.list ds) ∈ L0) : ItOk G (Ite G.K a) (enL 0 ds) L0 := by
  intro L3 C3 H3 s3 w3 i
  obtain ⟨B3, wb3⟩ := id w3
  obtain ⟨p', vs', e', hl', ha'⟩ := Dt.lst_inv (wb3.ft _ (s3 _ h))
  cases e'
  have el := ha'.len
  refine ⟨fun z hz => ?_, fun hi => ?_⟩
  · obtain ⟨d, hd, rfl⟩ := enL_get hz
    obtain ⟨u, hu, hdu⟩ := ha'.get hd
    refine ⟨⟨vs', u, hl'.sq, hu⟩, fun v H' y => ?_⟩
    obtain ⟨T, x, rfl, hT, rfl, hy⟩ := y
    have := hy vs' hl'.sq
    rw [hu] at this
    cases this
    have e0 : (0 : Int) + (i : Nat) = (i : Nat) := by omega
    rw [e0]
    exact Wb.tupD wb3 hT (.cons (.int _) (.cons hdu .nil))
  · rw [enL_len] at hi
    exact ⟨vs', hl'.sq, by omega⟩
theorem iv_enum {tA : TA} {Es : SM μ (List D)} (h : AV G tA σ L C Es) : IV G (iEnum G.K tA) σ L C (itE Es) := by
  intro m F L' H R s w q b
  refine h m F L' H _ s w (fun ds m1 vs H1 L2 e1 s2 i2 w1 => ?_) b.fst
  have b1 := b.snd e1
  cases er : enD ds with
  | none => rw [er] at b1; exact absurd rfl b1.2
  | some out =>
    have hd : ∃ xs, ds = [.list xs] ∧ out = enL 0 xs := by
      unfold enD at er
      split at er
      · cases er; exact ⟨_, rfl, rfl⟩
      · cases er
    obtain ⟨xs, rfl, rfl⟩ := hd
    obtain ⟨v1, rfl, hv1⟩ := i2.one
    obtain ⟨B1, wb1⟩ := id w1
    obtain ⟨p, us, rfl, hl, ha⟩ := Dt.lst_inv (wb1.ft _ hv1)
    refine ⟨p, us, rfl, hl.sq, q (enL 0 xs) m1 _ H1 L2 ?_ s2 w1 (itok_en hv1)⟩
    show bd Es _ m = _
    rw [bd_ok e1, er]; rfl
end
section
open SM
variable {μ : Type} (G : Gx)
def FV (te : TE) (σ : St) (L : List (V × D)) (C : μ → List Root) (E : SM μ D) : Prop :=
  ∀ m F L' H Q, (∀ f ∈ L, f ∈ L') → Wd G.K G.O L' (C m ++ F) H →
    (∀ x m' p H', E m = .ok x m' → p ∉ G.O.fp → Wd G.K G.O L' (C m' ++ (rootL G.K p x :: F)) H' → Q (.ref p) H') → Bk G C F L' (E m) → te σ H Q
end
section
open SM
variable {X : Cx} {μ τ τ' ρ : Type} {G : Gx} {σ : St} {L : List (V × D)} {C Cp : μ → List Root} {te ta tb tc : TE} {tt tu : TT} {t u : TS} {E E1 E2 E3 : SM μ D} {T T1 T2 : SM μ Bool} {Jn : Shp μ τ} {Jl : Shp μ ρ} {i j : Nat} {v : V} {x d : D} {l : Addr} {ps : List Addr}
theorem Wb.rootD {K : PySem.W.Frag} {O : Og} {B : Addr → Prop} {L : List (V × D)} {C : List Root} {H : Hp} {p : Addr} (w : Wb K O B L C H) (hp : H p = Option.none) {vs : List V} {ds : List D} (h : DtAll K B H vs ds) : Wd K O L (rootL K p (.list ds) :: C) (upd H p (.lst vs)) := by
  have s : Same H (upd H p (.lst vs)) := fun b u q => by rw [upd_ne (ne_of_none q hp)]; exact q
  have nb : ¬ B p := fun b => by
    obtain ⟨o, ho⟩ := w.bo p b
    rw [ho] at hp; cases hp
  exact ⟨B, w.newr (x := .list ds) s (fun _ b => b) (fun _ b => .inl b) hp nb ⟨ds, vs, rfl, upd_same, Dt.monoAll (fun q o b e => ⟨b, s q o e⟩) _ _ h⟩⟩
def repD : D → D → Option D
  | .list xs, .int k => if -(2 ^ 63) ≤ k ∧ k < 2 ^ 63 ∧ xs.length * k.toNat ≤ sizeLine then some (.list (List.replicate k.toNat xs).flatten) else none
  | _, _ => none
/-- xs * n -/
theorem fv_rep (h1 : EV G ta σ L C E1) (h2 : EV G tb σ L C E2) : FV G (tOp rMulU ta tb) σ L C (op2 repD E1 E2) := by
  intro m F L' H Q s w q b
  refine h1 m F L' H _ s w (fun x m1 v H1 e1 w1 => ?_) b.fst
  have b1 := b.snd e1
  refine h2 m1 F ((v, x) :: L') H1 _ (fun f hf => .tail _ (s f hf)) w1 (fun y m2 u H2 e2 w2 => ?_) (b1.fst.mono fun f hf => .tail _ hf)
  have b2 := b1.snd e2
  cases x with
  | list xs =>
    cases y with
    | int k =>
      have er : repD (.list xs) (.int k) = if -(2 ^ 63) ≤ k ∧ k < 2 ^ 63 ∧ xs.length * k.toNat ≤ sizeLine then some (.list (List.replicate k.toNat xs).flatten) else none := rfl
      by_cases c : -(2 ^ 63) ≤ k ∧ k < 2 ^ 63 ∧ xs.length * k.toNat ≤ sizeLine
      · rw [if_pos c] at er
        obtain ⟨B, wb⟩ := id w2
        obtain ⟨p, vs, rfl, hl, ha⟩ := Dt.lst_inv (wb.ft _ (.tail _ (.head _)))
        have hu : u = .int k := (wb.ft _ (.head _)).int_inv
        refine .inr ⟨p, k, vs, rfl, hu, hl.2, c.1, c.2.1, by rw [ha.len]; exact c.2.2, fun r hr => q (.list (List.replicate k.toNat xs).flatten) m2 r _ ?_ (wb.nofp hr) (((wb.rootD hr (DtAll.flat _ ha)).perm List.perm_middle.symm).sub fun f hf => .tail _ (.tail _ hf))⟩
        show bd E1 _ m = _
        rw [bd_ok e1, bd_ok e2, er]; rfl
      · rw [if_neg c] at er
        rw [er] at b2
        exact absurd rfl b2.2
    | _ => exact absurd rfl b2.2
  | _ => exact absurd rfl b2.2
/-- x = e, e a fresh list: a root -/
theorem sv_newF {k : D → SM μ (Fl τ ρ)} {σ' : V → St} {C' : Addr → D → μ → List Root} (hc : Sub Cp C) (h : FV G te σ L C E) (hσ : ∀ v, σ.set i (some v) = σ' v) (hC : ∀ p d m, (rootL G.K p d :: C m).Perm (C' p d m))
    (hk : ∀ p d, p ∉ G.O.fp → SV G Cp u (σ' (.ref p)) L (C' p d) (k d) Jn Jl) : SV G Cp (tSeq (tAsg te (gName i)) u) σ L C (bd E k) Jn Jl := by
  refine sv_bd hc fun m F L' H d s w q b => ?_
  refine h m F L' H _ s w (fun x m1 p H1 e1 hp w1 => ?_) b
  show u d (σ.set i (some (.ref p))) _
  rw [hσ]
  have w3 : Wd G.K G.O L' (C' p x m1 ++ F) H1 := (w1.perm List.perm_middle).perm ((hC p x m1).append_right F)
  exact q x m1 (σ' (.ref p)) [] (C' p x) H1 e1 w3 (hk p x hp)
/-- x[i] = e: another row -/
theorem Rws.setr {K : PySem.W.Frag} {B : Addr → Prop} {H H' : Hp} (k : Kp B H B H') : ∀ {ps : List Addr} {rs : List D} {i : Nat} {p : Addr} {vs : List V} {ds : List D}, (∀ q ∈ ps, H' q = H q) → H' p = some (.lst vs) → DtAll K B H' vs ds → Rws K B H ps rs → Rws K B H' (ps.set i p) (rs.set i (.list ds))
  | _, _, i, p, _, _, _, _, _, .nil => .nil
  | _, _, 0, p, vs, ds, hq, hp, hd, .cons h d r => .cons hp hd (r.mono k fun q hq' => hq q (.tail _ hq'))
  | p0 :: _, _, i + 1, p, vs, ds, hq, hp, hd, .cons h d r => .cons (by rw [hq p0 (.head _)]; exact h) (Dt.monoAll k _ _ d) (Rws.setr k (fun q hq' => hq q (.tail _ hq')) hp hd r)
theorem set_nodup : ∀ {l : List Addr} {i : Nat} {p : Addr}, l.Nodup → p ∉ l → (l.set i p).Nodup
  | [], _, _, h, _ => h
  | a :: l, 0, p, h, hp => List.nodup_cons.mpr ⟨fun z => hp (.tail _ z), (List.nodup_cons.mp h).2⟩
  | a :: l, i + 1, p, h, hp => by
    have h2 := List.nodup_cons.mp h
    refine List.nodup_cons.mpr ⟨fun z => ?_, set_nodup (i := i) h2.2 fun z => hp (.tail _ z)⟩
    rcases List.mem_or_eq_of_mem_set z with e | e
    · exact h2.1 e
    · exact hp (by rw [e]; exact .head _)
theorem sv_rowset {k : D → SM μ (Fl τ ρ)} {Z : μ → List Root} {C' : List Addr → D → μ → List Root} (hc : Sub Cp C) (ho : ∀ q ∈ ps, q ∉ G.O.fp) (hv : σ[i]? = some (some (.ref l))) (h1 : FV G ta σ L C E1) (h2 : EV G tb σ L C E2) (hC : ∀ m, (C m).Perm (rootLL G.K l ps d :: Z m)) (hC' : ∀ ps' d' m, (rootLL G.K l ps' d' :: Z m).Perm (C' ps' d' m))
    (hk : ∀ ps' d', (∀ q ∈ ps', q ∉ G.O.fp) → SV G Cp u σ L (C' ps' d') (k d') Jn Jl) : SV G Cp (tSeq (tAsg ta (gSub (tVar i) tb rSetL)) u) σ L C (bd (bd E1 fun y => bd E2 fun x => of (setD d x y)) k) Jn Jl := by
  refine sv_bd hc fun m F L' H e s w q b => ?_
  refine h1 m F L' H _ s w (fun y m1 p H1 e1 hp w1 => ?_) b.fst
  have b1 := b.snd e1
  refine ⟨.ref l, hv, h2 m1 (rootL G.K p y :: F) _ H1 _ s w1 (fun x m2 v H2 e2 w2 => ?_) (b1.fst.frm (List.sublist_cons_self _ _))⟩
  have b2 := b1.snd e2
  have w2' : Wd G.K G.O ((v, x) :: L') (rootL G.K p y :: rootLL G.K l ps d :: (Z m2 ++ F)) H2 :=
    (w2.perm (List.perm_middle)).perm (List.Perm.cons _ ((hC m2).append_right F))
  obtain ⟨B, wb⟩ := w2'
  obtain ⟨ys, us, rfl, hpu, hus⟩ := wb.rt _ (.head _)
  obtain ⟨rs, rfl, hl, hd⟩ := wb.rt _ (.tail _ (.head _))
  cases x with
  | int n =>
    have hset : setD (.list rs) (.int n) (.list ys) = (match ixN rs.length n with | some j => some (.list (rs.set j (.list ys))) | none => none) := rfl
    cases ea : ixN rs.length n with
    | none =>
      rw [hset, ea] at b2
      exact absurd rfl b2.2
    | some c =>
      rw [ea] at hset
      refine ⟨l, ps.map V.ref, n, c, rfl, (wb.ft _ (.head _)).int_inv, hl, by rw [List.length_map, hd.len]; exact ea, ?_⟩
      have hnd : (p :: ((l :: ps) ++ fps (Z m2 ++ F) H2)).Nodup := by
        have := wb.nd
        rw [fps_cons, fps_cons] at this
        exact this
      have hnp : p ∉ l :: ps := fun z => (List.nodup_cons.mp hnd).1 (List.mem_append.mpr (.inl z))
      have hll := (List.nodup_append.mp (List.nodup_cons.mp hnd).2)
      have hl1 : (l :: ps).Nodup := hll.1
      have hpl : p ≠ l := fun z => hnp (by rw [z]; exact .head _)
      have kk : ∀ q, q ≠ l → (upd H2 l (.lst ((ps.map V.ref).set c (.ref p)))) q = H2 q := fun q h => upd_ne h
      -- the old row is let go
      have hsub : ∀ q ∈ l :: ps.set c p, q ∈ p :: l :: ps := fun q hq => by
        rcases List.mem_cons.mp hq with e | e
        · rw [e]; exact .tail _ (.head _)
        · rcases List.mem_or_eq_of_mem_set e with z | z
          · exact .tail _ (.tail _ z)
          · rw [z]; exact .head _
      have kB : Kp B H2 B (upd H2 l (.lst ((ps.map V.ref).set c (.ref p)))) := fun q o bq eq => ⟨bq, by
        rw [upd_ne fun z => wb.nb l (by rw [fps_cons, fps_cons]; exact .tail _ (.head _)) (by rw [← z]; exact bq)]; exact eq⟩
      have w4 : Wb G.K G.O B ((v, .int n) :: L') (rootLL G.K l (ps.set c p) (.list (rs.set c (.list ys))) :: (Z m2 ++ F)) (upd H2 l (.lst ((ps.map V.ref).set c (.ref p)))) := by
        have hfpZ : ∀ q ∈ fps (Z m2 ++ F) H2, q ∉ p :: l :: ps := fun q hq hm => by
          rcases List.mem_cons.mp hm with e | e
          · subst e; exact (List.nodup_cons.mp hnd).1 (List.mem_append.mpr (.inr hq))
          · exact hll.2.2 q e q hq rfl
        have es : fps (Z m2 ++ F) (upd H2 l (.lst ((ps.map V.ref).set c (.ref p)))) = fps (Z m2 ++ F) H2 := fps_same kB (fun c' hc' => wb.rt c' (.tail _ (.tail _ hc'))) fun q hq => kk q fun z => hfpZ q hq (by rw [z]; exact .tail _ (.head _))
        have hin : ∀ q ∈ fps (rootLL G.K l (ps.set c p) (.list (rs.set c (.list ys))) :: (Z m2 ++ F)) (upd H2 l (.lst ((ps.map V.ref).set c (.ref p)))), q ∈ fps (rootL G.K p (.list ys) :: rootLL G.K l ps (.list rs) :: (Z m2 ++ F)) H2 := fun q hq => by
          have hq : q ∈ (l :: ps.set c p) ++ fps (Z m2 ++ F) H2 := by rw [fps_cons, es] at hq; exact hq
          rw [fps_cons, fps_cons]
          show q ∈ p :: ((l :: ps) ++ fps (Z m2 ++ F) H2)
          rcases List.mem_append.mp hq with e | e
          · have := hsub q e
            rcases List.mem_cons.mp this with z | z
            · rw [z]; exact .head _
            · exact .tail _ (List.mem_append.mpr (.inl z))
          · exact .tail _ (List.mem_append.mpr (.inr e))
        refine ⟨wb.lo, wb.hi, ?_, fun q hq => wb.nb q (hin q hq), fun q hq => wb.fr q (hin q hq), fun c' hc' => ?_, fun f hf => Dt.mono kB _ _ (wb.ft f hf), fun q o hq e9 => ?_, fun q hq => ?_, fun q bq => ?_⟩
        · rw [fps_cons, es]
          show ((l :: ps.set c p) ++ fps (Z m2 ++ F) H2).Nodup
          refine List.nodup_append.mpr ⟨?_, hll.2.1, fun a ha b hb z => ?_⟩
          · have h2 := List.nodup_cons.mp hl1
            refine List.nodup_cons.mpr ⟨fun z => ?_, set_nodup h2.2 fun z => hnp (.tail _ z)⟩
            rcases List.mem_or_eq_of_mem_set z with e | e
            · exact h2.1 e
            · exact hpl e.symm
          · subst z
            exact hfpZ a hb (hsub a ha)
        · rcases List.mem_cons.mp hc' with e9 | e9
          · subst e9
            refine ⟨_, rfl, ?_, ?_⟩
            · rw [upd_same, List.map_set]
            · refine Rws.setr kB (fun q hq => kk q fun z => (List.nodup_cons.mp hl1).1 (by rw [← z]; exact hq)) (by rw [kk p hpl]; exact hpu) (Dt.monoAll kB _ _ hus) hd
          · refine c'.mono kB (fun q hq => kk q fun z => hfpZ q (mem_fps e9 hq) (by rw [z]; exact .tail _ (.head _))) (wb.rt c' (.tail _ (.tail _ e9)))
        · by_cases z : q = l
          · subst z
            rcases wb.fr q (by rw [fps_cons, fps_cons]; exact .tail _ (.head _)) with y | y
            · exact absurd y hq
            · rw [y] at e9; cases e9
          · rw [kk q z]; exact wb.kp q o hq e9
        · by_cases z : q = l
          · subst z; exact ⟨_, upd_same⟩
          · rw [kk q z]; exact wb.oc q hq
        · have ne : q ≠ l := fun z => wb.nb l (by rw [fps_cons, fps_cons]; exact .tail _ (.head _)) (by rw [← z]; exact bq)
          rw [kk q ne]; exact wb.bo q bq
      have w5 : Wd G.K G.O ((v, .int n) :: L') (C' (ps.set c p) (.list (rs.set c (.list ys))) m2 ++ F) (upd H2 l (.lst ((ps.map V.ref).set c (.ref p)))) := Wd.perm (C := rootLL G.K l (ps.set c p) (.list (rs.set c (.list ys))) :: (Z m2 ++ F)) ⟨B, w4⟩ ((hC' _ _ m2).append_right F)
      refine q (.list (rs.set c (.list ys))) m2 σ [] (C' (ps.set c p) (.list (rs.set c (.list ys)))) _ ?_ (w5.sub fun f hf => .tail _ hf) (hk _ _ fun a ha => ?_)
      · show bd E1 _ m = _
        rw [bd_ok e1, bd_ok e2, hset]; rfl
      · rcases List.mem_or_eq_of_mem_set ha with z | z
        · exact ho a z
        · rw [z]; exact hp
  | _ => exact absurd rfl b2.2
end
namespace SM
def unq5 {μ β : Type} (d : D) (k : D → D → D → D → D → SM μ β) : SM μ β := match d with
  | .list [a, b, c, e, f] => k a b c e f
  | _ => bad
end SM
section
open SM
variable {X : Cx} {μ τ τ' ρ : Type} {G : Gx} {σ : St} {L : List (V × D)} {C Cp : μ → List Root} {t u : TS} {Jn : Shp μ τ} {Jl : Shp μ ρ} {v : V} {x d : D}
theorem dt_partsL {K : PySem.W.Frag} {O : Og} {L : List (V × D)} {C : List Root} {H : Hp} {v : V} {ds : List D} (w : Wd K O L C H) (h : (v, PyData.list ds) ∈ L) : ∃ p vs, v = .ref p ∧ SqL K H p vs ∧ vs.length = ds.length ∧ Wd K O (vs.zip ds ++ L) C H := by
  obtain ⟨B, wb⟩ := w
  obtain ⟨p, vs, rfl, hl, ha⟩ := Dt.lst_inv (wb.ft _ h)
  refine ⟨p, vs, rfl, hl.sq, ha.len, B, wb.fts fun f hf => ?_⟩
  rcases List.mem_append.mp hf with e | e
  · exact zip_dt ha f e
  · exact wb.ft f e
theorem tgl_tup5 {gs : TGs} {k : D → D → D → D → D → SM μ (Fl τ ρ)} (hm : (v, x) ∈ L) (h : ∀ v1 v2 v3 v4 v5 a b c e f, SV G Cp (tTgts gs [v1, v2, v3, v4, v5] u) σ ((v1, a) :: (v2, b) :: (v3, c) :: (v4, e) :: (v5, f) :: L) C (k a b c e f) Jn Jl) : SV G Cp (tTgt (gUnl G.K 5 gs) v u) σ L C (unq5 x k) Jn Jl := by
  intro m F L' H d s w q1 q2 q3 q4 bk
  unfold unq5 at bk q1 q2 q3 q4
  split at bk
  · next a b c e f =>
    obtain ⟨p, vs, rfl, hl, hlen, w2⟩ := dt_partsL w (s _ hm)
    match vs, hlen with
    | [v1, v2, v3, v4, v5], _ => exact ⟨p, [v1, v2, v3, v4, v5], rfl, hl, rfl, sv_more (L1 := [(v1, a), (v2, b), (v3, c), (v4, e), (v5, f)]) (h v1 v2 v3 v4 v5 a b c e f) s w2 q1 q2 q3 q4 bk⟩
  · exact absurd rfl bk.2
end
inductive Flds (K : PySem.W.Frag) (B : Addr → Prop) (H : Hp) : List (Option Addr) → List V → List D → Prop
  | nil : Flds K B H [] [] []
  | frz {ks : List (Option Addr)} {vs : List V} {ds : List D} {v : V} {d : D} : Dt K B H v d → Flds K B H ks vs ds → Flds K B H (none :: ks) (v :: vs) (d :: ds)
  | own {ks : List (Option Addr)} {vs : List V} {ds : List D} {l : Addr} {xs : List V} {es : List D} : H l = some (.lst xs) → DtAll K B H xs es → Flds K B H ks vs ds → Flds K B H (some l :: ks) (.ref l :: vs) (.list es :: ds)
def ownA (ks : List (Option Addr)) : List Addr := ks.filterMap id
section
variable {K : PySem.W.Frag} {B B' : Addr → Prop} {H H' : Hp}
theorem Flds.mono (k : Kp B H B' H') : ∀ {ks : List (Option Addr)} {vs : List V} {ds : List D}, (∀ p ∈ ownA ks, H' p = H p) → Flds K B H ks vs ds → Flds K B' H' ks vs ds
  | _, _, _, _, .nil => .nil
  | _, _, _, e, .frz a r => .frz (Dt.mono k _ _ a) (Flds.mono k e r)
  | _, _, _, e, .own a b r => .own (by rw [e _ (.head _)]; exact a) (Dt.monoAll k _ _ b) (Flds.mono k (fun p hp => e p (.tail _ hp)) r)
theorem Flds.occ : ∀ {ks : List (Option Addr)} {vs : List V} {ds : List D}, Flds K B H ks vs ds → ∀ p ∈ ownA ks, ∃ o, H p = some o
  | _, _, _, .nil, _, hp => by cases hp
  | _, _, _, .frz _ r, p, hp => Flds.occ r p hp
  | _, _, _, .own a _ r, p, hp => by
    rcases List.mem_cons.mp hp with e | e
    · subst e; exact ⟨_, a⟩
    · exact Flds.occ r p e
theorem Flds.len : ∀ {ks : List (Option Addr)} {vs : List V} {ds : List D}, Flds K B H ks vs ds → vs.length = ks.length ∧ ds.length = ks.length
  | _, _, _, .nil => ⟨rfl, rfl⟩
  | _, _, _, .frz _ r => by have := Flds.len r; simp [this.1, this.2]
  | _, _, _, .own _ _ r => by have := Flds.len r; simp [this.1, this.2]
theorem Flds.get : ∀ {ks : List (Option Addr)} {vs : List V} {ds : List D} {i : Nat} {d : D}, Flds K B H ks vs ds → ks[i]? = some none → ds[i]? = some d → ∃ v, vs[i]? = some v ∧ Dt K B H v d
  | _, _, _, _, _, .nil, h, _ => by cases h
  | _, _, _, 0, _, .frz a r, _, h => by cases h; exact ⟨_, rfl, a⟩
  | _, _, _, i + 1, _, .frz a r, h1, h2 => Flds.get (i := i) r h1 h2
  | _, _, _, 0, _, .own a b r, h, _ => by cases h
  | _, _, _, i + 1, _, .own a b r, h1, h2 => Flds.get (i := i) r h1 h2
theorem Flds.set {v : V} {d : D} (hd : Dt K B H v d) : ∀ {ks : List (Option Addr)} {vs : List V} {ds : List D} {i : Nat}, Flds K B H ks vs ds → ks[i]? = some none → Flds K B H ks (vs.set i v) (ds.set i d)
  | _, _, _, _, .nil, h => by cases h
  | _, _, _, 0, .frz a r, _ => .frz hd r
  | _, _, _, i + 1, .frz a r, h => .frz a (Flds.set (i := i) hd r h)
  | _, _, _, 0, .own a b r, h => by cases h
  | _, _, _, i + 1, .own a b r, h => .own a b (Flds.set (i := i) hd r h)
end
namespace SM
end SM
namespace SM
end SM
section
open PySem PySem.Spec PyProof.Rows HotX
variable {prog : Program} {w : World} {A : Around} {E : Value → Shared → Prop} {s : Shared}
theorem hot_ne2 {x1 b : Addr} {h : Heap} {o : Obj} {vs : Array Value} (hot : HotAt A x1 h) (hb : h.get? b = some o) (hd : o.data = .fields vs) (hs : vs.size ≤ 2) : x1 ≠ b := fun e => by
  obtain ⟨_, o1, v1, h1, d1, c1⟩ := hot
  rw [e, hb] at h1
  cases h1
  rw [hd] at d1
  cases d1
  have := (Array.getElem?_eq_some_iff.mp c1).1
  omega
theorem hot_keep {x1 : Addr} {h h' : Heap} (hot : HotAt A x1 h) (k : ∀ o, h.get? x1 = some o → h'.get? x1 = some o) : HotAt A x1 h' := by
  obtain ⟨hh, o1, v1, h1, d1, c1⟩ := hot
  exact ⟨hh, o1, v1, k _ h1, d1, c1⟩
/-- the last object pushed is changed -/
theorem ext_upd {it : Addr} {h h1 : Heap} {o3 : Obj} {f : Obj → Obj} (x : Heap.ExtBut it h h1) : Heap.ExtBut it h ((h1.push o3).update h1.objs.size f) := fun b o hb e => by
  have e1 := x b o hb e
  rw [Heap.get?_update_other _ _ (Nat.ne_of_gt (Heap.lt_size e1))]
  exact Heap.get?_push_of_some _ e1
theorem next_tuple_end_hot {it t x1 : Addr} {i : Nat} {items : Array Value} {Q : Option Value → Shared → Prop} (hot : HotAt A x1 s.heap)
    (hit : IsTupIter s.heap it t i) (ht : IsTup s.heap t items) (hx : items[i]? = none)
    (hQ : ∀ h', Heap.ExtBut it s.heap h' → Q none { s with heap := h' }) : wpAny (model prog w) A (pyNext (.ref it)) Q E s := by
  obtain ⟨o, ho, hc, hd⟩ := id hit
  have hne : x1 ≠ it := hot_ne2 hot ho hd (by simp)
  obtain ⟨hh, o1, vs1, h1, d1, c1⟩ := hot
  obtain ⟨ol, hol, _, nl, hdl⟩ := ht
  unfold pyNext
  refine wpAny_bind (wpAny_attempt (wpAny_callSpecial?_slot (name := Str.ofString "__next__") hit.typeIs slot_tupleiter_next
    (wpAny_call_entry slot_tupleiter_next hit.typeIs entry_tupleiter_next ?_ (args_tupleiter_next _))))
  show wpAny _ _ (field (.ref it) 0 >>= _) _ _ s
  refine wpAny_bind (wpAny_field ho hd (x := .ref t) rfl ?_)
  show wpAny _ _ (if (Value.ref t == Value.none) = true then _ else _) _ _ s
  rw [if_neg (show ¬ ((Value.ref t == Value.none) = true) from Bool.false_ne_true)]
  show wpAny _ _ (field (.ref it) 1 >>= _) _ _ s
  refine wpAny_bind (wpAny_field ho hd (x := .int i 0) rfl ?_)
  show wpAny _ _ (seqItems? (.ref t) >>= _) _ _ s
  refine wpAny_bind (wpAny_seqItems hol hdl ?_)
  simp only [Int.toNat_natCast, hx]
  refine wpAny_bind (wpAny_rule (wpAny_bind (wpAny_setField ho hd (by simp) ?_)))
  show wpAny _ _ (newExc (.type "StopIteration") [] >>= _) _ _ _
  refine wpAny_bind ?_
  simp only [newExc, newTuple]
  refine wpAny_bind (wpAny_newObj_type ?_ (by size_fits))
  refine wpAny_bind (m := firstArgMember _ _) (wpAny_of_eq (a := Value.none) (by first | rfl | (simp only [firstArgMember]; rfl)) ?_)
  refine wpAny_newObj_type ?_ (by size_fits)
  have k : ∀ {f : Obj → Obj} {o2 o3 : Obj}, (((s.heap.update it f).push o2).push o3).get? x1 = some o1 := fun {f o2 o3} => Heap.get?_push_of_some _ (Heap.get?_push_of_some _ ((Heap.get?_update_other _ _ (Ne.symm hne)).trans h1))
  refine raiseNew_hot ⟨hh, o1, vs1, k, d1, c1⟩ (Nat.ne_of_lt (Heap.lt_size (Heap.get?_push_of_some _ ((Heap.get?_update_other _ _ (Ne.symm hne)).trans h1)))) (Heap.get?_push_size _ rfl) rfl (by first | (simp; done) | (simp; omega)) ?_
  refine wpAny_bind (wpAny_isInstance (T := "StopIteration") (b := true) ⟨_, Heap.get?_update_self _ (Heap.get?_push_size _ rfl) rfl, rfl⟩ isSubtype_stop ?_)
  exact wpAny_pure (hQ _ (ext_upd ((Heap.SameBut.update ..).extBut.push _)))
theorem unpackItems_tuple_hot {t x1 : Addr} {items : Array Value} {Q : List Value → Shared → Prop} (hot : HotAt A x1 s.heap) (ht : IsTup s.heap t items)
    (hQ : ∀ h', Heap.ExtBut s.heap.objs.size s.heap h' → Q items.toList { s with heap := h' }) : wpAny (model prog w) A (unpackItems (.ref t) items.size none) Q E s := by
  have hlt : t ≠ s.heap.objs.size := by obtain ⟨o, ho, _⟩ := ht; exact Nat.ne_of_lt (Heap.lt_size ho)
  unfold unpackItems
  refine wpAny_bind ?_
  · unfold notIterableAtAll
    refine wpAny_bind (wpAny_specialOf ht.typeIs slot_tuple_iter.lookup ?_)
    refine wpAny_pure ?_
    simp only [Bool.false_eq_true, if_false]
    refine wpAny_bind (wpAny_holding (iter_tuple ht ?_))
    refine wpAny_bind (wpAny_holding (draw_tuple hlt items.size 0 _ _ ⟨_, Heap.get?_push_size _ rfl, rfl, rfl⟩ (ht.push _) (by omega) fun h₁ hit₁ hs₁ => ?_))
    have hall : List.take items.size (List.drop 0 items.toList) = items.toList := by
      rw [List.drop_zero]; exact List.take_of_length_le (by simp)
    rw [hall]
    rw [if_neg (by simp)]
    have ht₁ : IsTup h₁ t items := (ht.push _).extBut hs₁.extBut hlt
    have hot1 : HotAt A x1 h₁ := hot_keep hot fun o e => hs₁.extBut x1 o (Nat.ne_of_lt (Heap.lt_size e)) (Heap.get?_push_of_some _ e)
    refine wpAny_bind (wpAny_holding (next_tuple_end_hot hot1 hit₁ ht₁ (by simp) fun h₂ he₂ => ?_))
    simp only [Option.isSome_none, Bool.false_eq_true, if_false]
    refine wpAny_pure (hQ h₂ fun b o hb e => he₂ b o hb (hs₁.extBut b o hb (Heap.get?_push_of_some _ e)))
theorem unpack_tuple_hot {t x1 : Addr} {items : Array Value} {targets : List (Bool × (Value → Sem Unit))} {Q : Unit → Shared → Prop} (hot : HotAt A x1 s.heap) (ht : IsTup s.heap t items)
    (hn : targets.length = items.size) (hstar : targets.findIdx? (·.1) = none)
    (h : ∀ h', Heap.ExtBut s.heap.objs.size s.heap h' → wpAny (model prog w) A (assignInOrder (targets.map (·.2)) items.toList) Q E { s with heap := h' }) :
    wpAny (model prog w) A (unpack (.ref t) targets) Q E s := by
  unfold unpack
  rw [hn, hstar]
  exact wpAny_bind (wpAny_holding (unpackItems_tuple_hot hot ht h))
theorem assign_Tuple_tuple_hot {env : Env} {elts : List Expr} {k1} {pos : Pos} {t x1 : Addr} {items : Array Value} {Q : Unit → Shared → Prop} (hot : HotAt A x1 s.heap) (ht : IsTup s.heap t items)
    (hn : (assignEach elts env).length = items.size) (hstar : (assignEach elts env).findIdx? (·.1) = none)
    (h : ∀ h', Heap.ExtBut s.heap.objs.size s.heap h' → wpAny (model prog w) A (assignInOrder ((assignEach elts env).map (·.2)) items.toList) Q E { s with heap := h' }) :
    wpAny (model prog w) A (assign (.Tuple elts k1 pos) env (.ref t)) Q E s := by
  rw [assign_Tuple]
  exact wpAny_bind (wpAny_standAt (unpack_tuple_hot hot ht hn hstar h))
theorem nextOf_list_end_hot {it l x1 : Addr} {i : Nat} {items : Array Value} {Q : Value → Shared → Prop} (hot : HotAt A x1 s.heap)
    (hit : s.heap.IsListIter it l i) (hl : s.heap.IsList l items) (hx : items[i]? = none)
    (hE : ∀ h' e, Heap.ExtBut it s.heap h' → (∃ o, h'.get? e = some o ∧ o.cls = .type "StopIteration") → E (.ref e) { s with heap := h' }) :
    wpAny (model prog w) A (Builtin.SmallTypes.nextOf (.ref it)) Q E s := by
  obtain ⟨o, ho, hc, hd⟩ := id hit
  have hne : x1 ≠ it := hot_ne2 hot ho hd (by simp)
  obtain ⟨hh, o1, vs1, h1, d1, c1⟩ := hot
  obtain ⟨ol, hol, _, nl, hdl⟩ := hl
  unfold Builtin.SmallTypes.nextOf
  refine wpAny_bind (wpAny_callSpecial?_slot (name := Str.ofString "__next__") hit.typeIs slot_listiter_next
    (wpAny_call_entry slot_listiter_next hit.typeIs entry_listiter_next ?_ (args_listiter_next _)))
  show wpAny _ _ (field (.ref it) 0 >>= _) _ _ s
  refine wpAny_bind (wpAny_field ho hd (x := .ref l) rfl ?_)
  show wpAny _ _ (if (Value.ref l == Value.none) = true then _ else _) _ _ s
  rw [if_neg (show ¬ ((Value.ref l == Value.none) = true) from Bool.false_ne_true)]
  show wpAny _ _ (field (.ref it) 1 >>= _) _ _ s
  refine wpAny_bind (wpAny_field ho hd (x := .int i 0) rfl ?_)
  show wpAny _ _ (seqItems? (.ref l) >>= _) _ _ s
  refine wpAny_bind (wpAny_seqItems hol hdl ?_)
  simp only [Int.toNat_natCast, hx]
  refine wpAny_bind (wpAny_rule (wpAny_bind (wpAny_setField ho hd (by simp) ?_)))
  show wpAny _ _ (newExc (.type "StopIteration") [] >>= _) _ _ _
  refine wpAny_bind ?_
  simp only [newExc, newTuple]
  refine wpAny_bind (wpAny_newObj_type ?_ (by size_fits))
  refine wpAny_bind (m := firstArgMember _ _) (wpAny_of_eq (a := Value.none) (by first | rfl | (simp only [firstArgMember]; rfl)) ?_)
  refine wpAny_newObj_type ?_ (by size_fits)
  have k : ∀ {f : Obj → Obj} {o2 o3 : Obj}, (((s.heap.update it f).push o2).push o3).get? x1 = some o1 := fun {f o2 o3} => Heap.get?_push_of_some _ (Heap.get?_push_of_some _ ((Heap.get?_update_other _ _ (Ne.symm hne)).trans h1))
  refine raiseNew_hot ⟨hh, o1, vs1, k, d1, c1⟩ (Nat.ne_of_lt (Heap.lt_size (Heap.get?_push_of_some _ ((Heap.get?_update_other _ _ (Ne.symm hne)).trans h1)))) (Heap.get?_push_size _ rfl) rfl (by first | (simp; done) | (simp; omega)) ?_
  exact hE _ _ (ext_upd ((Heap.SameBut.update ..).extBut.push _)) ⟨_, Heap.get?_update_self _ (Heap.get?_push_size _ rfl) rfl, rfl⟩
theorem hot_zip {x1 z TI TO : Addr} {f0 : Value} {h : Heap} (hot : HotAt A x1 h) (hz : IsZip h z TI TO f0) : x1 ≠ z := fun e => by
  obtain ⟨_, o1, v1, h1, d1, c1⟩ := hot
  rw [e, hz] at h1
  cases h1
  cases d1
  cases c1
theorem hot_pair {x1 T : Addr} {a b : Value} {h : Heap} (hot : HotAt A x1 h) (hz : IsPair h T a b) : x1 ≠ T := fun e => by
  obtain ⟨_, o1, v1, h1, d1, c1⟩ := hot
  rw [e, hz] at h1
  cases h1
  cases d1
theorem zip_next_end_hot {z TI TO i1 i2 l1 l2 x1 : Addr} {k1 k2 : Nat} {xs ys : Array Value} {a b : Value} {Q : Fin → Shared → Prop} (hot : HotAt A x1 s.heap) (D : ZipApart z TI TO i1 i2 l1 l2)
    (hz : IsZip s.heap z TI TO .none) (hTI : IsPair s.heap TI (.ref i1) (.ref i2)) (hTO : IsPair s.heap TO a b)
    (h1 : s.heap.IsListIter i1 l1 k1) (h2 : s.heap.IsListIter i2 l2 k2) (hl1 : s.heap.IsList l1 xs) (hl2 : s.heap.IsList l2 ys) (hend : xs[k1]? = none ∨ ys[k2]? = none)
    (hE : ∀ h' e, (∀ c o, c ≠ z → c ≠ TO → c ≠ i1 → c ≠ i2 → s.heap.get? c = some o → h'.get? c = some o) → (∃ o, h'.get? e = some o ∧ o.cls = .type "StopIteration") → E (.ref e) { s with heap := h' }) :
    wpAny (model prog w) A (Builtin.«zip.__next__» ⟨[.ref z], []⟩) Q E s := by
  have nz : x1 ≠ z := hot_zip hot hz
  have nTO : x1 ≠ TO := hot_pair hot hTO
  have n1 : x1 ≠ i1 := by obtain ⟨o, ho, _, hd⟩ := id h1; exact hot_ne2 hot ho hd (by simp)
  have n2 : x1 ≠ i2 := by obtain ⟨o, ho, _, hd⟩ := id h2; exact hot_ne2 hot ho hd (by simp)
  show wpAny _ _ (field (.ref z) 2 >>= _) _ _ _
  refine wpAny_bind (wpAny_field hz rfl (x := .bool false) rfl ?_)
  show wpAny _ _ (field (.ref z) 3 >>= _) _ _ _
  refine wpAny_bind (wpAny_field hz rfl (x := .ref TI) rfl ?_)
  refine wpAny_bind (wpAny_seqItems hTI rfl ?_)
  show wpAny _ _ (Builtin.SmallTypes.ownedTupleIsFree (.ref z) >>= _) _ _ _
  refine wpAny_bind ?_
  unfold Builtin.SmallTypes.ownedTupleIsFree
  refine wpAny_bind (wpAny_field hz rfl (x := .none) rfl (wpAny_pure ?_))
  simp only [if_true]
  refine wpAny_bind (wpAny_rule ?_)
  refine wpAny_bind (wpAny_field hz rfl (x := .ref TO) rfl ?_)
  refine wpAny_bind (wpAny_setField_rec hz (by simp) fun h₁ hz₁ hs₁ => ?_)
  replace hz₁ : IsZip h₁ z TI TO .ellipsis := hz₁
  have hot1 : HotAt A x1 h₁ := hot_keep hot fun o e => hs₁.extBut _ _ nz e
  refine wpAny_bind ?_
  simp only [List.zipIdx_cons, List.zipIdx_nil, List.forIn_cons, List.forIn_nil]
  refine wpAny_bind (wpAny_bind (wpAny_onRaise ?_))
  show wpAny _ _ (Builtin.SmallTypes.nextOf (.ref i1) >>= _) _ _ _
  cases hx : xs[k1]? with
  | none =>
    refine wpAny_bind (nextOf_list_end_hot hot1 (h1.extBut hs₁.extBut D.i1z) (hl1.extBut hs₁.extBut D.l1z) hx fun h₂ e hs₂ he => ?_)
    obtain ⟨oe, hoe, hce⟩ := he
    have hz₂ : IsZip h₂ z TI TO .ellipsis := hs₂ _ _ D.i1z.symm hz₁
    have hez : e ≠ z := fun x => by subst x; rw [hz₂] at hoe; cases hoe; simp at hce
    refine wpAny_setField_rec hz₂ (by simp) fun h₃ _ hs₃ => hE h₃ e (fun c o c1 _ c3 _ x => hs₃.extBut _ _ c1 (hs₂ _ _ c3 (hs₁.extBut _ _ c1 x))) ⟨oe, hs₃.extBut _ _ hez hoe, hce⟩
  | some x =>
    have hy : ys[k2]? = none := by rcases hend with h | h; rw [hx] at h; cases h; exact h
    refine wpAny_bind (wpAny_nextOf_list_item (h1.extBut hs₁.extBut D.i1z) (hl1.extBut hs₁.extBut D.l1z) hx fun h₂ h1₂ hs₂ => wpAny_pure ?_)
    have hTO₂ : IsPair h₂ TO a b := hs₂.extBut _ _ D.TOi1 (hs₁.extBut _ _ D.TOz hTO)
    have hot2 : HotAt A x1 h₂ := hot_keep hot1 fun o e => hs₂.extBut _ _ n1 e
    refine wpAny_bind (wpAny_seqItems hTO₂ rfl ?_)
    refine wpAny_bind (wpAny_updateSeq_pair hTO₂ fun h₃ hTO₃ hs₃ => ?_)
    have hot3 : HotAt A x1 h₃ := hot_keep hot2 fun o e => hs₃.extBut _ _ nTO e
    refine wpAny_bind (wpAny_letGo (wpAny_pure ?_))
    refine wpAny_bind (wpAny_bind (wpAny_onRaise ?_))
    show wpAny _ _ (Builtin.SmallTypes.nextOf (.ref i2) >>= _) _ _ _
    refine wpAny_bind (nextOf_list_end_hot hot3 (((h2.extBut hs₁.extBut D.i2z).extBut hs₂.extBut D.i12.symm).extBut hs₃.extBut D.TOi2.symm)
      (((hl2.extBut hs₁.extBut D.l2z).extBut hs₂.extBut D.l2i1).extBut hs₃.extBut D.l2TO) hy fun h₄ e hs₄ he => ?_)
    obtain ⟨oe, hoe, hce⟩ := he
    have hz₄ : IsZip h₄ z TI TO .ellipsis := hs₄ _ _ D.i2z.symm (hs₃.extBut _ _ D.TOz.symm (hs₂.extBut _ _ D.i1z.symm hz₁))
    have hez : e ≠ z := fun x => by subst x; rw [hz₄] at hoe; cases hoe; simp at hce
    refine wpAny_setField_rec hz₄ (by simp) fun h₅ _ hs₅ => hE h₅ e (fun c o c1 c2 c3 c4 x => hs₅.extBut _ _ c1 (hs₄ _ _ c4 (hs₃.extBut _ _ c2 (hs₂.extBut _ _ c3 (hs₁.extBut _ _ c1 x))))) ⟨oe, hs₅.extBut _ _ hez hoe, hce⟩
theorem pyNext_zip_end_hot {z TI TO i1 i2 l1 l2 x1 : Addr} {k1 k2 : Nat} {xs ys : Array Value} {a b : Value} {Q : Option Value → Shared → Prop} (hot : HotAt A x1 s.heap) (D : ZipApart z TI TO i1 i2 l1 l2)
    (hz : IsZip s.heap z TI TO .none) (hTI : IsPair s.heap TI (.ref i1) (.ref i2)) (hTO : IsPair s.heap TO a b)
    (h1 : s.heap.IsListIter i1 l1 k1) (h2 : s.heap.IsListIter i2 l2 k2) (hl1 : s.heap.IsList l1 xs) (hl2 : s.heap.IsList l2 ys) (hend : xs[k1]? = none ∨ ys[k2]? = none)
    (hQ : ∀ h', (∀ c o, c ≠ z → c ≠ TO → c ≠ i1 → c ≠ i2 → s.heap.get? c = some o → h'.get? c = some o) → Q none { s with heap := h' }) : wpAny (model prog w) A (pyNext (.ref z)) Q E s := by
  have hT : s.TypeIs (.ref z) "zip" := ⟨_, hz, rfl⟩
  unfold pyNext
  refine wpAny_bind (wpAny_attempt (wpAny_callSpecial?_slot (name := Str.ofString "__next__") hT F.slot_zip_next
    (wpAny_call_entry F.slot_zip_next hT F.entry_zip_next (zip_next_end_hot hot D hz hTI hTO h1 h2 hl1 hl2 hend fun h' e hk he => ?_) (F.args_zip_next_1 _))))
  obtain ⟨o, ho, hc⟩ := he
  refine wpAny_bind (wpAny_isInstance (T := "StopIteration") (b := true) ⟨o, ho, hc⟩ isSubtype_stop ?_)
  exact wpAny_pure (hQ _ hk)
end
section
open PySem PySem.Spec PyProof.Rows HotX L2H
/-- an exception is handled, and stands in every state of X -/
def HotS (X : Cx) : Prop := ∃ p : Addr × Obj, Hot1 X.A p ∧ ∀ (pins : List (Addr × Obj)) (σ : L2.St) (H : Hp) (s : Shared), Inv X pins σ H s → s.heap.get? p.1 = some p.2
theorem HotS.of {X : Cx} (h : HotC X) : HotS X := by
  obtain ⟨p, h1, hp⟩ := h
  exact ⟨p, h1, fun pins σ H s I => (I.pin p (List.mem_append_left _ hp)).1⟩
theorem HotS.at {X : Cx} {pins : List (Addr × Obj)} {σ : L2.St} {H : Hp} {s : Shared} (c : HotS X) (I : Inv X pins σ H s) : ∃ x1, HotAt X.A x1 s.heap := by
  obtain ⟨p, ⟨hh, v1, e1, c1⟩, hp⟩ := c
  exact ⟨p.1, hh, p.2, v1, hp _ _ _ _ I, e1, c1⟩
theorem HotS.blk {X : Cx} {pins : List (Addr × Obj)} {σ : L2.St} {H : Hp} {s : Shared} {scope : Scope} {ce : Env} {fp : List Addr} (h : HotC X) (I : Inv X pins σ H s) (hf : ∀ b ∈ fp, FpOk X pins H b) : HotS (X.blk s H scope ce fp) := by
  obtain ⟨p, h1, hp⟩ := h
  obtain ⟨g1, g2, g3, g4, g5⟩ := I.pin p (List.mem_append_left _ hp)
  refine ⟨p, h1, fun pins' σ' H' s' J => J.base.keep p.1 p.2 g1 g2 (fun hm => ?_) (fun hm => ?_)⟩
  · exact (List.mem_cons.mp (I.stkSub p.1 hm)).elim g3 g4
  · obtain ⟨_, _, _, _, _, f5⟩ := hf p.1 hm
    exact f5 p (List.mem_append_left _ hp) rfl
/-- a, b, .. = a tuple, while an exception is handled -/
theorem pg_tupS {X : Cx} {es : List Expr} {k : Nat} {pos : Pos} {t : TGs} {n : Nat} (hc : HotS X) (h : PGs X es t)
    (hn : (assignEach es X.env).length = n := by rfl) (hst : (assignEach es X.env).findIdx? (·.1) = none := by rfl) : PG X (.Tuple es k pos) (gTup X.K n t) := by
  refine ⟨fun pins s σ H v u Q I r hw => ?_⟩
  obtain ⟨a, xs, e1, hq, hl, hw⟩ := hw
  subst e1
  cases r
  obtain ⟨its, rv, ht, hz⟩ := I.tuple hq
  obtain ⟨x1, hot⟩ := hc.at I
  refine assign_Tuple_tuple_hot hot ht (by simp [hn, ← hl, rv.length]) hst fun h' hx => ?_
  have I1 : Inv X pins σ H { s with heap := h' } := I.kept (t' := s.toks) fun b o e => hx b o (Nat.ne_of_lt (Heap.lt_size e)) e
  exact h.run pins _ σ H xs _ Q I1 (by simpa using rv) hw
structure TurnS (P : Program) (w : World) (K : PySem.W.Frag) (tg : Expr) (J : It) (fp : List Addr) (it : Addr) (tn : Nat → Heap → Prop) : Prop where
  mem : it ∈ fp
  obj : ∀ i h, tn i h → ∀ b ∈ fp, ∃ o, h.get? b = some o ∧ ∀ v, o.data ≠ .cell v
  keep : ∀ i h h', tn i h → (∀ b ∈ fp, ∀ o, h.get? b = some o → h'.get? b = some o) → tn i h'
  item : ∀ (X : Cx), X.prog = P → X.w = w → X.K = K → HotS X → ∀ (i : Nat) (pins : List (Addr × Obj)) (s : Shared) (σ : L2.St) (H : Hp) (E : Value → Shared → Prop), Inv X pins σ H s → (∀ b ∈ fp, FpOk X pins H b) → tn i s.heap → J.go i H →
    wpAny (model P w) X.A (pyNext (.ref it)) (fun r s1 => ∃ u, r = some u ∧
      wpAny (model P w) X.A (letOwnedTupleGo tg (.ref it) u) (fun _ s2 => ∃ x H', Inv X pins σ H' s2 ∧ RelV x u ∧ J.yld i H x H' ∧ tn (i + 1) s2.heap ∧ ∀ b ∈ fp, H' b = none) E s1) E s
  done : ∀ (X : Cx), X.prog = P → X.w = w → X.K = K → HotS X → ∀ (i : Nat) (pins : List (Addr × Obj)) (s : Shared) (σ : L2.St) (H : Hp) (E : Value → Shared → Prop), Inv X pins σ H s → (∀ b ∈ fp, FpOk X pins H b) → tn i s.heap → J.stop i H →
    wpAny (model P w) X.A (pyNext (.ref it)) (fun r s1 => r = none ∧ Inv X pins σ H s1) E s
  self : ∀ (A : Around) (i : Nat) (s : Shared) (Q : Value → Shared → Prop) (E : Value → Shared → Prop), tn i s.heap → Q (.ref it) s → wpAny (model P w) A (pyIter (.ref it)) Q E s
theorem turn_zipS {P : Program} {w : World} {K : PySem.W.Frag} {elts : List Expr} {kk : Nat} {tpos : Pos} {a b z TI TO i1 i2 : Addr} (D : ZipApart z TI TO i1 i2 a b) :
    TurnS P w K (.Tuple elts kk tpos) (Itz K a b) [z, TI, TO, i1, i2] z (fun i h => IsZip h z TI TO .none ∧ IsPair h TI (.ref i1) (.ref i2) ∧ (∃ x y, IsPair h TO x y) ∧ h.IsListIter i1 a i ∧ h.IsListIter i2 b i) where
  mem := by simp
  obj := fun i h st c hc => by
    obtain ⟨hz, hTI, ⟨x, y, hTO⟩, ⟨o1, e1, _, d1⟩, ⟨o2, e2, _, d2⟩⟩ := st
    have e' : c = z ∨ c = TI ∨ c = TO ∨ c = i1 ∨ c = i2 := by simpa using hc
    rcases e' with q | q | q | q | q
    · rw [q]; exact ⟨_, hz, fun v q => nomatch q⟩
    · rw [q]; exact ⟨_, hTI, fun v q => nomatch q⟩
    · rw [q]; exact ⟨_, hTO, fun v q => nomatch q⟩
    · rw [q]; exact ⟨o1, e1, fun v q => by rw [d1] at q; cases q⟩
    · rw [q]; exact ⟨o2, e2, fun v q => by rw [d2] at q; cases q⟩
  keep := fun i h h' st k => by
    obtain ⟨hz, hTI, ⟨x, y, hTO⟩, h1, h2⟩ := st
    exact ⟨k z (by simp) _ hz, k TI (by simp) _ hTI, ⟨x, y, k TO (by simp) _ hTO⟩, h1.at fun o q => k i1 (by simp) o q, h2.at fun o q => k i2 (by simp) o q⟩
  item := by
    intro X hP hw hK hc i pins s σ H E I hf st hg
    subst hP hw hK
    obtain ⟨hz, hTI, ⟨x0, y0, hTO⟩, h1, h2⟩ := st
    obtain ⟨xs, ys, x, y, hqx, hqy, hx, hy⟩ := hg
    obtain ⟨its, rv, p, _⟩ := I.list hqx
    obtain ⟨its2, rv2, p2, _⟩ := I.list hqy
    obtain ⟨u, hu, ru⟩ := rv.get hx
    obtain ⟨u2, hu2, ru2⟩ := rv2.get hy
    have hzl : z < s.heap.objs.size := Heap.lt_size hz
    refine wpAny_pyNext_zip_item D hz hTI hTO h1 h2 p.isList p2.isList (x := u) (y := u2) (by simpa using hu) (by simpa using hu2) fun h' z' TO' h1' h2' hT hsz hk => ?_
    refine ⟨_, rfl, wpAny_letOwnedTupleGo_zip (s := { s with heap := h' }) z' fun h'' z'' sb => ?_⟩
    have hT2 : h''.get? s.heap.objs.size = some { cls := .type "tuple", data := .seq #[u, u2] } := (sb.2 _ (Nat.ne_of_gt hzl)).trans hT
    have new : ObjOk X.prog X.w (upd H s.heap.objs.size (.tup [x, y])) h'' s.heap.objs.size (.tup [x, y]) :=
      ⟨by show 2 ≤ sizeLine; decide, [u, u2], .cons ru (.cons ru2 .nil), ⟨_, hT2, rfl, _, rfl⟩⟩
    have I1 : Inv X pins σ (upd H s.heap.objs.size (.tup [x, y])) { s with heap := h'' } :=
      I.turnedNew (t' := s.toks) (ch := [z, TI, TO, i1, i2]) (fun c o hb q => (sb.2 c (fun q' => hb (by simp [q']))).trans (hk c o (fun q' => hb (by simp [q'])) (fun q' => hb (by simp [q'])) (fun q' => hb (by simp [q'])) (fun q' => hb (by simp [q'])) q)) hf (Nat.le_refl _) new
    refine ⟨.ref s.heap.objs.size, _, I1, rfl, ⟨_, x, y, rfl, I.hok.fresh (Nat.le_refl _), rfl, fun l hl => by rw [I.list_inj hl hqx]; exact hx, fun l hl => by rw [I.list_inj hl hqy]; exact hy⟩, ⟨z'', ?_, ⟨u, u2, ?_⟩, ?_, ?_⟩, fun c hcm => ?_⟩
    · exact (sb.2 _ D.TIz).trans (hk _ _ D.TIz D.TITO D.TIi1 D.TIi2 hTI)
    · exact (sb.2 _ D.TOz).trans TO'
    · exact h1'.at fun o q => (sb.2 _ D.i1z).trans q
    · exact h2'.at fun o q => (sb.2 _ D.i2z).trans q
    · have hlt : c < s.heap.objs.size := by
        have e' : c = z ∨ c = TI ∨ c = TO ∨ c = i1 ∨ c = i2 := by simpa using hcm
        rcases e' with q | q | q | q | q
        · rw [q]; exact hzl
        · rw [q]; exact Heap.lt_size hTI
        · rw [q]; exact Heap.lt_size hTO
        · rw [q]; obtain ⟨_, e1, _⟩ := h1; exact Heap.lt_size e1
        · rw [q]; obtain ⟨_, e2, _⟩ := h2; exact Heap.lt_size e2
      rw [upd_ne (Nat.ne_of_lt hlt)]
      exact (hf c hcm).1
  done := by
    intro X hP hw hK hc i pins s σ H E I hf st hg
    subst hP hw hK
    obtain ⟨hz, hTI, ⟨x0, y0, hTO⟩, h1, h2⟩ := st
    obtain ⟨xs, ys, hqx, hqy, hend⟩ := hg
    obtain ⟨its, rv, p, _⟩ := I.list hqx
    obtain ⟨its2, rv2, p2, _⟩ := I.list hqy
    have l1 := rv.length
    have l2 := rv2.length
    have he : its.toArray[i]? = none ∨ its2.toArray[i]? = none := by
      rcases hend with q | q
      · exact .inl (by simp; omega)
      · exact .inr (by simp; omega)
    obtain ⟨x1, hot⟩ := hc.at I
    exact pyNext_zip_end_hot hot D hz hTI hTO h1 h2 p.isList p2.isList he fun h' hk => ⟨rfl, I.turnedL (t' := s.toks) (ch := [z, TI, TO, i1, i2]) (fun c o hb q =>
      hk c o (fun q' => hb (by simp [q'])) (fun q' => hb (by simp [q'])) (fun q' => hb (by simp [q'])) (fun q' => hb (by simp [q'])) q) hf⟩
  self := fun A i s Q E st h => wpAny_pyIter_zip st.1 h
def PIES (X : Cx) (pins : List (Addr × Obj)) (σ : L2.St) (tg : Expr) (R : It → Hp → Prop) (itv : Value) (s2 : Shared) : Prop :=
  ∃ (it : Addr) (fp : List Addr) (tn : Nat → Heap → Prop) (J : It) (H' : Hp), itv = .ref it ∧ Inv X pins σ H' s2 ∧ TurnS X.prog X.w X.K tg J fp it tn ∧ tn 0 s2.heap ∧ (∀ b ∈ fp, FpOk X pins H' b) ∧ R J H'
structure PIS (X : Cx) (tg iter : Expr) (wi : TI) : Prop where
  run : ∀ (pins : List (Addr × Obj)) (s : Shared) (σ : L2.St) (H : Hp) (R : It → Hp → Prop), Inv X pins σ H s → wi σ H R →
    wpAny (model X.prog X.w) X.A (eval iter X.env) (fun v s1 => wpAny (model X.prog X.w) X.A (pyIter v) (PIES X pins σ tg R) X.xe s1) X.xe s
theorem pi_zipS {X : Cx} {e e2 : Expr} {ta : TA} {p pos tpos : Pos} {elts : List Expr} {kk : Nat} (hg : Gl X "zip") (hm : X.mg "zip" = none) (ha : PA X [e, e2] ta)
    (hs : starEach [e, e2] X.env = (false, eval e X.env) :: starEach [e2] X.env := by rfl) (hpl : (backTo pos (starEach [e2] X.env)).any (·.1) = false := by rfl) :
    PIS X (.Tuple elts kk tpos) (.Call (.Name "zip" p) [e, e2] [] pos) (iZip X.K ta) := by
  refine ⟨fun pins s σ H R I h => ?_⟩
  refine Call_ (ld_blt I hg hm PyProof.Rows.boot_zip (PyProof.Rows.callWith_type1 (thn (ha.run pos pins s σ H _ I h) fun us s1 ⟨vs, H1, I1, r1, q1⟩ => ?_) hs hpl))
  obtain ⟨a, b, xs, ys, ex, hqx, hqy, q⟩ := q1
  subst ex
  cases r1 with
  | cons r rr =>
    cases rr with
    | cons r' rr =>
      cases rr
      cases r
      cases r'
      obtain ⟨its, rv, p1, _⟩ := I1.list hqx
      obtain ⟨its2, rv2, p2, _⟩ := I1.list hqy
      have la : a < s1.heap.objs.size := p1.lt
      have lb : b < s1.heap.objs.size := p2.lt
      refine call_zip_2 p1.isList p2.isList fun h' hz hTI hTO h1 h2 hsz hk => wpAny_pyIter_zip hz ?_
      have I2 : Inv X pins σ H1 { s1 with heap := h' } := I1.kept (t' := s1.toks) hk
      refine ⟨s1.heap.objs.size + 4, [s1.heap.objs.size + 4, s1.heap.objs.size + 2, s1.heap.objs.size + 3, s1.heap.objs.size, s1.heap.objs.size + 1], _, _, H1, rfl, I2, turn_zipS (PySem.W.ktu_apart s1.heap.objs.size a b la lb), ⟨hz, hTI, ⟨_, _, hTO⟩, h1, h2⟩, fun c hcm => ?_, q⟩
      have e' : c = s1.heap.objs.size + 4 ∨ c = s1.heap.objs.size + 2 ∨ c = s1.heap.objs.size + 3 ∨ c = s1.heap.objs.size ∨ c = s1.heap.objs.size + 1 := by simpa using hcm
      have hle : s1.heap.objs.size ≤ c := by
        rcases e' with z | z | z | z | z
        · rw [z]; exact Nat.le_add_right _ _
        · rw [z]; exact Nat.le_add_right _ _
        · rw [z]; exact Nat.le_add_right _ _
        · rw [z]; exact Nat.le_refl _
        · rw [z]; exact Nat.le_add_right _ _
      exact I1.fpOk hle (I1.hok.fresh hle)
section
variable {X : Cx}
/-- [elt for target in iter if ..] while an exception is handled (as L2.lc_core) -/
theorem pe_lcS {elt tg iter : Expr} {ifs : List Expr} {scope : Scope} {own : List (Str × Nat)} {pos : Pos} {wi : TI} {g : TG} {tt : TT} {te : TE} (hc : HotC X) (hN : X.N.Nodup) (hi : PIS X tg iter wi) (ok : BlkOk X.N X.env.scope scope own)
    (hg : ∀ (s : Shared) (H : Hp) (C : Addr) (cl : List (Str × Addr)) (fp : List Addr), HotS (X.blk s H scope (compEnvC scope cl C X.env) fp) → PG (X.blk s H scope (compEnvC scope cl C X.env) fp) tg g) (ht : ∀ (s : Shared) (H : Hp) (C : Addr) (cl : List (Str × Addr)) (fp : List Addr), PTs (X.blk s H scope (compEnvC scope cl C X.env) fp) ifs tt)
    (he : ∀ (s : Shared) (H : Hp) (C : Addr) (cl : List (Str × Addr)) (fp : List Addr), PE (X.blk s H scope (compEnvC scope cl C X.env) fp) elt te) (hs : ∀ x, foldedSetIterable iter X.env x = pure x := by intro _; rfl) :
    PE X (.ListComp elt [⟨tg, iter, ifs, 0⟩] scope pos) (tLc wi g tt te (own.map (·.2))) := by
  refine ⟨fun pins s σ H Q I h => ?_⟩
  rw [eval_ListComp]
  have hfree : ∀ y ∈ scope.names, y.2 = .free → ∃ c, X.env.cells.lookup y.1 = some c := fun y hy e => by
    rcases ok.free y hy e with k | k
    · exact I.ok.has _ (.inl k)
    · exact I.ok.has _ (.inr k)
  refine wpAny_comprehension_free rfl hs (closure_ok hfree) ok.kind (fun y hy e => by rw [ok.uniq y hy, e])
    (thn (hi.run pins s σ H _ I h) fun xv s1 hx => thn hx fun itv s2 h2 => ?_)
  obtain ⟨it, fp, tn, J, H2, e, I2, T, st2, f2, q⟩ := h2
  subst e
  refine wpAny_newObj_type (newEnv_comp ?_) (by show 0 ≤ sizeLine; decide)
  generalize hD : s2.heap.objs.size = D
  have hDn : H2 D = none := I2.hok.fresh (Nat.le_of_eq hD)
  obtain ⟨W, ⟨m0, w0⟩, turn⟩ := q D hDn
  generalize hs3 : ({ s2 with heap := s2.heap.push { cls := .type "list", data := .seq ([] : List Value).toArray } } : Shared) = s3
  have I3 : Inv X pins σ (upd H2 D (.lst [])) s3 := by
    rw [← hs3]
    refine I2.laid (t' := s2.toks) (fun b o e => Heap.get?_push_of_some _ e) (Nat.le_of_eq hD) ⟨Nat.zero_le _, [], 0, .nil, ?_⟩
    rw [← hD]
    exact Heap.get?_push_size _ rfl
  have h3 : s3.heap = s2.heap.push { cls := .type "list", data := .seq ([] : List Value).toArray } := by rw [← hs3]
  have sz : ∀ b ∈ fp, b < s2.heap.objs.size := fun b hb => by
    obtain ⟨o, e, _⟩ := T.obj _ _ st2 b hb
    exact Heap.lt_size e
  have f3 : ∀ b ∈ fp, FpOk X pins (upd H2 D (.lst [])) b ∧ b < s3.heap.objs.size := fun b hb => by
    have hlt := sz b hb
    refine ⟨⟨?_, (f2 b hb).2⟩, by rw [h3, Heap.size_push]; exact Nat.lt_succ_of_lt hlt⟩
    rw [upd_ne (by rw [← hD]; exact Nat.ne_of_lt hlt)]
    exact (f2 b hb).1
  have st3 : tn 0 s3.heap := T.keep _ _ _ st2 fun b _ o e => by rw [h3]; exact Heap.get?_push_of_some _ e
  have I4 := block_start I3 ok hN f3
  have hotB : HotS (X.blk s3 (upd H2 D (.lst [])) scope (compEnvC scope (cellsFrom (s3.heap.objs.size + 1) scope.names (cloFrom X.env.cells scope.names [])) s3.heap.objs.size X.env) fp) := HotS.blk hc I3 fun b hb => (f3 b hb).1
  have pg := hg s3 (upd H2 D (.lst [])) s3.heap.objs.size (cellsFrom (s3.heap.objs.size + 1) scope.names (cloFrom X.env.cells scope.names [])) fp hotB
  have pt := ht s3 (upd H2 D (.lst [])) s3.heap.objs.size (cellsFrom (s3.heap.objs.size + 1) scope.names (cloFrom X.env.cells scope.names [])) fp
  have pe := he s3 (upd H2 D (.lst [])) s3.heap.objs.size (cellsFrom (s3.heap.objs.size + 1) scope.names (cloFrom X.env.cells scope.names [])) fp
  have hRR : ∀ m H', Inv X pins σ H' m → Q (.ref D) H' → ∀ mm, m.heap.Ns s3.heap.objs.size mm → FpOk X pins H' s3.heap.objs.size → compPost (model X.prog X.w) X.A X.xe none (EP X pins σ Q) (.ref D) s3.heap.objs.size (.ok .next) m := fun s' H' I' q mm hn f => ⟨mm, hn, fun h'' sb => by
    obtain ⟨f0, f1, f2, f3, f4, f5⟩ := f
    exact ⟨.ref D, H', I'.turned (t' := s'.toks) (fun b o hb e => (sb.2 b hb).trans e) f0 f1 f3 f4 f5, rfl, q⟩⟩
  show codeAny _ _ (.compStart (.ListComp elt [⟨tg, iter, ifs, 0⟩] scope pos) 0 (.ref it) (.ref D) (compEnvC scope (cellsFrom (s3.heap.objs.size + 1) scope.names (cloFrom X.env.cells scope.names [])) s3.heap.objs.size X.env)) (compPost (model X.prog X.w) X.A X.xe none (EP X pins σ Q) (.ref D) s3.heap.objs.size) { s3 with heap := pushCells (s3.heap.push { cls := .type "dict", data := .dict #[] }) scope.names }
  have nfp : ∀ b ∈ fp, (upd H2 D (.lst [])) b = none := fun b hb => (f3 b hb).1.1
  generalize hce : compEnvC scope (cellsFrom (s3.heap.objs.size + 1) scope.names (cloFrom X.env.cells scope.names [])) s3.heap.objs.size X.env = ce at I4 hotB pg pt pe ⊢
  have cL : ce.locals = s3.heap.objs.size := by subst hce; rfl
  generalize hH3 : upd H2 D (.lst []) = H3 at I3 I4 hotB pg pt pe w0 nfp f3
  generalize hs4 : ({ s3 with heap := pushCells (s3.heap.push { cls := .type "dict", data := .dict #[] }) scope.names } : Shared) = s4 at I4 ⊢
  have st4 : tn 0 s4.heap := T.keep _ _ _ st3 fun b _ o e => by rw [← hs4]; exact pushCells_keeps _ _ _ _ (Heap.get?_push_of_some _ e)
  have stat : ∀ {σ' : L2.St} {H' : Hp} {s' : Shared}, Inv (X.blk s3 H3 scope ce fp) [] σ' H' s' → (∀ b ∈ fp, H' b = none) → ∀ b ∈ fp, FpOk (X.blk s3 H3 scope ce fp) [] H' b := fun {σ' H' s'} I' hn b hb =>
    ⟨hn b hb, (I'.ok.exf b hb).1, I'.ok.exfs b hb, .inl hb, fun x c e => (I'.ok.exf b hb).2 x c e, fun p hp => absurd (show p ∈ ([] : List (Addr × Obj)) ++ [] from hp) (by simp)⟩
  have loop : codeAny (model X.prog X.w) X.A (.compLoop (.ListComp elt [⟨tg, iter, ifs, 0⟩] scope pos) 0 (.ref it) (.ref D) ce) (compPost (model X.prog X.w) X.A X.xe none (EP X pins σ Q) (.ref D) s3.heap.objs.size) s4 := by
    refine compLoop_any (fun n s' => ∃ i H', Inv (X.blk s3 H3 scope ce fp) [] (wipe σ (own.map (·.2))) H' s' ∧ tn i s'.heap ∧ (∀ b ∈ fp, H' b = none) ∧ W i n H') ?_ m0 ⟨0, H3, I4, st4, nfp, w0⟩
    rintro n s5 ⟨i, H5, I5, st5, n5, w5⟩
    rcases turn i n H5 w5 with ⟨stop, qq⟩ | ⟨go, Nx, hNx, step⟩
    · have td := T.done (X.blk s3 H3 scope ce fp) rfl rfl rfl hotB i [] s5 _ H5 (fun _ _ => False) I5 (stat I5 n5) st5 stop
      refine thnF td fun r s6 ⟨hr, I6⟩ => ?_
      subst hr
      have I7 : Inv X pins σ H5 s6 := I3.call' (ch := fp) I6.os I6.base I6.hok I6.bare fun b hb => ⟨(f3 b hb).1.2.2.2.1, (f3 b hb).1.2.1, (f3 b hb).1.2.2.2.2.1, (f3 b hb).1.2.2.2.2.2⟩
      have nC : H5 s3.heap.objs.size = none := by
        have z : H5 ce.locals = none := I6.free
        rw [cL] at z
        exact z
      obtain ⟨m, hn, _⟩ := I6.loc
      have hn : s6.heap.Ns ce.locals m := hn
      rw [cL] at hn
      exact hRR s6 H5 I7 qq m hn (I3.fpOk (Nat.le_refl _) nC)
    · have ti := T.item (X.blk s3 H3 scope ce fp) rfl rfl rfl hotB i [] s5 _ H5 (fun _ _ => False) I5 (stat I5 n5) st5 go
      refine thnF ti fun r s6 ⟨u, hr, h6⟩ => ?_
      subst hr
      refine thnF h6 fun _ s7 ⟨x, H7, I7, r7, y7, st7, n7⟩ => ?_
      have I7' := I7.pinned (stat I7 n7) (T.obj _ _ st7)
      refine thnF (pg.run _ s7 _ H7 x u _ I7' r7 (step x H7 y7)) fun _ s8 ⟨σ8, H8, I8, hw8, q8⟩ => ?_
      refine thnF (pt.run _ s8 σ8 H8 _ I8 q8) fun b s9 ⟨H9, I9, q9⟩ => ?_
      have fin : ∀ {s' : Shared} {H' : Hp}, Inv (X.blk s3 H3 scope ce fp) ([] ++ pinsAt fp s7.heap) σ8 H' s' → Nx H' → ∃ m, m < n ∧ ∃ i H', Inv (X.blk s3 H3 scope ce fp) [] (wipe σ (own.map (·.2))) H' s' ∧ tn i s'.heap ∧ (∀ b ∈ fp, H' b = none) ∧ W i m H' := fun {s' H'} I' nx => by
        obtain ⟨m', hm, w'⟩ := hNx H' nx
        have pin' : ∀ b ∈ fp, ∀ o, s7.heap.get? b = some o → s'.heap.get? b = some o ∧ H' b = none := fun b hb o e =>
          let z := I'.pin (b, o) (List.mem_append_right _ (List.mem_append_right _ (mem_pinsAt hb e)))
          ⟨z.1, z.2.1⟩
        have hl : (wipe σ (own.map (·.2))).length = σ8.length := by rw [← hw8, wipe_length]
        refine ⟨m', hm, i + 1, H', (I'.unpinned (pins := [])).weak hl (fun j v e => ?_), T.keep _ _ _ st7 fun b hb o e => (pin' b hb o e).1, fun b hb => ?_, w'⟩
        · rw [← hw8] at e
          exact (wipe_some e).1
        · obtain ⟨o, e, _⟩ := T.obj _ _ st7 b hb
          exact (pin' b hb o e).2
      cases b with
      | false =>
        simp only [Bool.false_eq_true, if_false] at q9 ⊢
        exact fin I9 q9
      | true =>
        simp only [if_true] at q9 ⊢
        refine thnF (pe.run _ s9 σ8 H9 _ I9 q9) fun z s10 ⟨yv, H10, I10, r10, acc, hD10, hz10, nx⟩ => ?_
        exact app_ok (X := X.blk s3 H3 scope ce fp) I10 hD10 hz10 r10 fun s11 I11 => fin I11 nx
  exact codeAny_compStart_list loop (T.self X.A 0 _ _ _ st4 loop)
end
end
section
open PySem PySem.Spec PyProof.Rows HotX L2H
/-- as Fun.okX, exceptions with no context -/
theorem okN {P : Program} {w : World} {K : PySem.W.Frag} {mg : Str → Option Value} {base : Heap} {x qual : Str} {st : Stmt} {f : Addr} {fd : FuncData} {N ps : List Str} {k : Nat} {sp : Sp} (F : Fun K x qual st f fd) (S : FnScope N ps (defScope st)) (len : ∀ vs H Q E, sp vs H Q E → vs.length = ps.length)
    (hbody : ∀ (cdv : Value) (A : Around) (outer : List Env) (s : Shared) (H : Hp) (vs : List V) (Q : VK) (E : XK), Room k (A.deeper (envOfC qual (defScope st) s.heap.objs.size f cdv)) → sp vs H Q E →
      ∃ t, PSs (cxOf (L2N.CX P w) P w K mg base N qual (defScope st) f cdv A outer s H E) (defBody st) t ∧ t { nx := fun _ H' => Q .non H', rt := Q } (start N vs) H) : FnOk P w K mg base (L2N.CX P w) (k + 1) f fd ps sp := by
  obtain ⟨oc, od, kV, doc, pm, an, cdv, ct, osl, rfl, lk, hcd⟩ := F.ex
  exact fn_of lk hcd S len fun A outer s H vs Q E hr hsp => hbody cdv A outer s H vs Q E hr hsp
/-- what a callee lets out at the slots σ, where a try stands around -/
theorem passAtN {X : Cx} {W : WX} (tk : L2N.Takes X W) (σ : L2.St) : PassesAt (L2N.CX X.prog X.w) X σ (WE W σ) := fun _ _ _ e s' I c => tk e s' (L2N.XE.of_call I (fun _ _ _ h => h) c)
theorem takes0N {X : Cx} : L2N.Takes X (fun _ _ _ _ => False) := fun _ _ x => by
  obtain ⟨_, _, _, _, _, _, _, _, _, _, _, _, _, _, _, _, z⟩ := x
  exact z.elim
/-- the reading of a try, its parts by name -/
def tTryA (K : PySem.W.Frag) (c : Value) (i : Nat) (ts : Addr → Value → Option Addr → TS) (Wout : WX) (tb : WX → TS) : TS := fun D σ H => tb (wAs K c i ts Wout D) D σ H
theorem ps_tryA {X : Cx} {x n : Str} {c : Value} {i : Nat} {body suite : List Stmt} {b₀ : Stmt} {np pos pos' : Pos} {tb : WX → TS} {ts : Addr → Value → Option Addr → TS} {Wout : WX} (hs : X.stack = X.env :: X.outer) (hf : X.env.frame = some X.env.locals) (hN : X.N.Nodup) (hi : X.N[i]? = some n) (hln : X.env.kindOf n = some .local) (hc : Names X x c) (tk : L2N.Takes X Wout)
    (hb : ∀ (W : WX) (pn : List (Addr × Obj)) (xe : Value → Shared → Prop), L2N.Takes (X.tr pn xe) W → PassesOwn (model X.prog X.w) X.A X.env xe → PSs (X.tr pn xe) body (tb W))
    (hsu : ∀ (a : Addr) (oe : Obj) (cls : Value) (d : Option Addr) (pn : List (Addr × Obj)), L2N.Zn cls d oe → (∃ vs, oe.data = .fields vs) → PSs (X.suite a ((a, oe) :: pn)) (b₀ :: suite) (ts a cls d)) :
    PS X (.Try body [.ExceptHandler (some (.Name x np)) (some n) (b₀ :: suite) pos'] [] [] pos) (tTryA X.K c i ts Wout tb) := L2N.ps_try_as hs hf hN hi hln hc tk hb hsu
section
variable {X : Cx} {e : Expr} {es : List Expr} {ta : TA}
/-- C(e, ..), C an own exception class with its own __init__ -/
theorem pmk_oexN {CX : CXT} {x : Str} {C fI : Addr} {k : Nat} {fd : FuncData} {ps : List Str} {sp : Sp} {p pos : Pos} (T : OexC X.K C) (iC : PySem.W.findIn X.K (.ref C) "__init__" = some (some (.ref fI))) (tI : PySem.W.typeIn X.K (.ref fI) = some (.type "function"))
    (F1 : FnOk X.prog X.w X.K X.mg X.base CX k fI fd ps sp) (hr : Room (k + 1) X.A) (hb : Binds X.K fd ps []) (hx : Passes CX X (fun _ _ _ => False)) (hg : Gl X x) (hm : X.mg x = some (.ref C)) (ha : PA X (e :: es) ta)
    (hdb : (x == ("__debug__" : Str)) = false := by decide) (he : starEach (e :: es) X.env = (false, eval e X.env) :: starEach es X.env := by rfl) (hpl : (backTo pos (starEach es X.env)).any (·.1) = false := by rfl) :
    L2N.PMk X (.Call (.Name x p) (e :: es) [] pos) (tMkO C sp [] ta) := by
  intro pins s σ H Q I h
  obtain ⟨nm, q, N, bs, bm, sn, sub, ab, col, dd, k0, k1, k2, k3, k5, hC, hbm⟩ := T.cls
  refine wpAny_Call_Name_kw (ld_glob I hg hm ?_ hdb)
  refine PySem.W.callWith_K (h₀ := X.base) I.ok.mod.kin T.kC (thn (ha.run pos pins s σ H _ I h) fun us s1 ⟨vs, H1, I1, r1, hz, q1⟩ => ⟨I1.kIn, ?_⟩) he hpl
  show wpAny _ _ (call (.ref C) us) _ _ _
  obtain ⟨hp, g, dr, tk, os⟩ := s1
  have hsz : hp.objs.size ≤ hp.objs.size + 1 := Nat.le_succ _
  have hn : H1 (hp.objs.size + 1) = none := I1.hok.fresh hsz
  have hq := q1 (hp.objs.size + 1) hn
  rw [List.append_nil] at hq
  have kk : ∀ b o, hp.get? b = some o → ((hp.push (PySem.W.kdv_tup us)).push (PySem.HandSPX.excO C hp.objs.size)).get? b = some o := fun b o e => Heap.get?_push_of_some _ (Heap.get?_push_of_some _ e)
  have hget : ((hp.push (PySem.W.kdv_tup us)).push (PySem.HandSPX.excO C hp.objs.size)).get? (hp.objs.size + 1) = some (PySem.HandSPX.excO C hp.objs.size) := by heap_get
  have I2 : Inv X pins σ (upd H1 (hp.objs.size + 1) (exo (hp.objs.size + 1) C none)) ⟨(hp.push (PySem.W.kdv_tup us)).push (PySem.HandSPX.excO C hp.objs.size), g, dr, tk, os⟩ :=
    I1.laid (t' := tk) (a := hp.objs.size + 1) (o := exo (hp.objs.size + 1) C none) (h' := (hp.push (PySem.W.kdv_tup us)).push (PySem.HandSPX.excO C hp.objs.size)) kk hsz (exo_ok hget)
  have r2 : Vals (V.ref (hp.objs.size + 1) :: vs) (Value.ref (hp.objs.size + 1) :: us) := .cons rfl r1
  have hl : (Value.ref (hp.objs.size + 1) :: us ++ []).length = ps.length := by
    have e := r2.length
    rw [F1.len _ _ _ _ hq] at e
    rw [List.append_nil]
    exact e.symm
  have hus : us.length ≤ sizeLine := by
    rw [← Paired.length r1, sizeLine_eq]
    omega
  have b2 := hb _ (Value.ref (hp.objs.size + 1) :: us) I2.kIn hl
  rw [List.append_nil] at b2
  refine wpAny_call (PySem.HandSPX.call_own F.excBase_ValueError (fun Y => PySem.HandSPX.refsVE_contains Y bm hbm) (I1.kIn _ _ hC) (PySem.W.looks_findIn I1.kIn iC) (fun self => PySem.W.bind_fn I1.kIn self tI) hus
    (codeAny_mono (F1.run _ X.stack _ _ ⟨Value.ref (hp.objs.size + 1) :: us, []⟩ (Value.ref (hp.objs.size + 1) :: us) _ _ (fun _ _ _ => False) (hr.make C us []) (I2.env0.make C us []) b2 r2 hq) fun r s' hq' => ?_))
  cases r with
  | error er => exact hx pins σ _ _ er s' I2 hq'
  | ok fl =>
    cases fl with
    | ret u =>
      obtain ⟨v, H2, os2, bare2, un2, hok2, rv, ev, d, fs, ea, ed, hd1, q2⟩ := hq'
      subst ev
      obtain ⟨h2, g2, d2, t2, os'⟩ := s'
      obtain ⟨t0, G, J, kG, ge, hoe, na⟩ := mk_end0 (d2 := d2) (t2 := t2) I1 hsz kk un2 hok2 os2 bare2 ea ed hd1
      exact ⟨rv, hp.objs.size + 1, _, _, ⟨G, g2, d2, t2, os'⟩, _, .ref C, some d, rfl, J, kG, ge, hoe, ⟨rfl, rfl, fun vs hv => by cases hv; rfl⟩, rfl, rfl, na, rfl, bare2, raises_own T.exC T.tyC, q2⟩
    | next => exact False.elim hq'
    | brk => exact False.elim hq'
    | cont => exact False.elim hq'
/-- S.__init__(self, ..), S an own class over ValueError with no __init__ of its own -/
theorem pe_slinit {S : Str} {CS : Addr} {p1 p2 pos : Pos} {pl : Sem Bool} (hg : Gl X S) (hm : X.mg S = some (.ref CS)) (hr : PySem.W.readsIn X.K CS (.type "type") = true) (ga : PySem.W.specialIn X.K (.ref CS) "__getattribute__" = some (some (.builtin "type.__getattribute__")))
    (vV : PySem.W.findCls X.K (.ref CS) (.type "type") "__init__" = some (.val (.builtin "ValueError.__init__"))) (ha : PA X (e :: es) ta)
    (hdb : (S == ("__debug__" : Str)) = false := by decide)
    (hc : eval (.Call (.Attribute (.Name S p1) "__init__" p2) (e :: es) [] pos) X.env = (do
      let ov ← eval (.Name S p1) X.env
      standAt p2.atName
      let (f, first) ← holding [ov] (getMethod ov "__init__" pl)
      callWith pos f first (backTo pos (starEach (e :: es) X.env)) (backToKw pos (keywordEach [] X.env))) := by rfl)
    (he : starEach (e :: es) X.env = (false, eval e X.env) :: starEach es X.env := by rfl) (hpl : (backTo pos (starEach es X.env)).any (·.1) = false := by rfl) :
    PE X (.Call (.Attribute (.Name S p1) "__init__" p2) (e :: es) [] pos) (tVeI X.K ta) := by
  refine ⟨fun pins s σ H Q I h => ?_⟩
  refine PySem.W.methodCall_KW (ld_glob I hg hm ?_ hdb) hc
  refine PySem.W.method_cls I.kIn ga (PySem.W.cls_value I.kIn hr vV (by decide +kernel) ?_)
  show wpAny _ _ (callWith pos (Value.builtin "ValueError.__init__") [] (backTo pos (starEach (e :: es) X.env)) []) _ _ _
  refine PyProof.Rows.callWith_method1 (thn (ha.run pos pins _ σ H _ (I.tok _) h) fun us s1 ⟨vs, H1, I1, r1, a, C, ws, ev, hl, T, ea, q⟩ => ?_) he hpl
  subst ev
  cases r1 with
  | @cons _ u0 _ ur ra rw' =>
    obtain rfl : u0 = Value.ref a := ra
    have hlen : ur.length ≤ sizeLine := by
      rw [← Paired.length rw', sizeLine_eq]
      omega
    exact oinit_ok T I1 ea hlen fun s' J => ⟨.non, H1, J, rfl, q⟩
/-- isinstance(e, c), e the exception that is handled, with its dict or without -/
def rIsX (K : PySem.W.Frag) (cls : Value) (d : Option Addr) (a : Addr) : List V → Hp → VK → Prop := fun xs H Q => ∃ (D : Addr) (c : V) (cv : Value) (b : Bool), cls = .ref D ∧ ExcC K D ∧ xs = [.ref a, c] ∧ (∀ u, RelV c u → u = cv) ∧ PySem.W.kitOne K (.ref D) cv = some b ∧ (∀ dx, d = some dx → ∃ fs, H dx = some (.xd fs)) ∧ Q (.bl b) H
theorem call_isX {pa : Addr} {po : Obj} {cls : Value} {d : Option Addr} (hp : (pa, po) ∈ X.pn) (hz : Zc cls d po) (hf : ∃ vs, po.data = .fields vs) : CallR X (.builtin "isinstance") (rIsX X.K cls d pa) := by
  obtain ⟨p, ep⟩ : ∃ p : Addr × Obj, p = (pa, po) := ⟨_, rfl⟩
  have e1 : pa = p.1 := by rw [ep]
  have e2 : po = p.2 := by rw [ep]
  subst e1 e2
  clear ep
  intro pins s σ H xs us Q I r h
  obtain ⟨D, c, cv, b, ec, C, rfl, hcv, e, hd, q⟩ := h
  subst ec
  cases r with
  | cons rx rr =>
    cases rr with
    | cons rt rr =>
      cases rr
      cases rx
      have ec := hcv _ rt
      subst ec
      obtain ⟨hget, _⟩ := I.pin p (List.mem_append_left _ hp)
      obtain ⟨vs, hv⟩ := hf
      have hcl : (PySem.W.clsIn X.K D).isSome = true := by obtain ⟨cd, hc, _⟩ := PySem.W.any_some C.hd; rw [hc]; rfl
      obtain ⟨a, oe⟩ := p
      cases hd2 : d with
      | none =>
        subst hd2
        have J : PySem.W.InstAt s.heap a oe D none := by
          obtain ⟨oc, od, oda, osl⟩ := oe
          obtain ⟨h1, h2⟩ := hz
          dsimp only at h1 h2 hv
          subst h1 h2 hv
          exact ⟨hget, rfl, rfl, trivial⟩
        exact PySem.W.kia_one (PySem.W.kitx_exc hcl C.hg C.hk C.hs C.ha C.hn C.ht C.hm) I.kIn J e (fun z => nomatch z) fun tk => ⟨.bl b, H, I.kept (t' := tk) fun _ _ z => z, rfl, q⟩
      | some dx =>
        subst hd2
        obtain ⟨fs, hdx⟩ := hd dx rfl
        have hx : ObjOk X.prog X.w H s.heap dx (.xd fs) := I.hok dx _ hdx
        obtain ⟨mA, ⟨od, es, ep, ho, hr'⟩, hr⟩ := hx
        have J : PySem.W.InstAt s.heap a oe D (some od) := by
          obtain ⟨oc, od', oda, osl⟩ := oe
          obtain ⟨h1, h2⟩ := hz
          dsimp only at h1 h2 hv
          subst h1 h2 hv
          exact ⟨hget, rfl, rfl, ho⟩
        exact PySem.W.kia_one (PySem.W.kitx_exc hcl C.hg C.hk C.hs C.ha C.hn C.ht C.hm) I.kIn J e (fun z => nomatch z) fun tk => ⟨.bl b, H, I.kept (t' := tk) fun _ _ z => z, rfl, q⟩
/-- e.f, e the exception that is handled -/
theorem pe_xfX {pa : Addr} {po : Obj} {C : Addr} {cls : Value} {d : Option Addr} {o : Expr} {te : TE} {pos : Pos} {n : Str} (hp : (pa, po) ∈ X.pn) (T : XfC X.K C) (hno : PySem.W.findIn X.K (.ref C) n = some none)
    (hz : Zc cls d po) (hf : ∃ vs, po.data = .fields vs) (he : PE X o te) (hb : attributeBase o n X.env (eval o X.env) = eval o X.env := by rfl) :
    PE X (.Attribute o n pos) (tXf pa cls d C n te) := by
  obtain ⟨p, ep⟩ : ∃ p : Addr × Obj, p = (pa, po) := ⟨_, rfl⟩
  have e1 : pa = p.1 := by rw [ep]
  have e2 : po = p.2 := by rw [ep]
  subst e1 e2
  clear ep
  refine ⟨fun pins s σ H Q I h => ?_⟩
  refine attr_of hb (thn (he.run pins s σ H _ I h) fun u s1 hh => ?_)
  obtain ⟨x, H1, I1, rx, ex, ec, dd, fs, v, ed, ea, l, q⟩ := hh
  subst ex
  obtain rfl : u = Value.ref p.1 := rx
  subst ec
  subst ed
  obtain ⟨ha, _⟩ := I1.pin p (List.mem_append_left _ hp)
  obtain ⟨vs, hd⟩ := hf
  have hx : ObjOk X.prog X.w H1 s1.heap dd (.xd fs) := I1.hok dd _ ea
  obtain ⟨mA, hns, hr⟩ := hx
  obtain ⟨od, ho, hl⟩ := lookIn_ns hns
  obtain ⟨u, hu, ru⟩ := RelO.some_of (v := v) (o := mA n) (by rw [← l]; exact hr n)
  have J : PySem.W.InstAt s1.heap p.1 p.2 C (some od) := ⟨ha, hz.1, by unfold PySem.W.notCls; rw [hd] <;> rfl, by rw [hz.2]; exact ho⟩
  exact HandSPX.exc_get I1.kIn J T.ga T.gg T.exC (PySem.W.findObj_own T.hdC hno rfl (by rw [hl, hu])) (handed_of ru) ⟨v, H1, I1.tok _, ru, q⟩
end
/-- a promise that speaks of the exception: its place, its class, its dict -/
structure FnX (P : Program) (w : World) (K : PySem.W.Frag) (mg : Str → Option Value) (base : Heap) (CX : CXT) (k : Nat) (f : Addr) (fd : FuncData) (ps : List Str) (sp : Addr → Value → Option Addr → Sp) : Prop where
  len : ∀ a cls d vs H Q E, sp a cls d vs H Q E → vs.length = ps.length
  run : ∀ (A : Around) (outer : List Env) (s : Shared) (H : Hp) (args : Args) (us : List Value) (vs : List V) (Q : VK) (E : XK) (p : Addr × Obj) (cls : Value) (d : Option Addr), RoomH k A → Hot1 A p → Zc cls d p.2 → PinOk outer H s p → Env0 P w K mg base A outer s H → BindsTo s fd args (ps.zip us) → Vals vs us → sp p.1 cls d vs H Q E →
    codeAny (model P w) A (.call (.ref f) args) (CR CX outer P w H s Q E) s
theorem okFX {CX : CXT} {P : Program} {w : World} {K : PySem.W.Frag} {mg : Str → Option Value} {base : Heap} {k : Nat} {x qual : Str} {st : Stmt} {f : Addr} {fd : FuncData} {N ps : List Str} {sp : Addr → Value → Option Addr → Sp} (F : Fun K x qual st f fd) (S : FnScope N ps (defScope st))
    (len : ∀ a cls d vs H Q E, sp a cls d vs H Q E → vs.length = ps.length)
    (hbody : ∀ (cdv : Value) (A : Around) (outer : List Env) (s : Shared) (H : Hp) (vs : List V) (Q : VK) (E : XK) (p : Addr × Obj) (cls : Value) (d : Option Addr), Hot1 A p → Zc cls d p.2 → RoomH k (A.deeper (envOfC qual (defScope st) s.heap.objs.size f cdv)) → sp p.1 cls d vs H Q E →
      ∃ t, PSs (cxH CX P w K mg base N qual (defScope st) f cdv A outer s H E p) (defBody st) t ∧ t { nx := fun _ H' => Q .non H', rt := Q } (L2.start N vs) H) :
    FnX P w K mg base CX (k + 1) f fd ps sp := by
  obtain ⟨oc, od, kV, doc, pm, an, cdv, ct, osl, rfl, lk, hcd⟩ := F.ex
  refine ⟨len, fun A outer s H args us vs Q E p cls d hr hot hz hpin e0 hb r hsp => ?_⟩
  have hl := len _ _ _ _ _ _ _ hsp
  have KX : K.In s.heap := e0.mod.kin.keeps fun b o e => (e0.bs b o e).1
  have lim : s.heap.NoLimit := e0.mod.nolimit.keeps fun b o e => (e0.bs b o e).1
  have hkind : ∀ y ∈ ps.zip us, (defScope st).names.lookup y.1 = some .local ∨ ((defScope st).names.lookup y.1 = some .cell ∧ ((cellsFrom (s.heap.objs.size + 1) (defScope st).names []).lookup y.1).isSome = true) := fun ⟨n, v⟩ hy => by
    rcases S.par n (List.of_mem_zip hy).1 with q | q
    · exact .inl q
    · exact .inr ⟨q, PySem.W.cellsFrom_some _ _ _ (.inl q)⟩
  refine codeAny_call_function hr.depth (KX _ _ lk) rfl S.co S.gen rfl (PySem.W.codeRec_of KX hcd) (hb _ _ _ _ ?_)
  refine wpAny_newFunctionEnv_cells S.kind hkind fun env he s1 x => ?_
  subst he
  refine ⟨lim.keeps x.toInCall.keep, codeAny_func ?_⟩
  obtain ⟨t, ht, hq⟩ := hbody cdv A outer s H vs Q E p cls d hot hz (hr.deeper _) hsp
  have I : Inv (cxH CX P w K mg base N qual (defScope st) f cdv A outer s H E p) [] (L2.start N vs) H s1 := inv_startH S hpin e0 hl r x
  refine wpAny_mono (ht.run [] s1 (L2.start N vs) H _ I hq) (fun fl s' hs => ?_) fun e s' hs => hs
  have fin : ∀ {σ' : L2.St} {H' : Hp} {v : V} {u : Value}, Inv (cxH CX P w K mg base N qual (defScope st) f cdv A outer s H E p) [] σ' H' s' → RelV v u → Q v H' → CE outer P w H s Q u s' :=
    fun {σ' H' v u} J rv q => ⟨v, H', J.os, J.bare, J.base, J.hok, rv, q⟩
  cases fl with
  | ret u =>
    obtain ⟨v, σ', H', J, rv, q⟩ := hs
    exact fin J rv q
  | next =>
    obtain ⟨σ', H', J, q⟩ := hs
    exact fin (v := V.non) (u := Value.none) J rfl q
  | brk =>
    obtain ⟨_, _, _, q⟩ := hs
    exact False.elim q
  | cont =>
    obtain ⟨_, _, _, q⟩ := hs
    exact False.elim q
section
variable {X : Cx} {CX : CXT} {k : Nat} {f : Addr} {fd : FuncData} {ps : List Str} {sp : Addr → Value → Option Addr → Sp} {E : L2.St → XK} {x : Str} {q pos : Pos} {e : Expr} {es : List Expr} {t : TA}
theorem pe_callX {pa : Addr} {po : Obj} {cls : Value} {d : Option Addr} (hot : Hot1 X.A (pa, po)) (hp : (pa, po) ∈ X.pn) (hz : Zc cls d po) (F : FnX X.prog X.w X.K X.mg X.base CX k f fd ps sp) (hr : RoomH k X.A) (hg : Gl X x) (hm : X.mg x = some (.ref f)) (hk : PySem.W.keepIn X.K (.ref f) = true) (hb : Binds X.K fd ps []) (hx : ∀ σ, PassesAt CX X σ (E σ))
    (ha : PA X (e :: es) t) (hdb : (x == ("__debug__" : Str)) = false := by decide) (he : starEach (e :: es) X.env = (false, eval e X.env) :: starEach es X.env := by rfl) (hpl : (backTo pos (starEach es X.env)).any (·.1) = false := by rfl) :
    PE X (.Call (.Name x q) (e :: es) [] pos) (tCallS (sp pa cls d) E t) := by
  obtain ⟨p, ep⟩ : ∃ p : Addr × Obj, p = (pa, po) := ⟨_, rfl⟩
  have e1 : pa = p.1 := by rw [ep]
  have e2 : po = p.2 := by rw [ep]
  subst e1 e2
  clear ep
  refine ⟨fun pins s σ H Q I h => ?_⟩
  refine wpAny_Call_Name_kw (ld_glob I hg hm ?_ hdb)
  refine PySem.W.callWith_K (h₀ := X.base) I.ok.mod.kin hk (thn (ha.run pos pins s σ H _ I h) fun us s1 ⟨vs, H1, I1, r, q⟩ => ⟨I1.kIn, ?_⟩) he hpl
  have hl : us.length = ps.length := by rw [← r.length]; exact F.len _ _ _ _ _ _ _ q
  have b := hb s1 us I1.kIn (by rw [List.append_nil]; exact hl)
  rw [List.append_nil] at b
  have P1 := I1.pin p (List.mem_append_left _ hp)
  have hpin : PinOk X.stack H1 s1 p := ⟨P1.1, P1.2.1, fun hm => (List.mem_cons.mp (I1.stkSub p.1 hm)).elim P1.2.2.1 P1.2.2.2.1, P1.2.2.2.2⟩
  refine wpAny_call (codeAny_mono (F.run X.A X.stack s1 H1 ⟨us, []⟩ us vs Q (E σ) p cls d hr hot hz hpin I1.env0 b r q) fun r s' hq => ?_)
  cases r with
  | error e => exact hx σ pins H1 s1 e s' I1 hq
  | ok fl =>
    cases fl with
    | ret u => exact I1.after hq
    | next => exact False.elim hq
    | brk => exact False.elim hq
    | cont => exact False.elim hq
/-- nothing is let out -/
theorem passS0 {X : Cx} : ∀ σ : L2.St, PassesAt CX0 X σ E0 := fun _ _ _ _ _ _ _ h => h.elim
end
end
namespace SM
variable {μ τ ρ α : Type}
/-- an exception: its class, its numbers -/
def exD (n : Str) (is : List Int) : D := .tuple (.str n :: is.map .int)
/-- the fields that an exception's class stores -/
def fldsX (n : Str) : List Str := if n = "Spoilt" then ["step"] else if n = "NoTable" then ["top", "look"] else if n = "NoDeed" then ["number"] else []
def nmX : D → Str
  | .tuple (.str n :: _) => n
  | _ => Str.empty
def numsX : D → List D
  | .tuple (.str _ :: ds) => ds
  | _ => []
/-- e.f -/
def fldX (f : Str) (e : D) : Option D := ((fldsX (nmX e)).zip (numsX e)).lookup f
/-- C(..), C with fields -/
def mkX (n : Str) (xs : List D) : Option D := match intsD xs with
  | some is => if is.length = (fldsX n).length ∧ is ≠ [] ∧ is.all (fun i => decide (i.natAbs.log2 < 1900)) = true then some (exD n is) else none
  | none => none
def tryS (mt : D → Bool) (R : SM μ (Fl τ ρ)) (hnd : D → SM μ (Fl τ ρ)) : SM μ (Fl τ ρ) := fun m => match R m with
  | .exc e m' => if mt e then hnd e m' else .exc e m'
  | .ok a m' => .ok a m'
  | .bad => .bad
theorem tryS_ok {mt : D → Bool} {R : SM μ (Fl τ ρ)} {hnd : D → SM μ (Fl τ ρ)} {m m' : μ} {a : Fl τ ρ} (h : R m = .ok a m') : tryS mt R hnd m = .ok a m' := by unfold tryS; rw [h]
theorem tryS_bad {mt : D → Bool} {R : SM μ (Fl τ ρ)} {hnd : D → SM μ (Fl τ ρ)} {m : μ} (h : R m = .bad) : tryS mt R hnd m = .bad := by unfold tryS; rw [h]
theorem tryS_exc {mt : D → Bool} {R : SM μ (Fl τ ρ)} {hnd : D → SM μ (Fl τ ρ)} {m m' : μ} {e : D} (h : R m = .exc e m') : tryS mt R hnd m = if mt e then hnd e m' else .exc e m' := by unfold tryS; rw [h]
theorem tryS_pu {mt : D → Bool} {hnd : D → SM μ (Fl τ ρ)} (a : Fl τ ρ) : tryS mt (pu a) hnd = pu a := rfl
theorem tryS_raise {mt : D → Bool} {hnd : D → SM μ (Fl τ ρ)} (e : D) : tryS mt (raise e) hnd = if mt e then hnd e else raise e := by
  funext m
  show (if mt e then hnd e m else .exc e m) = _
  cases mt e <;> rfl
end SM
section
open SM
/-- an exception's data, its class and its dict: of the classes cl -/
def rootX (cl : List (Str × Addr)) (e : D) (cls : Value) (d : Option Addr) : Root where
  fp := fun _ => d.toList
  same := fun _ _ _ => rfl
  P := fun _ H => ∃ (n : Str) (is : List Int) (C : Addr), (n, C) ∈ cl ∧ e = exD n is ∧ cls = .ref C ∧ is.length = (fldsX n).length ∧ ((d = none ∧ is = []) ∨ ∃ (dx : Addr) (fs : List (Str × V)), d = some dx ∧ H dx = some (.xd fs) ∧ ∀ (k : Nat) (f : Str) (i : Int), (fldsX n)[k]? = some f → is[k]? = some i → fs.lookup f = some (.int i))
  mono := fun k e h => by
    obtain ⟨n, is, C, h1, h2, h3, h4, h5⟩ := h
    refine ⟨n, is, C, h1, h2, h3, h4, h5.imp id fun ⟨dx, fs, e1, e2, e3⟩ => ⟨dx, fs, e1, ?_, e3⟩⟩
    rw [e dx (by rw [e1]; exact .head _)]; exact e2
  occ := fun h p hp => by
    obtain ⟨n, is, C, h1, h2, h3, h4, h5⟩ := h
    rcases h5 with ⟨rfl, _⟩ | ⟨dx, fs, rfl, e2, _⟩
    · cases hp
    · rw [List.mem_singleton.mp hp]; exact ⟨_, e2⟩
theorem rootX_iff {cl : List (Str × Addr)} {e : D} {cls : Value} {d : Option Addr} {B : Addr → Prop} {H : Hp} : (rootX cl e cls d).P B H ↔ ∃ (n : Str) (is : List Int) (C : Addr), (n, C) ∈ cl ∧ e = exD n is ∧ cls = .ref C ∧ is.length = (fldsX n).length ∧ ((d = none ∧ is = []) ∨ ∃ (dx : Addr) (fs : List (Str × V)), d = some dx ∧ H dx = some (.xd fs) ∧ ∀ (k : Nat) (f : Str) (i : Int), (fldsX n)[k]? = some f → is[k]? = some i → fs.lookup f = some (.int i)) := Iff.rfl
variable {X : Cx} {μ τ τ' ρ : Type} {G : Gx} {σ : St} {L : List (V × D)} {C Cp : μ → List Root} {te ta tb tc : TE} {tt tu : TT} {t u : TS} {E E1 E2 E3 : SM μ D} {Jn : Shp μ τ} {Jl : Shp μ ρ} {i j : Nat}
/-- what an own __init__ that stores its arguments promises -/
def SpXI (K : PySem.W.Frag) (Cc : Addr) (flds : List Str) : Sp := fun vs H Q _ => vs.length = flds.length + 1 ∧ ∃ (a : Addr) (is : List Int), vs = .ref a :: is.map V.int ∧ H a = some (exo a Cc none) ∧ (∀ i ∈ is, i.natAbs.log2 < 1900) ∧
  ∀ dx H', H dx = none → dx ≠ a → H' a = some (exo a Cc (some dx)) → H' dx = some (exd dx ((flds.zip (is.map V.int)).reverse)) → (∀ p, p ≠ a → p ≠ dx → H' p = H p) → Q .non H'
theorem look_rev : ∀ {fs : List Str} {is : List Int} {k : Nat} {f : Str} {i : Int}, fs.Nodup → fs[k]? = some f → is[k]? = some i → ((fs.zip (is.map V.int)).reverse).lookup f = some (V.int i)
  | [], _, k, f, i, _, h, _ => by cases h
  | _ :: _, [], k, f, i, _, _, h => by cases h
  | g :: fs, x :: is, 0, f, i, nd, h1, h2 => by
    cases h1
    cases h2
    have hnm : ∀ (l : List (Str × V)), (∀ p ∈ l, p.1 ≠ g) → (l ++ [(g, V.int x)]).lookup g = some (V.int x) := by
      intro l
      induction l with
      | nil => intro _; simp [List.lookup]
      | cons p l ih =>
        intro h
        obtain ⟨q, v⟩ := p
        have hq : q ≠ g := h _ (.head _)
        have : (g == q) = false := by simpa using fun e => hq e.symm
        rw [List.cons_append]
        simp only [List.lookup, this]
        exact ih fun p hp => h p (.tail _ hp)
    rw [List.map_cons, List.zip_cons_cons, List.reverse_cons]
    refine hnm _ fun p hp e => ?_
    have := List.of_mem_zip (List.mem_reverse.mp hp)
    exact (List.nodup_cons.mp nd).1 (e ▸ this.1)
  | g :: fs, x :: is, k + 1, f, i, nd, h1, h2 => by
    have ih := look_rev (k := k) (List.nodup_cons.mp nd).2 h1 h2
    rw [List.map_cons, List.zip_cons_cons, List.reverse_cons]
    have hap : ∀ (l : List (Str × V)) (v : V), l.lookup f = some v → ∀ l2, (l ++ l2).lookup f = some v := by
      intro l
      induction l with
      | nil => intro v h; cases h
      | cons p l ih =>
        intro v h l2
        obtain ⟨q, w⟩ := p
        rw [List.cons_append]
        unfold List.lookup at h ⊢
        by_cases c : f = q
        · subst c
          simp only [beq_self_eq_true] at h ⊢
          exact h
        · have : (f == q) = false := by simpa using c
          rw [this] at h ⊢
          exact ih v h l2
    exact hap _ _ ih _
/-- raise X(..), X with fields -/
theorem sv_raiseN {ta : TA} {Es : SM μ (List D)} {Cc : Addr} {n : Str} {cl : List (Str × Addr)} (hc : Sub Cp C) (hX : G.XR = rootX cl) (hm : (n, Cc) ∈ cl) (hnd : (fldsX n).Nodup) (h : AV G ta σ L C Es) :
    SV G Cp (tSeq (fun _ σ H => tMkO Cc (SpXI G.K Cc (fldsX n)) [] ta σ H fun cls d H' => G.Xk cls d H') u) σ L C (bd Es fun xs => bd (of (mkX n xs)) fun e => raise e) Jn Jl := by
  intro m F L' H d s w _ _ _ _ b
  show tMkO Cc (SpXI G.K Cc (fldsX n)) [] ta σ H fun cls d H' => G.Xk cls d H'
  refine h m F L' H _ s w (fun xs m1 vs H1 Lz e1 s2 i2 w1 => ?_) (b.fst.subC hc)
  have b1 : Bk G Cp F L' (bd (of (mkX n xs)) (fun e => (raise e : SM μ (Fl τ ρ))) m1) := b.snd e1
  cases em : mkX n xs with
  | none => rw [em] at b1; exact absurd rfl b1.2
  | some z =>
    unfold mkX at em
    cases ei : intsD xs with
    | none => rw [ei] at em; cases em
    | some is =>
      rw [ei] at em
      simp only at em
      split at em
      · next c =>
        cases em
        obtain ⟨c1, c0, c2⟩ := c
        obtain ⟨B0, wb0⟩ := w1
        have hvs : vs = is.map V.int := by
          have := i2.dt (fun f hf => wb0.ft f hf)
          rw [intsD_map ei] at this
          exact DtAll.ints_inv this
        have hlen : (fldsX n).length ≤ 2 := by
          unfold fldsX
          split
          · exact (by decide : 1 ≤ 2)
          · split
            · exact (by decide : 2 ≤ 2)
            · split
              · exact (by decide : 1 ≤ 2)
              · exact (by decide : 0 ≤ 2)
        refine ⟨by rw [hvs, List.length_map]; omega, fun a ha => ?_⟩
        rw [List.append_nil]
        refine ⟨by rw [List.length_cons, hvs, List.length_map]; omega, a, is, by rw [hvs], upd_same, fun i hi => of_decide_eq_true (List.all_eq_true.mp c2 i hi), fun dx H' hdx hne e1' e2' hk => ?_⟩
        rw [upd_ne hne] at hdx
        refine ⟨rfl, dx, _, e1', e2', hdx, ?_⟩
        have er : bd Es (fun xs => bd (of (mkX n xs)) fun e => (raise e : SM μ (Fl τ ρ))) m = .exc (exD n is) m1 := by
          rw [bd_ok e1]
          unfold mkX
          rw [ei]
          show bd (of (if is.length = (fldsX n).length ∧ is ≠ [] ∧ is.all (fun i => decide (i.natAbs.log2 < 1900)) = true then some (exD n is) else none)) _ m1 = _
          rw [if_pos ⟨c1, c0, c2⟩]
          rfl
        refine b.1 (exD n is) m1 _ _ _ er ?_
        rw [hX]
        have sm : Same H1 (upd (L2.del H' a) dx (.xd (((fldsX n).zip (is.map V.int)).reverse))) := fun p o e => by
          have npd : p ≠ dx := fun z => by rw [z, hdx] at e; cases e
          have npa : p ≠ a := fun z => by rw [z, ha] at e; cases e
          rw [upd_ne npd, L2.del_ne npa, hk p npa npd, upd_ne npa]
          exact e
        have w2 := wb0.grow (B' := B0) sm (fun _ b => b) (fun _ b => .inl b)
        have nB : ¬ B0 dx := fun z => by
          obtain ⟨o, ho⟩ := wb0.bo dx z
          rw [hdx] at ho; cases ho
        have w4 : Wb G.K G.O B0 Lz (Cp m1 ++ F) (upd (L2.del H' a) dx (.xd (((fldsX n).zip (is.map V.int)).reverse))) := by
          have hs : ∀ {H0 : Hp}, (fps (Cp m1 ++ F) H0).Sublist (fps (C m1 ++ F) H0) := fps_sub ((hc m1).append_right F)
          exact ⟨w2.lo, w2.hi, hs.nodup w2.nd, fun p hp => w2.nb p (hs.mem hp), fun p hp => w2.fr p (hs.mem hp), fun c hc' => w2.rt c (((hc m1).append_right F).mem hc'), w2.ft, w2.kp, w2.oc, w2.bo⟩
        refine ⟨B0, (w4.addR (r := rootX cl (exD n is) (.ref Cc) (some dx)) (rootX_iff.mpr ⟨n, is, Cc, hm, rfl, rfl, c1, .inr ⟨dx, _, rfl, upd_same, fun k f i k1 k2 => look_rev hnd k1 k2⟩⟩) (fun p hp => ?_) (List.nodup_cons.mpr ⟨by simp, List.nodup_nil⟩)).fts fun f hf => w4.ft f (s2 f hf)⟩
        rw [List.mem_singleton.mp hp]
        exact ⟨wb0.none hdx, nB, fun z => wb0.free hdx (by rw [← wb0.same sm]; exact (fps_sub ((hc m1).append_right F)).mem z)⟩
      · cases em
/-- a call within a try -/
theorem ev_cPXS {ta : TA} {Es : SM μ (List D)} {mf : List D → SM Unit D} {n : Nat} {W : WX} (hW : ∀ cls d H, G.Xk cls d H → W cls d σ H) (hn : ∀ ds, mf ds () ≠ .bad → ds.length = n) (h : AV G ta σ L C Es) : EV G (tCallS (SpPX G.K G.XR n mf) (WE W) ta) σ L C (cPX mf Es) := by
  intro m F L' H Q s w q b
  refine h m F L' H _ s w (fun xs m1 vs H1 L2 e1 s2 i2 w1 => ?_) b.fst
  have b1 := b.snd e1
  have er : cPX mf Es m = p0 (mf xs) m1 := bd_ok e1
  have nb : mf xs () ≠ .bad := fun z => by
    exact b1.2 (p0_bad z)
  obtain ⟨B, wb⟩ := w1
  refine ⟨by rw [i2.len]; exact hn xs nb, B, xs, wb.bo, i2.dt wb.ft, nb, fun x v H' B' ex sm h1 h2 hd => ?_, fun e cls d H' B' ex sm h1 h2 xr xf xn => ?_⟩
  · refine q x m1 v H' ?_ ⟨B', ((wb.grow sm h1 h2).fact hd).fts fun f hf => ?_⟩
    · rw [er]
      exact p0_ok ex
    · rcases List.mem_cons.mp hf with e | e
      · subst e; exact hd
      · exact (wb.grow sm h1 h2).ft f (s2 f e)
  · refine hW _ _ _ (b.1 e m1 cls d H' ?_ ⟨B', ((wb.grow sm h1 h2).addR xr (fun p hp => ⟨wb.none (xf p hp).1, (xf p hp).2, by rw [wb.same sm]; exact wb.free (xf p hp).1⟩) xn).fts fun f hf => (wb.grow sm h1 h2).ft f (s2 f hf)⟩)
    rw [er]
    exact p0_exc ex
/-- try: .. except c as n: .. -/
theorem sv_try {cl : List (Str × Addr)} {mt : D → Bool} {R : SM μ (Fl τ ρ)} {hnd : D → SM μ (Fl τ ρ)} {tb : WX → TS} {ts : Addr → Value → Option Addr → TS} {c : Value} (hc : Sub Cp C) (hX : G.XR = rootX cl ∨ G.XR = noX)
    (hm : ∀ n D is, (n, D) ∈ cl → PySem.W.exmOne G.K (.ref D) c = some (mt (exD n is)))
    (hb : ∀ (W : WX), SV ⟨G.K, G.O, fun cls d H => W cls d σ H, rootX cl, G.rf⟩ C (tb W) σ L C R Jn Jl)
    (hs : ∀ a cls d e, mt e = true → SV G Cp (ts a cls d) (σ.set i (some (.ref a))) L (fun m => rootX cl e cls d :: C m) (hnd e) (fun s σ' L2 C2 => Jn s (σ'.set i none) L2 C2) (fun s σ' L2 C2 => Jl s (σ'.set i none) L2 C2)) :
    SV G Cp (tTryA G.K c i ts (fun cls d _ H => G.Xk cls d H) tb) σ L C (tryS mt R hnd) Jn Jl := by
  intro m F L' H D s w q1 q2 q3 q4 b
  refine hb (wAs G.K c i ts (fun cls d _ H => G.Xk cls d H) D) m F L' H D s w (fun s m' σ' L2 C2 H' e => q1 s m' σ' L2 C2 H' (tryS_ok e)) (fun s m' σ' L2 C2 H' e => q2 s m' σ' L2 C2 H' (tryS_ok e)) (fun s m' σ' L2 C2 H' e => q3 s m' σ' L2 C2 H' (tryS_ok e)) (fun x m' v H' L1 C1 e r w' => q4 x m' v H' L1 C1 (tryS_ok e) r (w'.subC ((List.Sublist.refl _).append ((hc m').append_right F)))) ⟨fun e m' cls d H' ex w' => ?_, fun z => b.2 (tryS_bad z)⟩
  have hP : ∃ n is C0, (n, C0) ∈ cl ∧ e = exD n is ∧ cls = .ref C0 := by
    obtain ⟨B, wb⟩ := w'
    obtain ⟨n, is, C0, h1, h2, h3, _⟩ := rootX_iff.mp (wb.rt _ (.head _))
    exact ⟨n, is, C0, h1, h2, h3⟩
  obtain ⟨n, is, C0, hin, ee, ec⟩ := hP
  show wAs G.K c i ts (fun cls d _ H => G.Xk cls d H) D cls d σ H'
  refine ⟨mt e, by rw [ec, ee]; exact hm n C0 is hin, fun hmt a ha => ?_, fun hmt => ?_⟩
  · have ex2 : tryS mt R hnd m = hnd e m' := by rw [tryS_exc ex, if_pos hmt]
    refine hs a cls d e hmt m' F L' H' _ s w' (fun s2 m2 σ2 L2 C2 H2 e2 j2 w2 => ?_) (fun s2 m2 σ2 L2 C2 H2 e2 j2 w2 => ?_) (fun s2 m2 σ2 L2 C2 H2 e2 j2 w2 => ?_) (fun x m2 v H2 L1 C1 e2 r2 w2 => ?_) ?_
    · exact q1 s2 m2 (σ2.set i none) L2 C2 H2 (ex2.trans e2) j2 w2
    · exact q2 s2 m2 (σ2.set i none) L2 C2 H2 (ex2.trans e2) j2 w2
    · exact q3 s2 m2 (σ2.set i none) L2 C2 H2 (ex2.trans e2) j2 w2
    · exact q4 x m2 v H2 L1 C1 (ex2.trans e2) r2 w2
    · rw [ex2] at b
      exact b
  · have ex2 : tryS mt R hnd m = .exc e m' := by rw [tryS_exc ex, hmt]; rfl
    refine b.1 e m' cls d H' ex2 ?_
    have w3 : Wd G.K G.O L' (rootX cl e cls d :: (Cp m' ++ F)) H' := w'.subC (List.Sublist.cons₂ _ ((hc m').append_right F))
    rcases hX with h | h
    · rw [h]; exact w3
    · rw [h]
      obtain ⟨B, w3⟩ := w3
      have hs : (fps (Cp m' ++ F) H').Sublist (fps (rootX cl e cls d :: (Cp m' ++ F)) H') := fps_sub (List.sublist_cons_self _ _)
      have w4 : Wb G.K G.O B L' (Cp m' ++ F) H' := ⟨w3.lo, w3.hi, hs.nodup w3.nd, fun p hp => w3.nb p (hs.mem hp), fun p hp => w3.fr p (hs.mem hp), fun c hc => w3.rt c (.tail _ hc), w3.ft, w3.kp, w3.oc, w3.bo⟩
      exact ⟨B, w4.addR (r := noX e cls d) trivial (fun p hp => by cases hp) List.nodup_nil⟩
/-- the first root was changed, its places are the same -/
theorem Wb.chgR {K : PySem.W.Frag} {O : Og} {B B' : Addr → Prop} {L : List (V × D)} {Z : List Root} {H H' : Hp} {r : Root} (hst : r.fp H' = r.fp H) (wb : Wb K O B L (r :: Z) H) (hk : ∀ p o, p ∉ r.fp H → H p = some o → H' p = some o)
    (h1 : ∀ p, B p → B' p) (h2 : ∀ p, B' p → B p ∨ (H p = Option.none ∧ ∃ o, H' p = some o)) (hr : r.P B' H') : Wb K O B' L (r :: Z) H' := by
  have hm : ∀ p ∈ r.fp H, p ∈ fps (r :: Z) H := fun p hp => by rw [fps_cons]; exact List.mem_append.mpr (.inl hp)
  have hnd := wb.nd
  rw [fps_cons] at hnd
  have hdis := (List.nodup_append.mp hnd).2.2
  have k : Kp B H B' H' := fun p o b e => ⟨h1 p b, hk p o (fun z => wb.nb p (hm p z) b) e⟩
  have es : fps (r :: Z) H' = fps (r :: Z) H := by
    rw [fps_cons, fps_cons, hst, fps_same k (fun c hc => wb.rt c (.tail _ hc)) fun p hp => ?_]
    obtain ⟨c, hc, hp2⟩ := List.mem_flatMap.mp hp
    obtain ⟨o, ho⟩ := c.occ (wb.rt c (.tail _ hc)) p hp2
    rw [ho]
    exact hk p o (fun z => hdis p z p hp rfl) ho
  refine ⟨fun p b => h1 p (wb.lo p b), fun p b => ?_, by rw [es]; exact wb.nd, fun p hp b => ?_, fun p hp => wb.fr p (by rw [← es]; exact hp), fun c hc => ?_, fun f hf => Dt.mono k _ _ (wb.ft f hf), fun p o hp e => ?_, fun p hp => ?_, fun p b => ?_⟩
  · rcases h2 p b with b | n
    · exact wb.hi p b
    · exact .inr (wb.none n.1)
  · rw [es] at hp
    rcases h2 p b with b | n
    · exact wb.nb p hp b
    · exact wb.free n.1 hp
  · rcases List.mem_cons.mp hc with e | e
    · subst e; exact hr
    · refine c.mono k (fun p hp => ?_) (wb.rt c (.tail _ e))
      obtain ⟨o, ho⟩ := c.occ (wb.rt c (.tail _ e)) p hp
      rw [ho]
      exact hk p o (fun z => hdis p z p (mem_fps e hp) rfl) ho
  · by_cases z : p ∈ r.fp H
    · rcases wb.fr p (hm p z) with y | y
      · exact absurd y hp
      · rw [y] at e; cases e
    · exact hk p o z (wb.kp p o hp e)
  · by_cases z : p ∈ r.fp H
    · exact r.occ hr p (by rw [hst]; exact z)
    · obtain ⟨o, ho⟩ := wb.oc p hp
      exact ⟨o, hk p o z ho⟩
  · rcases h2 p b with b | n
    · obtain ⟨o, ho⟩ := wb.bo p b
      exact ⟨o, hk p o (fun z => wb.nb p (hm p z) b) ho⟩
    · exact n.2
/-- isinstance(e, T) -/
theorem ev_isX {Z : μ → List Root} {cl : List (Str × Addr)} {a : Addr} {cls : Value} {d : Option Addr} {e : D} {cv : Value} {cw : V} {q : Str → Bool} (hv : σ[i]? = some (some (.ref a))) (hcv : ∀ u, RelV cw u → u = cv)
    (hC : ∀ n D, (n, D) ∈ cl → ExcC G.K D ∧ PySem.W.kitOne G.K (.ref D) cv = some (q n)) : EV G (tCB (rIsX G.K cls d a) (tCons (tVar i) (tCons (tC cw) tNil))) σ L (fun m => rootX cl e cls d :: Z m) (pu (.bool (q (nmX e)))) := by
  intro m F L' H Q s w qq b
  refine ⟨.ref a, hv, ?_⟩
  obtain ⟨B, wb⟩ := w
  obtain ⟨n, is, D, h1, rfl, rfl, h4, h5⟩ := rootX_iff.mp (wb.rt _ (.head _))
  obtain ⟨c1, c2⟩ := hC n D h1
  refine ⟨D, cw, cv, q n, rfl, c1, rfl, hcv, c2, fun dx hdx => ?_, qq _ m _ H rfl ⟨B, wb.fact (.bl _)⟩⟩
  rcases h5 with ⟨z, _⟩ | ⟨dx', fs, z, e2, _⟩
  · rw [z] at hdx; cases hdx
  · rw [z] at hdx; cases hdx
    exact ⟨fs, e2⟩
/-- e.f -/
theorem ev_fldX {Z : μ → List Root} {cl : List (Str × Addr)} {a Cc : Addr} {cls : Value} {d : Option Addr} {e : D} {f : Str} (hv : σ[i]? = some (some (.ref a))) (hC : ∀ n D, (n, D) ∈ cl → f ∈ fldsX n → D = Cc) :
    EV G (tXf a cls d Cc f (tVar i)) σ L (fun m => rootX cl e cls d :: Z m) (of (fldX f e)) := by
  intro m F L' H Q s w qq b
  refine ⟨.ref a, hv, rfl, ?_⟩
  obtain ⟨B, wb⟩ := w
  obtain ⟨n, is, D, h1, rfl, rfl, h4, h5⟩ := rootX_iff.mp (wb.rt _ (.head _))
  have ef : fldX f (exD n is) = ((fldsX n).zip (is.map PyData.int)).lookup f := rfl
  cases el : ((fldsX n).zip (is.map PyData.int)).lookup f with
  | none => rw [ef, el] at b; exact absurd rfl b.2
  | some z =>
    have key : ∀ (fs : List Str) (is : List Int), fs.length = is.length → (fs.zip (is.map PyData.int)).lookup f = some z → ∃ (k : Nat) (i : Int), fs[k]? = some f ∧ is[k]? = some i ∧ z = .int i := by
      intro fs
      induction fs with
      | nil => intro is _ h; cases h
      | cons g fs ih =>
        intro is hl h
        cases is with
        | nil => cases hl
        | cons x is =>
          rw [List.map_cons, List.zip_cons_cons] at h
          unfold List.lookup at h
          by_cases c : f = g
          · subst c
            simp only [beq_self_eq_true] at h
            cases h
            exact ⟨0, x, rfl, rfl, rfl⟩
          · have : (f == g) = false := by simpa using c
            rw [this] at h
            obtain ⟨k, i, k1, k2, k3⟩ := ih is (by simpa using hl) h
            exact ⟨k + 1, i, k1, k2, k3⟩
    obtain ⟨k, i, k1, k2, rfl⟩ := key _ _ h4.symm el
    have hD : D = Cc := hC n D h1 (List.mem_of_getElem? k1)
    subst hD
    rcases h5 with ⟨_, z⟩ | ⟨dx, fs, z, e2, e3⟩
    · rw [z] at k2; cases k2
    · refine ⟨rfl, dx, fs, .int i, z, e2, e3 k f i k1 k2, qq (.int i) m _ H ?_ ⟨B, wb.fact (.int _)⟩⟩
      rw [ef, el]; rfl
/-- a def that is handed the exception that is handled -/
def SpE (K : PySem.W.Frag) (XR : D → Value → Option Addr → Root) (mf : D → SM Unit D) : Addr → Value → Option Addr → Sp := fun a cls d vs H Q _ => vs.length = 1 ∧ vs = [.ref a] ∧ ∃ (B : Addr → Prop) (e x : D), (∀ p, B p → ∃ o, H p = some o) ∧ (XR e cls d).P B H ∧ (∀ p ∈ (XR e cls d).fp H, ¬ B p) ∧ ((XR e cls d).fp H).Nodup ∧ mf e () = .ok x () ∧
  (∀ v H' B', (∀ p o, p ∉ (XR e cls d).fp H → H p = some o → H' p = some o) → (∀ p, B p → B' p) → (∀ p, B' p → B p ∨ (H p = none ∧ ∃ o, H' p = some o)) → (XR e cls d).P B' H' → Dt K B' H' v x → Q v H')
theorem ev_cE {Z : μ → List Root} {XR : D → Value → Option Addr → Root} {a : Addr} {cls : Value} {d : Option Addr} {e : D} {mf : D → SM Unit D} (hv : σ[i]? = some (some (.ref a))) (hst : ∀ H H', (XR e cls d).fp H = (XR e cls d).fp H' := by intros; rfl) : EV G (tCallS (SpE G.K XR mf a cls d) (fun _ => E0) (tCons (tVar i) tNil)) σ L (fun m => XR e cls d :: Z m) (px (mf e)) := by
  intro m F L' H Q s w qq b
  refine ⟨.ref a, hv, ?_⟩
  obtain ⟨x, ex⟩ := px_nb b.2
  obtain ⟨B, wb⟩ := w
  have hm : ∀ p ∈ (XR e cls d).fp H, p ∈ fps ((XR e cls d :: Z m) ++ F) H := fun p hp => by rw [List.cons_append, fps_cons]; exact List.mem_append.mpr (.inl hp)
  have hnd := wb.nd
  rw [List.cons_append, fps_cons] at hnd
  refine ⟨rfl, rfl, B, e, x, wb.bo, wb.rt _ (.head _), fun p hp => wb.nb p (hm p hp), (List.nodup_append.mp hnd).1, ex, fun v H' B' hk h1 h2 hr hd => ?_⟩
  have w2 := Wb.chgR (Z := Z m ++ F) (hst _ _) wb hk h1 h2 hr
  exact qq x m v H' (px_ok ex) ⟨B', w2.fact hd⟩
theorem body_E {K : PySem.W.Frag} {XR : D → Value → Option Addr → Root} {mf : D → SM Unit D} {ts : TS} {N : List Str} {H : Hp} {a : Addr} {cls : Value} {d : Option Addr} {vs : List V} {Q : VK} {E : XK} (hsp : SpE K XR mf a cls d vs H Q E)
    (h : ∀ (e : D) (O : Og), ∃ (R : SM Unit (Fl Unit Empty)), mf e = fin R ∧ SV ⟨K, O, E0, noX, rfF⟩ (fun _ => [XR e cls d]) ts (start N [.ref a]) [] (fun _ => [XR e cls d]) R (fun _ _ _ _ => False) (fun z _ _ _ => z.elim)) : ts { nx := fun _ H' => Q .non H', rt := Q } (start N vs) H := by
  obtain ⟨_, rfl, B, e, x0, hb, hr, hnB, hnd, ex, q⟩ := hsp
  obtain ⟨R, hR, hS⟩ := h e ⟨B, H, (XR e cls d).fp H⟩
  have ef : fps ([XR e cls d] ++ []) H = (XR e cls d).fp H := by rw [List.append_nil, fps_cons]; exact List.append_nil _
  have w0 : Wd K ⟨B, H, (XR e cls d).fp H⟩ [] ([XR e cls d] ++ []) H := by
    refine ⟨B, fun p b => b, fun p b => .inl b, by rw [ef]; exact hnd, fun p hp => hnB p (by rw [← ef]; exact hp), fun p hp => .inl (by rw [← ef]; exact hp), fun c hc => ?_, fun f hf => (by cases hf), fun p o _ e => e, (XR e cls d).occ hr, hb⟩
    have : c = XR e cls d := by simpa using hc
    subst this; exact hr
  rw [hR] at ex
  refine hS () [] [] H _ (fun f hf => hf) w0 ?_ ?_ ?_ ?_ ?_
  · intro s m' σ' L2 C2 H' e z w
    exact z.elim
  · intro s; exact s.elim
  · intro s; exact s.elim
  · rintro x m' v H' _ _ e1 ⟨rfl, rfl⟩ w
    have e2 : fin R () = .ok x m' := bd_ok e1
    rw [e2] at ex
    cases ex
    obtain ⟨B', wb⟩ := w
    refine q v H' B' (fun p o hp e => wb.kp p o hp e) wb.lo (fun p b => ?_) (wb.rt _ (.head _)) (wb.ft _ (.head _))
    rcases wb.hi p b with z | z
    · exact .inl z
    · exact .inr ⟨z, wb.bo p b⟩
  · refine ⟨fun e m' cls d H' z => ?_, fun z => ?_⟩
    · have e2 : fin R () = .exc e m' := bd_exc z
      rw [e2] at ex
      cases ex
    · have e2 : fin R () = .bad := bd_bad z
      rw [e2] at ex
      cases ex
end
namespace SM
variable {μ : Type}
/-- an own class, by name -/
def isq (t n : Str) : Bool := n == t
/-- a class above all own ones -/
def isa (_ : Str) : Bool := true
def strsD : List D → Option (List Str)
  | [] => some []
  | .str x :: r => (strsD r).map (x :: ·)
  | _ => none
def joinS (a : Str) (ys : List Str) : Str := Txt.join a ys
def strO : D → Option Str
  | .str a => some a
  | _ => none
def joinD (a : Str) : D → Option D
  | .list ds => match strsD ds with
    | some ys => if (ys.map (·.length)).sum + ys.length * a.length ≤ 16777216 then some (.str (joinS a ys)) else none
    | none => none
  | _ => none
def join (E1 E2 : SM μ D) : SM μ D := bd E1 fun x => bd (of (strO x)) fun a => bd E2 fun y => of (joinD a y)
end SM
section
open SM PySem.Spec
variable {X : Cx} {μ : Type} {G : Gx} {σ : L2.St} {L : List (V × D)} {C : μ → List Root} {te to : TE} {E E1 E2 : SM μ D} {i : Nat} {K : PySem.W.Frag} {H : Hp}
theorem strsD_map : ∀ {ds : List D} {ys : List Str}, strsD ds = some ys → ds = ys.map .str
  | [], _, h => by cases h; rfl
  | d :: ds, ys, h => by
    cases d <;> simp only [strsD] at h <;> (try cases h)
    rename_i x
    cases e : strsD ds with
    | none => rw [e] at h; cases h
    | some r => rw [e] at h; cases h; rw [strsD_map e]; rfl
theorem DtAll.strs_inv {B : Addr → Prop} : ∀ {ys : List Str} {vs : List V}, DtAll K B H vs (ys.map PyData.str) → vs = ys.map V.str
  | [], _, h => by cases h; rfl
  | n :: ns, _, h => by
    cases h with
    | cons a b => rw [a.str_inv, DtAll.strs_inv b]; rfl
/-- sep.join(..) -/
theorem ev_join (h1 : EV G to σ L C E1) (h2 : EV G te σ L C E2) : EV G (tM1 (fun x xs H Q => ∃ (a : Str) (p : Addr), ∃ ys : List Str, x = .str a ∧ xs = [.ref p] ∧ (SqL G.K H p (ys.map V.str) ∨ SqT G.K H p (ys.map V.str)) ∧
      (ys.map (·.length)).sum + ys.length * a.length ≤ 16777216 ∧ Q (.str (Txt.join a ys)) H) to te) σ L C (SM.join E1 E2) := by
  intro m F L' H Q s w q b
  refine h1 m F L' H _ s w (fun x m1 v H1 e1 w1 => ?_) b.fst
  have b1 := b.snd e1
  cases x with
  | str a =>
    have w1' := w1
    obtain ⟨B, wb⟩ := w1'
    have hva : v = .str a := (wb.ft _ (.head _)).str_inv
    subst hva
    have er1 : SM.join E1 E2 m = bd E2 (fun y => of (joinD a y)) m1 := bd_ok e1
    have b1' : Bk G C F L' (bd E2 (fun y => of (joinD a y)) m1) := b1
    refine ⟨⟨a, rfl⟩, h2 m1 F ((.str a, .str a) :: L') H1 _ (fun f hf => .tail _ (s f hf)) w1 (fun y m2 u H2 e2 w2 => ?_) (b1'.fst.mono fun f hf => .tail _ hf)⟩
    have b2 := b1'.snd e2
    have er2 : SM.join E1 E2 m = of (joinD a y) m2 := by rw [er1, bd_ok e2]
    cases y with
    | list ds =>
      cases es : strsD ds with
      | none =>
        have : joinD a (.list ds) = none := by simp only [joinD, es]
        rw [this] at b2
        exact absurd rfl b2.2
      | some ys =>
        by_cases c : (ys.map (·.length)).sum + ys.length * a.length ≤ 16777216
        · have ej : joinD a (.list ds) = some (.str (joinS a ys)) := by simp only [joinD, es]; rw [if_pos c]
          obtain ⟨B2, wb2⟩ := w2
          obtain ⟨p, xs, rfl, hl, ha⟩ := Dt.lst_inv (wb2.ft _ (.head _))
          rw [strsD_map es] at ha
          have := DtAll.strs_inv ha
          subst this
          refine ⟨a, p, ys, rfl, rfl, .inl hl.sq, c, q (.str (joinS a ys)) m2 (.str (Txt.join a ys)) H2 (by rw [er2, ej]; rfl) ⟨B2, wb2.fts fun f hf => ?_⟩⟩
          rcases List.mem_cons.mp hf with e | e
          · rw [e]; exact .str _
          · exact wb2.ft f (.tail _ (.tail _ e))
        · have : joinD a (.list ds) = none := by simp only [joinD, es]; rw [if_neg c]
          rw [this] at b2
          exact absurd rfl b2.2
    | _ => exact absurd rfl b2.2
  | _ => exact absurd rfl b1.2
/-- a walk over two lists -/
theorem iv_zipL {ta : TA} {Es : SM μ (List D)} (h : AV G ta σ L C Es) : IV G (iZip G.K ta) σ L C (itZ Es) := by
  intro m F L' H R s w q b
  refine h m F L' H _ s w (fun ds m1 vs H1 L2 e1 s2 i2 w1 => ?_) b.fst
  have b1 := b.snd e1
  cases er : zip2D ds with
  | none => rw [er] at b1; exact absurd rfl b1.2
  | some zs =>
    have hd : ∃ xs ys, ds = [.list xs, .list ys] ∧ zs = zip2L xs ys := by
      unfold zip2D at er
      split at er
      · cases er; exact ⟨_, _, rfl, rfl⟩
      · cases er
    obtain ⟨xs, ys, rfl, rfl⟩ := hd
    obtain ⟨v1, v2, rfl, hv1, hv2⟩ := i2.two
    have w1' := w1
    obtain ⟨B, wb⟩ := w1'
    obtain ⟨p1, us1, rfl, hl1, ha1⟩ := Dt.lst_inv (wb.ft _ hv1)
    obtain ⟨p2, us2, rfl, hl2, ha2⟩ := Dt.lst_inv (wb.ft _ hv2)
    refine ⟨p1, p2, us1, us2, rfl, hl1.sq, hl2.sq, q (zip2L xs ys) m1 _ H1 L2 ?_ s2 w1 ?_⟩
    · show bd Es _ m = _
      rw [bd_ok e1, er]; rfl
    · intro L3 C3 H3 s3 w3 i
      have w3' := w3
      obtain ⟨B3, wb3⟩ := w3'
      obtain ⟨p1', us1', e1', hl1', ha1'⟩ := Dt.lst_inv (wb3.ft _ (s3 _ hv1))
      obtain ⟨p2', us2', e2', hl2', ha2'⟩ := Dt.lst_inv (wb3.ft _ (s3 _ hv2))
      cases e1'
      cases e2'
      have el1 := ha1'.len
      have el2 := ha2'.len
      refine ⟨fun z hz => ?_, fun hi => ?_⟩
      · obtain ⟨x, y, hx, hy, rfl⟩ := zip2_get hz
        obtain ⟨a, ha, hda⟩ := ha1'.get hx
        obtain ⟨c, hc, hdc⟩ := ha2'.get hy
        refine ⟨⟨us1', us2', a, c, hl1'.sq, hl2'.sq, ha, hc⟩, fun u H' y => ?_⟩
        obtain ⟨T, a', c', rfl, hT, rfl, f1, f2⟩ := y
        have q1 := f1 _ hl1'.sq
        have q2 := f2 _ hl2'.sq
        rw [ha] at q1
        rw [hc] at q2
        cases q1
        cases q2
        exact Wb.tupD wb3 hT (.cons hda (.cons hdc .nil))
      · rw [zip2_len] at hi
        exact ⟨us1', us2', hl1'.sq, hl2'.sq, by omega⟩
def TxtP (t : TE) (σ : L2.St) (H : Hp) : Prop := ∀ Q : VK, (∀ y : Str, y.length ≤ 1921 → Q (.str y) H) → t σ H Q
inductive TxtAll (σ : L2.St) (H : Hp) : List TE → Prop
  | nil : TxtAll σ H []
  | cons {t : TE} {ts : List TE} (h : TxtP t σ H) (r : TxtAll σ H ts) : TxtAll σ H (t :: ts)
theorem txt_c {x : Str} (h : x.length ≤ 1921) : TxtP (tC (.str x)) σ H := fun Q q => q x h
theorem txt_f {n : Int} (hv : σ[i]? = some (some (.int n))) (hn : n.natAbs.log2 < 1900) : TxtP (tFmt (tVar i)) σ H := fun Q q => ⟨.int n, hv, .inr ⟨n, rfl, by omega, q _ (PyProof.Rows.int_text_len_1921 (by omega))⟩⟩
theorem tjs_ok {ts : List TE} (h : TxtAll σ H ts) : ∀ (acc : Str) (Q : Str → Hp → Prop), acc.length + 1921 * ts.length ≤ 1000000 → (∀ out, Q out H) → tJs ts acc σ H Q := by
  induction h with
  | nil => intro acc Q _ q; exact q acc
  | @cons t ts h r ih =>
    intro acc Q hl q
    rw [List.length_cons] at hl
    refine h _ fun y hy => ⟨y, rfl, ?_, ih (acc ++ y) Q ?_ q⟩
    · refine Nat.le_trans ?_ (show 1000000 ≤ sizeLine by decide)
      rw [show (acc ++ y).length = acc.length + y.length from Array.size_append ..]
      omega
    · rw [show (acc ++ y).length = acc.length + y.length from Array.size_append ..]
      omega
theorem xinit2 {N : List Str} {ts : List TE} {Cc a : Addr} {f g : Str} {flds : List Str} {n0 n1 : Int} {Q : VK} (T : OexC K Cc) (hf : PySem.W.findIn K (.ref Cc) f = some none) (hg : PySem.W.findIn K (.ref Cc) g = some none) (ea : H a = some (exo a Cc none)) (ht : TxtAll (start N [.ref a, .int n0, .int n1]) H ts) (hfl : flds = [f, g] ∧ ts.length ≤ 8)
    (q : ∀ dx H', H dx = none → dx ≠ a → H' a = some (exo a Cc (some dx)) → H' dx = some (exd dx ((flds.zip ([n0, n1].map V.int)).reverse)) → (∀ p, p ≠ a → p ≠ dx → H' p = H p) → Q .non H') :
    (tSeq (tDrop (tVeI K (tCons (tVar 0) (tCons (fun σ H Q => tJs ts Str.empty σ H fun out H1 => Q (.str out) H1) tNil)))) (tSeq (tOst K f (tVar 0) (tVar 1)) (tSeq (tOst K g (tVar 0) (tVar 2)) tNext))) { nx := fun _ H' => Q .non H', rt := Q } (start N [.ref a, .int n0, .int n1]) H := by
  obtain ⟨rfl, hl⟩ := hfl
  refine ⟨.ref a, rfl, tjs_ok ht Str.empty _ (by rw [show Str.empty.length = 0 from rfl]; omega) fun out => ⟨a, Cc, [.str out], rfl, by simp, T, ea, ?_⟩⟩
  refine ⟨.int n0, rfl, .ref a, rfl, a, Cc, rfl, T, hf, .inl ⟨ea, fun dx hdx hne => ?_⟩⟩
  refine ⟨.int n1, rfl, .ref a, rfl, a, Cc, rfl, T, hg, .inr ⟨dx, [(f, .int n0)], upd_same, by rw [upd_ne hne]; exact upd_same, by simp, ?_⟩⟩
  refine q dx _ hdx hne ?_ upd_same fun p h1 h2 => ?_
  · rw [upd_ne (Ne.symm hne)]; exact upd_same
  · rw [upd_ne h2, upd_ne h1, upd_ne h2]
end
theorem roomH_mk {j k : Nat} {A : Around} {h : Option Value} (r : Room k A) (hj : j ≤ k) : L2H.RoomH j (A.mark h) := L2H.RoomH.mono (⟨r.dp, r.un⟩ : L2H.RoomH k (A.mark h)) hj
/-- isinstance's answer for own classes -/
theorem kit_ref {K : PySem.W.Frag} {C T : Addr} {b : Bool} (hd : PySem.W.hasDictIn K T = true) (ht : PySem.W.typeIn K (.ref T) = some (.type "type")) (hs : PySem.W.subIn K (.ref C) (.ref C) = some true) (h : PySem.W.subIn K (.ref C) (.ref T) = some b) : PySem.W.kitOne K (.ref C) (.ref T) = some b := by
  unfold PySem.W.kitOne
  by_cases e : C = T
  · subst e
    rw [if_pos (beq_self_eq_true _), ← hs, h]
  · rw [if_neg (by simpa using e)]
    obtain ⟨cd, hc, _⟩ := PySem.W.any_some hd
    have e2 : ((PySem.W.clsIn K T).isSome && PySem.W.typeIn K (.ref T) == some (.type "type")) = true := by rw [hc, ht] <;> rfl
    show (if ((PySem.W.clsIn K T).isSome && PySem.W.typeIn K (.ref T) == some (.type "type")) = true then PySem.W.subIn K (.ref C) (.ref T) else none) = some b
    rw [if_pos e2]
    exact h
theorem kit_VE {K : PySem.W.Frag} {C : Addr} (h : PySem.W.subIn K (.ref C) (.type "ValueError") = some true) : PySem.W.kitOne K (.ref C) (.type "ValueError") = some true := by
  unfold PySem.W.kitOne
  rw [if_neg (show ¬ ((Value.ref C == Value.type "ValueError") = true) from Bool.false_ne_true)]
  show (if PySem.W.kitMeta "ValueError" = true then PySem.W.subIn K (.ref C) (.type "ValueError") else none) = some true
  rw [if_pos (by decide +kernel)]
  exact h
namespace SM
end SM
open SM
def m_upper_ends (kind : D) (least : D) (greatest : D) (more : D) (parts : D) : SM Unit D := fin
  ((bd (pu kind) fun t2 => (unp2 t2 fun base' most =>
  (bd (op2 shlD (op2 subD (pu base') (pu (.int 1))) (pu more)) fun unit =>
  (bd (op2 subD (pu most) (op2 mulD (pu most) (op2 subD (pu base') (pu (.int 1))))) fun first =>
  (bd (SM.lc (itR3 (ac (pu first) (ac (op2 addD (pu first) (op2 mulD (op2 mulD (pu (.int 2)) (pu most)) (op2 subD (pu base') (pu (.int 1))))) (ac (op2 subD (pu base') (pu (.int 1))) a0)))) (fun slope => (pu true)) (fun slope => (op2 fdivD (op2 shlD (op2 mulD (pu slope) (eif (SM.tb (op2 gtD (pu slope) (pu (.int 0)))) (pu least) (pu greatest))) (pu parts)) (pu unit)))) fun x => pu (.rt x)))))) : SM Unit (Fl Unit Empty))
def m_spans_between (kind : D) (starts : D) (stops : D) : SM Unit D := fin
  ((bd (op2 idxD (pu kind) (pu (.int 1))) fun most =>
  (bd (lz (ac (op1 negD (pu most)) (ac (op2 addD (pu most) (pu (.int 1))) a0)) (pu starts) (pu stops)) fun x => pu (.rt x))) : SM Unit (Fl Unit Empty))
def m_bare_look (spans : D) : SM Unit D := fin
  ((bd (op2 subD (op2 idxD (op2 idxD (pu spans) (pu (.int 0))) (pu (.int 1))) (pu (.int 1))) fun reached =>
  (sq (bd (itS (pu spans)) fun xs => forS xs reached fun z (s2 : D) =>
  (unp3 z fun figure start stop =>
  (bd (SM.tb (op2 gtD (pu start) (op2 addD (pu s2) (pu (.int 1))))) fun c => if c then
  (bd (op2 addD (pu s2) (pu (.int 1))) fun x => pu (.rt x))
  else
  (bd (opL maxD (ac (pu s2) (ac (pu stop) a0))) fun reached1 =>
  (pu (.nx reached1)))))) fun s2 =>
  (bd (pu PyData.none) fun x => pu (.rt x)))) : SM Unit (Fl Unit Empty))
def m_first_bare (sheet : D) : SM Unit D := fin
  ((sq (bd (itS (pu sheet)) fun xs => forS xs () fun z (s1 : Unit) =>
  (unp2 z fun top spans =>
  (bd (cP (u1 m_bare_look) (ac (pu spans) a0)) fun look =>
  (bd (SM.tb (op2 isntD (pu look) (pu PyData.none))) fun c => if c then
  (bd (opL tupD (ac (pu top) (ac (pu look) a0))) fun x => pu (.rt x))
  else
  (pu (.nx ())))))) fun s1 =>
  (bd (pu PyData.none) fun x => pu (.rt x))) : SM Unit (Fl Unit Empty))
def m_refuse_bare (sheet : D) : SM Unit D := fin
  ((bd (cP (u1 m_first_bare) (ac (pu sheet) a0)) fun cell =>
  (bd (SM.tb (op2 isntD (pu cell) (pu PyData.none))) fun c => if c then
  (bd (ac (op2 idxD (pu cell) (pu (.int 0))) (ac (op2 idxD (pu cell) (pu (.int 1))) a0)) fun xs => bd (of (mkX "NoTable" xs)) fun e => SM.raise e)
  else
  (pu (.nx ())))) : SM Unit (Fl Unit Empty))
def m_plain_row (half : D) (spans : D) : SM Unit D := fin
  ((bd (op2 repD (opL lstD (ac (pu PyData.none) a0)) (op2 addD (op2 idxD (op2 idxD (pu spans) (pu (.int 0))) (pu (.int 1))) (pu half))) fun row =>
  (sq (bd (itE (ac (pu spans) a0)) fun xs => forS xs row fun z (s3 : D) =>
  (unp2 z fun at' d13 =>
  (unp3 d13 fun figure start stop =>
  (bd (eif (SM.tb (op2 ltD (pu figure) (pu (.int 0)))) (op2 subD (op2 idxD (op2 idxD (pu spans) (op2 addD (pu at') (pu (.int 1)))) (pu (.int 1))) (pu (.int 1))) (pu stop)) fun end' =>
  (bd (bd (op2 mulD (opL lstD (ac (pu figure) a0)) (op2 subD (op2 addD (op2 addD (pu end') (pu (.int 1))) (pu half)) (of (lenD [s3])))) fun x => of (extD s3 x)) fun row1 =>
  (pu (.nx row1))))))) fun s3 =>
  (bd (bd (op2 mulD (opL lstD (ac (pu PyData.none) a0)) (op2 subD (op2 mulD (pu (.int 2)) (pu half)) (of (lenD [s3])))) fun x => of (extD s3 x)) fun row2 =>
  (bd (pu row2) fun x => pu (.rt x))))) : SM Unit (Fl Unit Empty))
def m_plain_rows (half : D) (sheet : D) : SM Unit D := fin
  ((bd (cPX (u1 m_refuse_bare) (ac (pu sheet) a0)) fun _ =>
  (bd (SM.lc (itS (pu sheet)) (fun z => unp2 z fun top spans => (pu true)) (fun z => unp2 z fun top spans => (cP (u2 m_plain_row) (ac (pu half) (ac (pu spans) a0))))) fun x => pu (.rt x))) : SM Unit (Fl Unit Empty))
def m_is_right (half : D) (spans : D) (row : D) : SM Unit D := fin
  ((bd (pu (.int 0)) fun right' =>
  (sq (bd (itS (pu spans)) fun xs => forS xs right' fun z (s2 : D) =>
  (unp3 z fun figure start stop =>
  (bd (SM.tb (op2 leD (pu start) (pu stop))) fun c => if c then
  (bd (op2 addI (pu s2) (cnt2 (SM.slice (pu row) (SM.part (op2 addD (pu start) (pu half))) (SM.part (op2 addD (op2 addD (pu stop) (pu half)) (pu (.int 1))))) (pu figure))) fun right'1 =>
  (pu (.nx right'1)))
  else
  (pu (.nx s2))))) fun s2 =>
  (bd (op2 eqD (pu s2) (op2 addD (op2 subD (op2 idxD (op2 idxD (pu spans) (op1 negD (pu (.int 1)))) (pu (.int 2))) (op2 idxD (op2 idxD (pu spans) (pu (.int 0))) (pu (.int 1)))) (pu (.int 1)))) fun x => pu (.rt x)))) : SM Unit (Fl Unit Empty))
def m_wrong_looks (half : D) (spans : D) (row : D) : SM Unit D := fin
  ((bd (opL lstD a0) fun looks =>
  (bd (op2 idxD (op2 idxD (pu spans) (op1 negD (pu (.int 1)))) (pu (.int 0))) fun most =>
  (bd (ac (op2 idxD (op2 idxD (pu spans) (pu (.int 0))) (pu (.int 1))) (ac (op2 idxD (op2 idxD (pu spans) (op1 negD (pu (.int 1)))) (pu (.int 2))) a0)) fun t => par2 t fun first last =>
  (sq (bd (itES (ac (SM.slice (pu row) (SM.part (op2 addD (pu first) (pu half))) (SM.part (op2 addD (op2 addD (pu last) (pu half)) (pu (.int 1))))) a0) (ac (pu first) a0)) fun xs => forS xs looks fun z (s6 : D) =>
  (unp2 z fun look figure =>
  (bd (tor (SM.tb (op2 isD (pu figure) (pu PyData.none))) (tnot (SM.tb (SM.chain leD leD (op2 idxD (op2 idxD (pu spans) (op2 addD (pu figure) (pu most))) (pu (.int 1))) (pu look) (op2 idxD (op2 idxD (pu spans) (op2 addD (pu figure) (pu most))) (pu (.int 2))))))) fun c => if c then
  (bd (bd (pu look) fun x => of (appD s6 x)) fun looks1 =>
  (pu (.nx looks1)))
  else
  (pu (.nx s6))))) fun s6 =>
  (bd (pu s6) fun x => pu (.rt x)))))) : SM Unit (Fl Unit Empty))
def m_first_wrong (half : D) (sheet : D) (table : D) : SM Unit D := fin
  ((sq (bd (itZ (ac (pu sheet) (ac (pu table) a0))) fun xs => forS xs () fun z (s1 : Unit) =>
  (unp2 z fun d9 row =>
  (unp2 d9 fun top spans =>
  (bd (tnot (SM.tr (cP (u3 m_is_right) (ac (pu half) (ac (pu spans) (ac (pu row) a0)))))) fun c => if c then
  (bd (opL tupD (ac (pu top) (ac (op2 idxD (cP (u3 m_wrong_looks) (ac (pu half) (ac (pu spans) (ac (pu row) a0)))) (pu (.int 0))) a0))) fun x => pu (.rt x))
  else
  (pu (.nx ())))))) fun s1 =>
  (bd (pu PyData.none) fun x => pu (.rt x))) : SM Unit (Fl Unit Empty))
def m_half_of (kind : D) (looks : D) : SM Unit D := fin
  ((bd (op2 addD (op2 shlD (op2 idxD (pu kind) (pu (.int 0))) (op2 idxD (pu looks) (pu (.int 1)))) (pu (.int 2))) fun x => pu (.rt x)) : SM Unit (Fl Unit Empty))
def m_first_top (looks : D) : SM Unit D := fin
  ((bd (op2 shlD (pu (.int 1)) (op2 subD (op2 idxD (pu looks) (pu (.int 0))) (pu (.int 1)))) fun x => pu (.rt x)) : SM Unit (Fl Unit Empty))
def m_tops_of (looks : D) : SM Unit D := fin
  ((bd (cP (u1 m_first_top) (ac (pu looks) a0)) fun first =>
  (bd (opL lrg (ac (pu first) (ac (op2 mulD (pu (.int 2)) (pu first)) a0))) fun x => pu (.rt x))) : SM Unit (Fl Unit Empty))
def m_ends_of_top (looks : D) (fresh : D) (top : D) : SM Unit D := fin
  ((bd (op2 shlD (pu (.int 1)) (op2 idxD (pu looks) (pu (.int 0)))) fun aside =>
  (bd (opL tupD (ac (op2 subD (op2 shlD (pu top) (pu fresh)) (pu aside)) (ac (op2 addD (op2 shlD (op2 addD (pu top) (pu (.int 1))) (pu fresh)) (pu aside)) a0))) fun x => pu (.rt x))) : SM Unit (Fl Unit Empty))
def m_curved (kind : D) (looks : D) (fresh : D) (slope : D) (x : D) : SM Unit D := fin
  ((bd (op2 idxD (pu kind) (pu (.int 0))) fun base' =>
  (bd (pu looks) fun t3 => (unp2 t3 fun tops parts =>
  (bd (op2 mulD (pu slope) (op2 addD (op2 mulD (op2 mulD (op2 mulD (pu (.int 2)) (pu base')) (op2 subD (pu base') (pu (.int 1)))) (pu x)) (op2 shlD (pu slope) (pu tops)))) fun upper =>
  (bd (opL tupD (ac (op2 shlD (pu upper) (pu parts)) (ac (op2 shlD (op2 mulD (op2 mulD (pu base') (op2 subD (pu base') (pu (.int 1)))) (op2 subD (pu base') (pu (.int 1)))) (op2 addD (op2 addD (pu tops) (pu fresh)) (pu (.int 1)))) a0))) fun x => pu (.rt x)))))) : SM Unit (Fl Unit Empty))
def m_start_of (kind : D) (looks : D) (fresh : D) (ends : D) (figure : D) : SM Unit D := fin
  ((bd (pu kind) fun t2 => (unp2 t2 fun base' most =>
  (bd (op2 subD (op2 mulD (pu figure) (op2 subD (pu base') (pu (.int 1)))) (pu most)) fun slope =>
  (bd (cP (u5 m_curved) (ac (pu kind) (ac (pu looks) (ac (pu fresh) (ac (pu slope) (ac (eif (SM.tb (op2 gtD (pu slope) (pu (.int 0)))) (op2 idxD (pu ends) (pu (.int 1))) (op2 idxD (pu ends) (pu (.int 0)))) a0)))))) fun t9 => (unp2 t9 fun upper lower =>
  (bd (op1 negD (op2 fdivD (op1 negD (pu upper)) (pu lower))) fun x => pu (.rt x))))))) : SM Unit (Fl Unit Empty))
def m_asked_bounds (kind : D) (looks : D) (fresh : D) (ends : D) : SM Unit D := fin
  ((bd (pu kind) fun t2 => (unp2 t2 fun base' most =>
  (bd (pu looks) fun t8 => (unp2 t8 fun tops parts =>
  (bd (op2 idxD (pu ends) (pu (.int 1))) fun greatest =>
  (bd (cP (u5 m_curved) (ac (pu kind) (ac (pu looks) (ac (pu fresh) (ac (op2 mulD (pu base') (pu most)) (ac (pu greatest) a0)))))) fun t15 => (unp2 t15 fun upper lower =>
  (bd (op2 fdivD (op2 shlD (op2 mulD (op2 mulD (pu base') (pu most)) (pu greatest)) (pu parts)) (op2 shlD (op2 subD (pu base') (pu (.int 1))) (op2 addD (pu tops) (pu fresh)))) fun lowest =>
  (bd (cP (u2 m_half_of) (ac (pu kind) (ac (pu looks) a0))) fun half =>
  (bd (opL tupD (ac (opL maxD (ac (op1 negD (pu half)) (ac (op2 subD (op1 negD (pu lowest)) (pu (.int 1))) a0))) (ac (opL minD (ac (op2 subD (pu half) (pu (.int 1))) (ac (op2 fdivD (pu upper) (pu lower)) a0))) a0))) fun x => pu (.rt x))))))))))) : SM Unit (Fl Unit Empty))
def m_root_spans (kind : D) (looks : D) (fresh : D) (top : D) : SM Unit D := fin
  ((bd (op2 idxD (pu kind) (pu (.int 1))) fun most =>
  (bd (pu looks) fun t3 => (unp2 t3 fun tops parts =>
  (bd (cP (u3 m_ends_of_top) (ac (pu looks) (ac (pu fresh) (ac (pu top) a0)))) fun ends =>
  (bd (cP (u4 m_asked_bounds) (ac (pu kind) (ac (pu looks) (ac (pu fresh) (ac (pu ends) a0))))) fun t10 => (unp2 t10 fun first last =>
  (bd (SM.lc (itR (ac (op2 subD (pu (.int 1)) (pu most)) (ac (op2 addD (pu most) (pu (.int 1))) a0))) (fun figure => (pu true)) (fun figure => (cP (u5 m_start_of) (ac (pu kind) (ac (pu looks) (ac (pu fresh) (ac (pu ends) (ac (pu figure) a0)))))))) fun starts =>
  (bd (SM.lc (itS (cP (u5 m_upper_ends) (ac (pu kind) (ac (op2 idxD (pu ends) (pu (.int 0))) (ac (op2 idxD (pu ends) (pu (.int 1))) (ac (op2 addD (pu tops) (pu fresh)) (ac (pu parts) a0))))))) (fun end' => (pu true)) (fun end' => (op2 subD (pu end') (pu (.int 1))))) fun stops =>
  (bd (cP (u3 m_spans_between) (ac (pu kind) (ac (op2 addD (opL lstD (ac (pu first) a0)) (pu starts)) (ac (op2 addD (pu stops) (opL lstD (ac (pu last) a0))) a0)))) fun x => pu (.rt x)))))))))) : SM Unit (Fl Unit Empty))
def m_root_sheet (kind : D) (looks : D) (fresh : D) : SM Unit D := fin
  ((bd (SM.lc (itS (cP (u1 m_tops_of) (ac (pu looks) a0))) (fun top => (pu true)) (fun top => (opL tupD (ac (pu top) (ac (cP (u4 m_root_spans) (ac (pu kind) (ac (pu looks) (ac (pu fresh) (ac (pu top) a0))))) a0))))) fun x => pu (.rt x)) : SM Unit (Fl Unit Empty))
def m_first_root_fault (kind : D) (looks : D) (fresh : D) (table : D) : SM Unit D := fin
  ((bd (cP (u3 m_first_wrong) (ac (cP (u2 m_half_of) (ac (pu kind) (ac (pu looks) a0))) (ac (cP (u3 m_root_sheet) (ac (pu kind) (ac (pu looks) (ac (pu fresh) a0)))) (ac (pu table) a0)))) fun x => pu (.rt x)) : SM Unit (Fl Unit Empty))
def m_root_table (kind : D) (looks : D) (fresh : D) : SM Unit D := fin
  ((bd (cPX (u2 m_plain_rows) (ac (cP (u2 m_half_of) (ac (pu kind) (ac (pu looks) a0))) (ac (cP (u3 m_root_sheet) (ac (pu kind) (ac (pu looks) (ac (pu fresh) a0)))) a0))) fun x => pu (.rt x)) : SM Unit (Fl Unit Empty))
def m__law_deck (cell : D) (turn : D) : SM Unit D := fin
  ((bd (SM.tb (op2 geD (pu cell) (op2 powD (pu (.int 10)) (pu (.int 18))))) fun c => if c then
  (bd (opL lstD (ac (op2 subD (pu cell) (op2 powD (pu (.int 10)) (pu (.int 18)))) (ac (op2 modD (pu cell) (pu (.int 2147483579))) (ac (pu turn) a0)))) fun x => pu (.rt x))
  else
  (bd (opL lstD (ac (pu (.int 0)) (ac (op2 modD (pu cell) (pu (.int 2147483579))) (ac (pu turn) a0)))) fun x => pu (.rt x))) : SM Unit (Fl Unit Empty))
def m__law_pick (many : D) : SM D D := fin
  ((bd (SM.tb (op2 gtD (bd (pu (.int 0)) fun x => bd gets fun m => of (idxD m x)) (pu (.int 1)))) fun c => if c then
  (bd (op2 modD (bd (pu (.int 0)) fun x => bd gets fun m => of (idxD m x)) (pu many)) fun found =>
  (bd (bd (op2 fdivD (bd (pu (.int 0)) fun x => bd gets fun m => of (idxD m x)) (pu many)) fun y => bd (pu (.int 0)) fun x => bd gets fun m => bd (of (setD m x y)) fun m' => puts m') fun _ =>
  (bd (pu found) fun x => pu (.rt x))))
  else
  (bd (bd (op2 addD (bd (pu (.int 2)) fun x => bd gets fun m => of (idxD m x)) (pu (.int 1))) fun y => bd (pu (.int 2)) fun x => bd gets fun m => bd (of (setD m x y)) fun m' => puts m') fun _ =>
  (bd (op2 modD (op2 powD (op2 addD (bd (pu (.int 1)) fun x => bd gets fun m => of (idxD m x)) (op2 mulD (pu (.int 15485867)) (bd (pu (.int 2)) fun x => bd gets fun m => of (idxD m x)))) (pu (.int 5))) (pu (.int 2147483647))) fun number =>
  (bd (op2 fdivD (op2 modD (op2 powD (op2 addD (pu number) (op2 mulD (pu (.int 7919)) (bd (pu (.int 2)) fun x => bd gets fun m => of (idxD m x)))) (pu (.int 3))) (pu (.int 2147483629))) (pu (.int 32))) fun found1 =>
  (bd (SM.tb (op2 gtD (pu many) (pu (.int 1000000)))) fun c => if c then
  (bd (op2 modD (op2 addD (op2 mulD (pu found1) (pu (.int 2147483563))) (pu number)) (pu many)) fun x => pu (.rt x))
  else
  (bd (op2 modD (pu found1) (pu many)) fun x => pu (.rt x))))))) : SM D (Fl Unit Empty))
def m__law_half (kind : D) (looks : D) : SM Unit D := fin
  ((bd (op2 addD (op2 mulD (op2 idxD (pu kind) (pu (.int 0))) (op2 idxD (opL lstD (ac (pu (.int 1)) (ac (pu (.int 2)) (ac (pu (.int 4)) (ac (pu (.int 8)) (ac (pu (.int 16)) (ac (pu (.int 32)) (ac (pu (.int 64)) (ac (pu (.int 128)) (ac (pu (.int 256)) (ac (pu (.int 512)) (ac (pu (.int 1024)) a0)))))))))))) (op2 idxD (pu looks) (pu (.int 1))))) (pu (.int 2))) fun x => pu (.rt x)) : SM Unit (Fl Unit Empty))
def m__law_sides (kind : D) (looks : D) (fresh : D) (cell : D) : SM Unit D := fin
  ((bd (pu looks) fun t2 => (unp2 t2 fun tops parts =>
  (bd (op2 shlD (pu (.int 1)) (op2 addD (pu tops) (pu parts))) fun whole =>
  (bd (op2 mulD (pu (.int 2)) (op2 idxD (pu kind) (pu (.int 0)))) fun unit =>
  (bd (op2 subD (op2 shlD (op2 idxD (pu cell) (pu (.int 0))) (op2 addD (pu parts) (pu fresh))) (pu whole)) fun first =>
  (bd (op2 addD (op2 shlD (op2 addD (op2 idxD (pu cell) (pu (.int 0))) (pu (.int 1))) (op2 addD (pu parts) (pu fresh))) (pu whole)) fun last =>
  (bd (opL lstD (ac (op2 mulD (pu unit) (pu first)) (ac (op2 mulD (pu unit) (pu last)) (ac (op2 shlD (op2 mulD (pu unit) (op2 idxD (pu cell) (pu (.int 1)))) (op2 addD (pu tops) (pu fresh))) (ac (op2 shlD (op2 mulD (pu unit) (op2 addD (op2 idxD (pu cell) (pu (.int 1))) (pu (.int 1)))) (op2 addD (pu tops) (pu fresh))) (ac (pu whole) a0)))))) fun x => pu (.rt x)))))))) : SM Unit (Fl Unit Empty))
def m__law_cut (places : D) (x : D) (y : D) (w' : D) : SM Unit D := fin
  ((bd (opL lstD a0) fun found =>
  (sq (bd (itR (ac (opL lenD (ac (pu places) a0)) a0)) fun xs => forS xs found fun k (s3 : D) =>
  (bd (op2 idxD (pu places) (op2 subD (pu k) (pu (.int 1)))) fun one =>
  (bd (op2 idxD (pu places) (pu k)) fun other =>
  (bd (op2 addD (op2 addD (op2 mulD (pu x) (op2 idxD (pu one) (pu (.int 0)))) (op2 mulD (pu y) (op2 idxD (pu one) (pu (.int 1))))) (op2 mulD (pu w') (op2 idxD (pu one) (pu (.int 2))))) fun here =>
  (bd (op2 addD (op2 addD (op2 mulD (pu x) (op2 idxD (pu other) (pu (.int 0)))) (op2 mulD (pu y) (op2 idxD (pu other) (pu (.int 1))))) (op2 mulD (pu w') (op2 idxD (pu other) (pu (.int 2))))) fun there =>
  (sq (bd (tor (tand (SM.tb (SM.chain ltD leD (pu here) (pu (.int 0)) (pu there))) (SM.tb (op2 gtD (pu there) (pu (.int 0))))) (SM.tb (SM.chain ltD ltD (pu there) (pu (.int 0)) (pu here)))) fun c => if c then
  (bd (opL maxD (ac (pu here) (ac (op2 subD (pu (.int 0)) (pu here)) a0))) fun share =>
  (bd (opL maxD (ac (pu there) (ac (op2 subD (pu (.int 0)) (pu there)) a0))) fun rest =>
  (bd (bd (opL tupleD (ac (SM.lc (itR (ac (pu (.int 3)) a0)) (fun j => (pu true)) (fun j => (op2 addD (op2 mulD (pu rest) (op2 idxD (pu one) (pu j))) (op2 mulD (pu share) (op2 idxD (pu other) (pu j)))))) a0)) fun x => of (appD s3 x)) fun found1 =>
  (pu (.nx found1)))))
  else
  (pu (.nx s3))) fun s17 =>
  (bd (SM.tb (op2 geD (pu there) (pu (.int 0)))) fun c => if c then
  (bd (bd (pu other) fun x => of (appD s17 x)) fun found2 =>
  (pu (.nx found2)))
  else
  (pu (.nx s17))))))))) fun s3 =>
  (bd (pu s3) fun x => pu (.rt x)))) : SM Unit (Fl Unit Empty))
def m__law_places (kind : D) (looks : D) (fresh : D) (cell : D) : SM Unit D := fin
  ((bd (cP (u4 m__law_sides) (ac (pu kind) (ac (pu looks) (ac (pu fresh) (ac (pu cell) a0))))) fun t2 => (unq5 t2 fun left' right' low high z =>
  (bd (op2 subD (op2 idxD (pu kind) (pu (.int 0))) (pu (.int 1))) fun less =>
  (bd (op2 mulD (op2 idxD (pu kind) (pu (.int 0))) (op2 idxD (pu kind) (pu (.int 1)))) fun most =>
  (bd (opL lstD (ac (opL tupD (ac (pu left') (ac (pu low) (ac (pu (.int 1)) a0)))) (ac (opL tupD (ac (pu right') (ac (pu low) (ac (pu (.int 1)) a0)))) (ac (opL tupD (ac (pu right') (ac (pu high) (ac (pu (.int 1)) a0)))) (ac (opL tupD (ac (pu left') (ac (pu high) (ac (pu (.int 1)) a0)))) a0))))) fun ring =>
  (bd (cP (u4 m__law_cut) (ac (pu ring) (ac (pu most) (ac (pu less) (ac (pu (.int 0)) a0))))) fun ring1 =>
  (bd (cP (u4 m__law_cut) (ac (pu ring1) (ac (op2 mulD (pu most) (pu less)) (ac (op2 subD (pu (.int 0)) (op2 mulD (pu less) (pu less))) (ac (op2 mulD (op2 mulD (pu most) (pu most)) (pu z)) a0))))) fun x => pu (.rt x)))))))) : SM Unit (Fl Unit Empty))
def m__law_root_good (kind : D) (looks : D) (fresh : D) (cell : D) : SM Unit D := fin
  ((bd (cP (u4 m__law_places) (ac (pu kind) (ac (pu looks) (ac (pu fresh) (ac (pu cell) a0))))) fun ring =>
  (bd (SM.tb (op2 eqD (pu ring) (opL lstD a0))) fun c => if c then
  (bd (pu PyData.none) fun x => pu (.rt x))
  else
  (bd (op2 idxD (cP (u4 m__law_sides) (ac (pu kind) (ac (pu looks) (ac (pu fresh) (ac (pu cell) a0))))) (pu (.int 4))) fun z =>
  (bd (op2 subD (op2 idxD (pu kind) (pu (.int 0))) (pu (.int 1))) fun less =>
  (bd (opL lstD a0) fun found =>
  (sq (bd (itR (ac (op2 subD (pu (.int 0)) (op2 idxD (pu kind) (pu (.int 1)))) (ac (op2 addD (op2 idxD (pu kind) (pu (.int 1))) (pu (.int 1))) a0))) fun xs => forS xs found fun figure (s6 : D) =>
  (bd (op2 addD (op2 mulD (pu figure) (pu less)) (op2 idxD (pu kind) (pu (.int 1)))) fun upper =>
  (bd (op2 subD (op2 mulD (pu figure) (pu less)) (op2 idxD (pu kind) (pu (.int 1)))) fun lower =>
  (bd (pu (.bool true)) fun good =>
  (sq (bd (itS (pu ring)) fun xs => forS xs good fun z2 (s20 : D) =>
  (unp3 z2 fun x y w' =>
  (sq (bd (tand (SM.tb (op2 neD (pu figure) (op2 idxD (pu kind) (pu (.int 1))))) (SM.tb (op2 gtD (op2 mulD (pu less) (pu y)) (op2 mulD (pu upper) (pu x))))) fun c => if c then
  (bd (pu (.bool false)) fun good1 =>
  (pu (.nx good1)))
  else
  (pu (.nx s20))) fun s34 =>
  (bd (op2 addD (op2 mulD (op2 mulD (pu less) (pu lower)) (pu x)) (op2 mulD (op2 mulD (op2 mulD (pu lower) (pu lower)) (pu z)) (pu w'))) fun floor =>
  (bd (tand (SM.tb (op2 neD (pu figure) (op2 subD (pu (.int 0)) (op2 idxD (pu kind) (pu (.int 1)))))) (SM.tb (op2 ltD (op2 mulD (op2 mulD (pu less) (pu less)) (pu y)) (pu floor)))) fun c => if c then
  (bd (pu (.bool false)) fun good2 =>
  (pu (.nx good2)))
  else
  (pu (.nx s34))))))) fun s20 =>
  (bd (SM.tr (pu s20)) fun c => if c then
  (bd (bd (pu figure) fun x => of (appD s6 x)) fun found1 =>
  (pu (.nx found1)))
  else
  (pu (.nx s6)))))))) fun s6 =>
  (bd (pu s6) fun x => pu (.rt x)))))))) : SM Unit (Fl Unit Empty))
def m__law_root_set : SM D D := fin
  ((bd (opL lstD (ac (opL tupD (ac (opL tupD (ac (pu (.int 2)) (ac (pu (.int 1)) a0))) (ac (opL tupD (ac (pu (.int 2)) (ac (pu (.int 2)) a0))) a0))) (ac (opL tupD (ac (opL tupD (ac (pu (.int 2)) (ac (pu (.int 1)) a0))) (ac (opL tupD (ac (pu (.int 3)) (ac (pu (.int 2)) a0))) a0))) (ac (opL tupD (ac (opL tupD (ac (pu (.int 2)) (ac (pu (.int 1)) a0))) (ac (opL tupD (ac (pu (.int 2)) (ac (pu (.int 3)) a0))) a0))) (ac (opL tupD (ac (opL tupD (ac (pu (.int 4)) (ac (pu (.int 3)) a0))) (ac (opL tupD (ac (pu (.int 4)) (ac (pu (.int 3)) a0))) a0))) (ac (opL tupD (ac (opL tupD (ac (pu (.int 4)) (ac (pu (.int 3)) a0))) (ac (opL tupD (ac (pu (.int 4)) (ac (pu (.int 4)) a0))) a0))) (ac (opL tupD (ac (opL tupD (ac (pu (.int 4)) (ac (pu (.int 3)) a0))) (ac (opL tupD (ac (pu (.int 5)) (ac (pu (.int 3)) a0))) a0))) a0))))))) fun sets =>
  (bd (op2 idxD (op2 addD (pu sets) (opL lstD (ac (opL tupD (ac (opL tupD (ac (pu (.int 4)) (ac (pu (.int 2)) a0))) (ac (opL tupD (ac (pu (.int 5)) (ac (pu (.int 5)) a0))) a0))) (ac (opL tupD (ac (opL tupD (ac (pu (.int 2)) (ac (pu (.int 1)) a0))) (ac (opL tupD (ac (pu (.int 3)) (ac (pu (.int 3)) a0))) a0))) a0)))) (cD (u1 m__law_pick) (ac (pu (.int 8)) a0))) fun t3 => (unp2 t3 fun kind looks =>
  (bd (opL maxD (ac (pu (.int 2)) (ac (op2 subD (op2 addD (op2 subD (op1 bitsD (op2 idxD (pu kind) (pu (.int 0)))) (pu (.int 1))) (op2 idxD (pu looks) (pu (.int 1)))) (pu (.int 2))) a0))) fun least =>
  (bd (opL tupD (ac (pu kind) (ac (pu looks) (ac (op2 addD (pu least) (op2 idxD (opL lstD (ac (cD (u1 m__law_pick) (ac (pu (.int 4)) a0)) (ac (op2 addD (pu (.int 3)) (cD (u1 m__law_pick) (ac (pu (.int 6)) a0))) (ac (cD (u1 m__law_pick) (ac (pu (.int 20)) a0)) a0)))) (cD (u1 m__law_pick) (ac (pu (.int 3)) a0)))) a0)))) fun x => pu (.rt x)))))) : SM D (Fl Unit Empty))
def m__law_root_table (kind : D) (looks : D) (fresh : D) (way : D) : SM D D := fin
  ((bd (cP (u2 m__law_half) (ac (pu kind) (ac (pu looks) a0))) fun half =>
  (bd (opL lstD a0) fun table =>
  (bd (pu PyData.none) fun lacks =>
  (sq (bd (itR (ac (op2 shlD (pu (.int 1)) (op2 subD (op2 idxD (pu looks) (pu (.int 0))) (pu (.int 1)))) (ac (op2 shlD (pu (.int 1)) (op2 idxD (pu looks) (pu (.int 0)))) a0))) fun xs => forS xs (lacks, table) fun top (s5 : D × D) =>
  (bd (opL lstD a0) fun row =>
  (sq (bd (itR (ac (op2 subD (pu (.int 0)) (pu half)) (ac (pu half) a0))) fun xs => forS xs (s5.1, row) fun look (s16 : D × D) =>
  (bd (cP (u4 m__law_root_good) (ac (pu kind) (ac (pu looks) (ac (pu fresh) (ac (opL tupD (ac (pu top) (ac (pu look) a0))) a0))))) fun good =>
  (bd (pu PyData.none) fun figure =>
  (sq (bd (SM.tb (op2 eqD (pu good) (opL lstD a0))) fun c => if c then
  (bd (eif (SM.tb (op2 isntD (pu s16.1) (pu PyData.none))) (pu s16.1) (opL tupD (ac (pu top) (ac (pu look) a0)))) fun lacks1 =>
  (pu (.nx (lacks1, figure))))
  else
  (bd (SM.tb (op2 isntD (pu good) (pu PyData.none))) fun c => if c then
  (bd (op2 idxD (opL lstD (ac (opL minAD (ac (pu good) a0)) (ac (op2 idxD (pu good) (cD (u1 m__law_pick) (ac (opL lenD (ac (pu good) a0)) a0))) (ac (op2 idxD (pu good) (op1 negD (pu (.int 1)))) a0)))) (pu way)) fun figure1 =>
  (pu (.nx (s16.1, figure1))))
  else
  (pu (.nx (s16.1, figure))))) fun s25 =>
  (bd (bd (pu s25.2) fun x => of (appD s16.2 x)) fun row1 =>
  (pu (.nx (s25.1, row1)))))))) fun s16 =>
  (bd (bd (pu s16.2) fun x => of (appD s5.2 x)) fun table1 =>
  (pu (.nx (s16.1, table1))))))) fun s5 =>
  (bd (opL tupD (ac (pu s5.2) (ac (pu s5.1) a0))) fun x => pu (.rt x)))))) : SM D (Fl Unit Empty))
def m__law_spoilt (kind : D) (looks : D) (table : D) : SM D D := fin
  ((bd (SM.lc (itS (pu table)) (fun row => (pu true)) (fun row => (opL listD (ac (pu row) a0)))) fun told =>
  (sq (bd (itR (ac (cD (u1 m__law_pick) (ac (pu (.int 4)) a0)) a0)) fun xs => forS xs told fun turn (s6 : D) =>
  (bd (cD (u1 m__law_pick) (ac (of (lenD [s6])) a0)) fun top =>
  (bd (cD (u1 m__law_pick) (ac (bd (pu (.int 0)) fun x => bd (of (idxD s6 x)) fun y => of (lenD [y])) a0)) fun look =>
  (bd (opL lstD (ac (pu PyData.none) (ac (op2 subD (cD (u1 m__law_pick) (ac (op2 addD (op2 mulD (pu (.int 2)) (op2 idxD (pu kind) (pu (.int 1)))) (pu (.int 1))) a0)) (op2 idxD (pu kind) (pu (.int 1)))) a0))) fun figure =>
  (bd (op2 idxD (pu figure) (opL intD (ac (op2 gtD (cD (u1 m__law_pick) (ac (pu (.int 3)) a0)) (pu (.int 0))) a0))) fun figure1 =>
  (bd (bd (pu figure1) fun z => bd (pu top) fun x => bd (of (idxD s6 x)) fun _ => bd (pu look) fun y => of (set2D s6 x y z)) fun told1 =>
  (bd (SM.tb (op2 eqD (cD (u1 m__law_pick) (ac (pu (.int 4)) a0)) (pu (.int 0)))) fun c => if c then
  (bd (bd (op2 repD (opL lstD (ac (pu figure1) a0)) (bd (pu (.int 0)) fun x => bd (of (idxD told1 x)) fun y => of (lenD [y]))) fun y => bd (pu top) fun x => of (setD told1 x y)) fun told2 =>
  (pu (.nx told2)))
  else
  (pu (.nx told1))))))))) fun s6 =>
  (bd (pu s6) fun x => pu (.rt x)))) : SM D (Fl Unit Empty))
def m__law_name_of (e : D) : SM Unit D := fin
  ((bd (opL lstD (ac (pu (.bool (isq "NoFigure" (nmX e)))) (ac (pu (.bool (isq "NoLooks" (nmX e)))) (ac (pu (.bool (isq "NoRoom" (nmX e)))) (ac (pu (.bool (isq "NoRow" (nmX e)))) a0))))) fun kinds =>
  (bd (op2 addD (pu kinds) (opL lstD (ac (pu (.bool (isq "NoTable" (nmX e)))) (ac (pu (.bool (isq "NoText" (nmX e)))) (ac (pu (.bool (isq "Spoilt" (nmX e)))) (ac (pu (.bool (isa (nmX e)))) a0)))))) fun kinds1 =>
  (bd (opL lstD (ac (pu (.str "NoFigure")) (ac (pu (.str "NoLooks")) (ac (pu (.str "NoRoom")) (ac (pu (.str "NoRow")) (ac (pu (.str "NoTable")) (ac (pu (.str "NoText")) (ac (pu (.str "Spoilt")) (ac (pu (.str "+")) a0))))))))) fun names =>
  (bd (SM.join (pu (.str "")) (SM.lc (itZ (ac (pu names) (ac (pu kinds1) a0))) (fun z => unp2 z fun name kind => (SM.tr (pu kind))) (fun z => unp2 z fun name kind => (pu name)))) fun x => pu (.rt x))))) : SM Unit (Fl Unit Empty))
def m__law_told (kind : D) (looks : D) (fresh : D) : SM Unit D := fin
  ((bd (pu PyData.none) fun told =>
  (bd (pu PyData.none) fun fault =>
  (sq (tryS (fun e => isa (nmX e)) (bd (cPX (u3 m_root_table) (ac (pu kind) (ac (pu looks) (ac (pu fresh) a0)))) fun told1 =>
  (pu (.nx (told1, fault)))) (fun e =>
  (bd (opL tupD (ac (px (m__law_name_of e)) (ac (eif (SM.tr (pu (.bool (isq "NoTable" (nmX e))))) (opL lstD (ac (opL tupD (ac (of (fldX "top" e)) (ac (of (fldX "look" e)) a0))) a0)) (opL lstD a0)) a0))) fun fault1 =>
  (pu (.nx (told, fault1)))))) fun s3 =>
  (bd (opL tupD (ac (pu s3.1) (ac (pu s3.2) a0))) fun x => pu (.rt x))))) : SM Unit (Fl Unit Empty))
def m__law_first (kind : D) (looks : D) (fresh : D) (table : D) : SM Unit D := fin
  ((bd (cP (u2 m__law_half) (ac (pu kind) (ac (pu looks) a0))) fun half =>
  (sq (bd (itR (ac (opL lenD (ac (pu table) a0)) a0)) fun xs => forS xs () fun at' (s2 : Unit) =>
  (sq (bd (itR (ac (op2 mulD (pu (.int 2)) (pu half)) a0)) fun xs => forS xs () fun k (s9 : Unit) =>
  (bd (opL tupD (ac (op2 addD (op2 shlD (pu (.int 1)) (op2 subD (op2 idxD (pu looks) (pu (.int 0))) (pu (.int 1)))) (pu at')) (ac (op2 subD (pu k) (pu half)) a0))) fun cell =>
  (bd (cP (u4 m__law_root_good) (ac (pu kind) (ac (pu looks) (ac (pu fresh) (ac (pu cell) a0))))) fun good =>
  (bd (tand (SM.tb (op2 isntD (pu good) (pu PyData.none))) (tor (SM.tb (op2 isD (op2 idxD (op2 idxD (pu table) (pu at')) (pu k)) (pu PyData.none))) (SM.tb (op2 (inD true) (op2 idxD (op2 idxD (pu table) (pu at')) (pu k)) (pu good))))) fun c => if c then
  (bd (pu cell) fun x => pu (.rt x))
  else
  (pu (.nx ())))))) fun s9 =>
  (pu (.nx ())))) fun s2 =>
  (bd (pu PyData.none) fun x => pu (.rt x)))) : SM Unit (Fl Unit Empty))
def m_law (script : D) : SM D D := fin
  ((bd (bd (cP (u2 m__law_deck) (ac (op2 idxD (op2 addD (pu script) (opL lstD (ac (pu (.int 0)) a0))) (pu (.int 0))) (ac (pu (.int 0)) a0))) fun d => puts d) fun _ =>
  (bd (cD (u0 m__law_root_set) a0) fun t4 => (unp3 t4 fun kind looks fresh =>
  (bd (cD (u4 m__law_root_table) (ac (pu kind) (ac (pu looks) (ac (pu fresh) (ac (pu (.int 0)) a0))))) fun t12 => (unp2 t12 fun due lacks =>
  (bd (cP (u3 m__law_told) (ac (pu kind) (ac (pu looks) (ac (pu fresh) a0)))) fun t18 => (unp2 t18 fun told fault =>
  (sq (bd (SM.tb (op2 isntD (pu lacks) (pu PyData.none))) fun c => if c then
  (bd (tor (SM.tb (op2 isntD (pu told) (pu PyData.none))) (SM.tb (op2 neD (pu fault) (opL tupD (ac (pu (.str "NoTable+")) (ac (opL lstD (ac (pu lacks) a0)) a0)))))) fun c => if c then
  (bd (pu (.bool false)) fun x => pu (.rt x))
  else
  (pu (.nx ())))
  else
  (bd (tor (SM.tb (op2 isntD (pu fault) (pu PyData.none))) (tor (tnot (SM.tr (op1 (isiD "list") (pu told)))) (SM.tb (op2 neD (pu told) (pu due))))) fun c => if c then
  (bd (pu (.bool false)) fun x => pu (.rt x))
  else
  (pu (.nx ())))) fun s23 =>
  (bd (cD (u4 m__law_root_table) (ac (pu kind) (ac (pu looks) (ac (pu fresh) (ac (cD (u1 m__law_pick) (ac (pu (.int 3)) a0)) a0))))) fun t25 => (unp2 t25 fun table lacks1 =>
  (sq (bd (itS (op2 addD (SM.slice (pu script) (SM.part (pu (.int 1))) (SM.part (pu (.int 4)))) (opL lstD (ac (pu (.int 0)) a0)))) fun xs => forS xs () fun cell (s30 : Unit) =>
  (bd (cDN (u2 m__law_deck) (ac (pu cell) (ac (pu (.int 2100)) a0)) (u3 m__law_spoilt) (ac (pu kind) (ac (pu looks) (ac (pu table) a0)))) fun some' =>
  (bd (SM.lc (itS (pu some')) (fun row => (pu true)) (fun row => (opL listD (ac (pu row) a0)))) fun handed =>
  (bd (cP (u4 m__law_first) (ac (pu kind) (ac (pu looks) (ac (pu fresh) (ac (pu some') a0))))) fun first =>
  (bd (tor (SM.tb (op2 neD (cP (u4 m_first_root_fault) (ac (pu kind) (ac (pu looks) (ac (pu fresh) (ac (pu handed) a0))))) (pu first))) (SM.tb (op2 neD (pu handed) (pu some')))) fun c => if c then
  (bd (pu (.bool false)) fun x => pu (.rt x))
  else
  (pu (.nx ()))))))) fun s30 =>
  (bd (pu (.bool true)) fun x => pu (.rt x))))))))))))) : SM D (Fl Unit Empty))
theorem sc_upper_ends : FnScope ["kind", "least", "greatest", "more", "parts", "base", "most", "unit", "first", "slope"] ["kind", "least", "greatest", "more", "parts"] (defScope s_upper_ends) := ⟨rfl, rfl, rfl, by decide +kernel, rfl, by decide +kernel, by decide +kernel⟩
theorem sc_spans_between : FnScope ["kind", "starts", "stops", "most"] ["kind", "starts", "stops"] (defScope s_spans_between) := ⟨rfl, rfl, rfl, by decide +kernel, rfl, by decide +kernel, by decide +kernel⟩
theorem sc_bare_look : FnScope ["spans", "reached", "figure", "start", "stop"] ["spans"] (defScope s_bare_look) := ⟨rfl, rfl, rfl, by decide +kernel, rfl, by decide +kernel, by decide +kernel⟩
theorem sc_first_bare : FnScope ["sheet", "top", "spans", "look"] ["sheet"] (defScope s_first_bare) := ⟨rfl, rfl, rfl, by decide +kernel, rfl, by decide +kernel, by decide +kernel⟩
theorem sc_refuse_bare : FnScope ["sheet", "cell"] ["sheet"] (defScope s_refuse_bare) := ⟨rfl, rfl, rfl, by decide +kernel, rfl, by decide +kernel, by decide +kernel⟩
theorem sc_plain_row : FnScope ["half", "spans", "row", "at", "figure", "start", "stop", "end"] ["half", "spans"] (defScope s_plain_row) := ⟨rfl, rfl, rfl, by decide +kernel, rfl, by decide +kernel, by decide +kernel⟩
theorem sc_plain_rows : FnScope ["half", "sheet", "top", "spans"] ["half", "sheet"] (defScope s_plain_rows) := ⟨rfl, rfl, rfl, by decide +kernel, rfl, by decide +kernel, by decide +kernel⟩
theorem sc_is_right : FnScope ["half", "spans", "row", "right", "figure", "start", "stop"] ["half", "spans", "row"] (defScope s_is_right) := ⟨rfl, rfl, rfl, by decide +kernel, rfl, by decide +kernel, by decide +kernel⟩
theorem sc_wrong_looks : FnScope ["half", "spans", "row", "looks", "most", "first", "last", "look", "figure"] ["half", "spans", "row"] (defScope s_wrong_looks) := ⟨rfl, rfl, rfl, by decide +kernel, rfl, by decide +kernel, by decide +kernel⟩
theorem sc_first_wrong : FnScope ["half", "sheet", "table", "top", "spans", "row"] ["half", "sheet", "table"] (defScope s_first_wrong) := ⟨rfl, rfl, rfl, by decide +kernel, rfl, by decide +kernel, by decide +kernel⟩
theorem sc_half_of : FnScope ["kind", "looks"] ["kind", "looks"] (defScope s_half_of) := ⟨rfl, rfl, rfl, by decide +kernel, rfl, by decide +kernel, by decide +kernel⟩
theorem sc_first_top : FnScope ["looks"] ["looks"] (defScope s_first_top) := ⟨rfl, rfl, rfl, by decide +kernel, rfl, by decide +kernel, by decide +kernel⟩
theorem sc_tops_of : FnScope ["looks", "first"] ["looks"] (defScope s_tops_of) := ⟨rfl, rfl, rfl, by decide +kernel, rfl, by decide +kernel, by decide +kernel⟩
theorem sc_ends_of_top : FnScope ["looks", "fresh", "top", "aside"] ["looks", "fresh", "top"] (defScope s_ends_of_top) := ⟨rfl, rfl, rfl, by decide +kernel, rfl, by decide +kernel, by decide +kernel⟩
theorem sc_curved : FnScope ["kind", "looks", "fresh", "slope", "x", "base", "tops", "parts", "upper"] ["kind", "looks", "fresh", "slope", "x"] (defScope s_curved) := ⟨rfl, rfl, rfl, by decide +kernel, rfl, by decide +kernel, by decide +kernel⟩
theorem sc_start_of : FnScope ["kind", "looks", "fresh", "ends", "figure", "base", "most", "slope", "upper", "lower"] ["kind", "looks", "fresh", "ends", "figure"] (defScope s_start_of) := ⟨rfl, rfl, rfl, by decide +kernel, rfl, by decide +kernel, by decide +kernel⟩
theorem sc_asked_bounds : FnScope ["kind", "looks", "fresh", "ends", "base", "most", "tops", "parts", "greatest", "upper", "lower", "lowest", "half"] ["kind", "looks", "fresh", "ends"] (defScope s_asked_bounds) := ⟨rfl, rfl, rfl, by decide +kernel, rfl, by decide +kernel, by decide +kernel⟩
theorem sc_root_spans : FnScope ["kind", "looks", "fresh", "top", "most", "tops", "parts", "ends", "first", "last", "starts", "stops", "figure", "end"] ["kind", "looks", "fresh", "top"] (defScope s_root_spans) := ⟨rfl, rfl, rfl, by decide +kernel, rfl, by decide +kernel, by decide +kernel⟩
theorem sc_root_sheet : FnScope ["kind", "looks", "fresh", "top"] ["kind", "looks", "fresh"] (defScope s_root_sheet) := ⟨rfl, rfl, rfl, by decide +kernel, rfl, by decide +kernel, by decide +kernel⟩
theorem sc_first_root_fault : FnScope ["kind", "looks", "fresh", "table"] ["kind", "looks", "fresh", "table"] (defScope s_first_root_fault) := ⟨rfl, rfl, rfl, by decide +kernel, rfl, by decide +kernel, by decide +kernel⟩
theorem sc_root_table : FnScope ["kind", "looks", "fresh"] ["kind", "looks", "fresh"] (defScope s_root_table) := ⟨rfl, rfl, rfl, by decide +kernel, rfl, by decide +kernel, by decide +kernel⟩
theorem sc__law_deck : FnScope ["cell", "turn"] ["cell", "turn"] (defScope s__law_deck) := ⟨rfl, rfl, rfl, by decide +kernel, rfl, by decide +kernel, by decide +kernel⟩
theorem sc__law_pick : FnScope ["deck", "many", "found", "number"] ["deck", "many"] (defScope s__law_pick) := ⟨rfl, rfl, rfl, by decide +kernel, rfl, by decide +kernel, by decide +kernel⟩
theorem sc__law_half : FnScope ["kind", "looks"] ["kind", "looks"] (defScope s__law_half) := ⟨rfl, rfl, rfl, by decide +kernel, rfl, by decide +kernel, by decide +kernel⟩
theorem sc__law_sides : FnScope ["kind", "looks", "fresh", "cell", "tops", "parts", "whole", "unit", "first", "last"] ["kind", "looks", "fresh", "cell"] (defScope s__law_sides) := ⟨rfl, rfl, rfl, by decide +kernel, rfl, by decide +kernel, by decide +kernel⟩
theorem sc__law_cut : FnScope ["places", "x", "y", "w", "found", "k", "one", "other", "here", "there", "share", "rest", "j"] ["places", "x", "y", "w"] (defScope s__law_cut) := ⟨rfl, rfl, rfl, by decide +kernel, rfl, by decide +kernel, by decide +kernel⟩
theorem sc__law_places : FnScope ["kind", "looks", "fresh", "cell", "left", "right", "low", "high", "z", "less", "most", "ring"] ["kind", "looks", "fresh", "cell"] (defScope s__law_places) := ⟨rfl, rfl, rfl, by decide +kernel, rfl, by decide +kernel, by decide +kernel⟩
theorem sc__law_root_good : FnScope ["kind", "looks", "fresh", "cell", "ring", "z", "less", "found", "figure", "upper", "lower", "good", "x", "y", "w", "floor"] ["kind", "looks", "fresh", "cell"] (defScope s__law_root_good) := ⟨rfl, rfl, rfl, by decide +kernel, rfl, by decide +kernel, by decide +kernel⟩
theorem sc__law_root_set : FnScope ["deck", "sets", "kind", "looks", "least"] ["deck"] (defScope s__law_root_set) := ⟨rfl, rfl, rfl, by decide +kernel, rfl, by decide +kernel, by decide +kernel⟩
theorem sc__law_root_table : FnScope ["deck", "kind", "looks", "fresh", "way", "half", "table", "lacks", "top", "row", "look", "good", "figure"] ["deck", "kind", "looks", "fresh", "way"] (defScope s__law_root_table) := ⟨rfl, rfl, rfl, by decide +kernel, rfl, by decide +kernel, by decide +kernel⟩
theorem sc__law_spoilt : FnScope ["deck", "kind", "looks", "table", "told", "turn", "top", "look", "figure", "row"] ["deck", "kind", "looks", "table"] (defScope s__law_spoilt) := ⟨rfl, rfl, rfl, by decide +kernel, rfl, by decide +kernel, by decide +kernel⟩
theorem sc__law_name_of : FnScope ["e", "kinds", "names", "name", "kind"] ["e"] (defScope s__law_name_of) := ⟨rfl, rfl, rfl, by decide +kernel, rfl, by decide +kernel, by decide +kernel⟩
theorem sc__law_told : FnScope ["kind", "looks", "fresh", "told", "fault", "e"] ["kind", "looks", "fresh"] (defScope s__law_told) := ⟨rfl, rfl, rfl, by decide +kernel, rfl, by decide +kernel, by decide +kernel⟩
theorem sc__law_first : FnScope ["kind", "looks", "fresh", "table", "half", "at", "k", "cell", "good"] ["kind", "looks", "fresh", "table"] (defScope s__law_first) := ⟨rfl, rfl, rfl, by decide +kernel, rfl, by decide +kernel, by decide +kernel⟩
theorem sc_law : FnScope ["script", "deck", "kind", "looks", "fresh", "due", "lacks", "told", "fault", "table", "cell", "some", "handed", "first", "row"] ["script"] (defScope s_law) := ⟨rfl, rfl, rfl, by decide +kernel, rfl, by decide +kernel, by decide +kernel⟩
theorem sc_NoTable_init : FnScope ["self", "top", "look"] ["self", "top", "look"] (defScope s_NoTable_init) := ⟨rfl, rfl, rfl, by decide +kernel, rfl, by decide +kernel, by decide +kernel⟩
set_option genInjectivity false
set_option genSizeOf false
set_option genSizeOfSpec false
/-- what the top has left -/
structure Txt (K : PySem.W.Frag) (mg : Str → Option Value) where
  C_NoTable : Addr
  g_NoTable : mg "NoTable" = some (.ref C_NoTable)
  C_NoFigure : Addr
  g_NoFigure : mg "NoFigure" = some (.ref C_NoFigure)
  C_NoLooks : Addr
  g_NoLooks : mg "NoLooks" = some (.ref C_NoLooks)
  C_NoRoom : Addr
  g_NoRoom : mg "NoRoom" = some (.ref C_NoRoom)
  C_NoRow : Addr
  g_NoRow : mg "NoRow" = some (.ref C_NoRow)
  C_NoText : Addr
  g_NoText : mg "NoText" = some (.ref C_NoText)
  C_Spoilt : Addr
  g_Spoilt : mg "Spoilt" = some (.ref C_Spoilt)
  C_SlackError : Addr
  g_SlackError : mg "SlackError" = some (.ref C_SlackError)
  xb_SlackError : PySem.W.subIn K (.ref C_SlackError) (.type "BaseException") = some true
  xd_SlackError : PySem.W.hasDictIn K C_SlackError = true
  xt_SlackError : PySem.W.typeIn K (.ref C_SlackError) = some (.type "type")
  xu_NoTable_SlackError : PySem.W.subIn K (.ref C_NoTable) (.ref C_SlackError) = some true
  s_rd : PySem.W.readsIn K C_SlackError (.type "type") = true
  s_ga : PySem.W.specialIn K (.ref C_SlackError) "__getattribute__" = some (some (.builtin "type.__getattribute__"))
  s_vV : PySem.W.findCls K (.ref C_SlackError) (.type "type") "__init__" = some (.val (.builtin "ValueError.__init__"))
  kc_NoTable : PySem.W.keepIn K (.ref C_NoTable) = true
  eb_NoTable : PySem.W.subIn K (.ref C_NoTable) (.type "BaseException") = some true
  et_NoTable : PySem.W.typeIn K (.ref C_NoTable) = some (.type "type")
  ed_NoTable : PySem.W.hasDictIn K C_NoTable = true
  eg_NoTable : PySem.W.findIn K (.ref C_NoTable) "__getattribute__" = some (some (.builtin "BaseException.__getattribute__"))
  ek_NoTable : PySem.W.findIn K (.ref C_NoTable) "__getattr__" = some none
  ea_NoTable : PySem.W.findIn K (.ref C_NoTable) "__class__" = some (some (.builtin "object.__class__"))
  em_NoTable : PySem.W.mroIn K C_NoTable (.type "object") = some true
  es_NoTable : PySem.W.findIn K (.ref C_NoTable) "__setattr__" = some (some (.builtin "object.__setattr__"))
  nf_NoTable_top : PySem.W.findIn K (.ref C_NoTable) "top" = some none
  nf_NoTable_look : PySem.W.findIn K (.ref C_NoTable) "look" = some none
  ox_NoTable : OexC K C_NoTable
  ss_NoTable : PySem.W.subIn K (.ref C_NoTable) (.ref C_NoTable) = some true
  ii_NoTable_NoFigure : PySem.W.subIn K (.ref C_NoTable) (.ref C_NoFigure) = some false
  ii_NoTable_NoLooks : PySem.W.subIn K (.ref C_NoTable) (.ref C_NoLooks) = some false
  ii_NoTable_NoRoom : PySem.W.subIn K (.ref C_NoTable) (.ref C_NoRoom) = some false
  ii_NoTable_NoRow : PySem.W.subIn K (.ref C_NoTable) (.ref C_NoRow) = some false
  ii_NoTable_NoTable : PySem.W.subIn K (.ref C_NoTable) (.ref C_NoTable) = some true
  ii_NoTable_NoText : PySem.W.subIn K (.ref C_NoTable) (.ref C_NoText) = some false
  ii_NoTable_Spoilt : PySem.W.subIn K (.ref C_NoTable) (.ref C_Spoilt) = some false
  ii_NoTable_ValueError : PySem.W.subIn K (.ref C_NoTable) (.type "ValueError") = some true
  id_NoFigure : PySem.W.hasDictIn K C_NoFigure = true
  it_NoFigure : PySem.W.typeIn K (.ref C_NoFigure) = some (.type "type")
  id_NoLooks : PySem.W.hasDictIn K C_NoLooks = true
  it_NoLooks : PySem.W.typeIn K (.ref C_NoLooks) = some (.type "type")
  id_NoRoom : PySem.W.hasDictIn K C_NoRoom = true
  it_NoRoom : PySem.W.typeIn K (.ref C_NoRoom) = some (.type "type")
  id_NoRow : PySem.W.hasDictIn K C_NoRow = true
  it_NoRow : PySem.W.typeIn K (.ref C_NoRow) = some (.type "type")
  id_NoTable : PySem.W.hasDictIn K C_NoTable = true
  it_NoTable : PySem.W.typeIn K (.ref C_NoTable) = some (.type "type")
  id_NoText : PySem.W.hasDictIn K C_NoText = true
  it_NoText : PySem.W.typeIn K (.ref C_NoText) = some (.type "type")
  id_Spoilt : PySem.W.hasDictIn K C_Spoilt = true
  it_Spoilt : PySem.W.typeIn K (.ref C_Spoilt) = some (.type "type")
  e_n : PySem.W.specialIn K (.builtin "object.__class__") "__get__" = some (some (.builtin "getset_descriptor.__get__"))
  e_k : PySem.W.takesIn K (.builtin "object.__class__") = some true
  a_upper_ends : Addr
  fd_upper_ends : FuncData
  F_upper_ends : Fun K "upper_ends" "upper_ends" s_upper_ends a_upper_ends fd_upper_ends
  m_upper_ends : mg "upper_ends" = some (.ref a_upper_ends)
  b_upper_ends : Binds K fd_upper_ends ["kind", "least", "greatest", "more", "parts"] []
  a_spans_between : Addr
  fd_spans_between : FuncData
  F_spans_between : Fun K "spans_between" "spans_between" s_spans_between a_spans_between fd_spans_between
  m_spans_between : mg "spans_between" = some (.ref a_spans_between)
  b_spans_between : Binds K fd_spans_between ["kind", "starts", "stops"] []
  a_bare_look : Addr
  fd_bare_look : FuncData
  F_bare_look : Fun K "bare_look" "bare_look" s_bare_look a_bare_look fd_bare_look
  m_bare_look : mg "bare_look" = some (.ref a_bare_look)
  b_bare_look : Binds K fd_bare_look ["spans"] []
  a_first_bare : Addr
  fd_first_bare : FuncData
  F_first_bare : Fun K "first_bare" "first_bare" s_first_bare a_first_bare fd_first_bare
  m_first_bare : mg "first_bare" = some (.ref a_first_bare)
  b_first_bare : Binds K fd_first_bare ["sheet"] []
  a_refuse_bare : Addr
  fd_refuse_bare : FuncData
  F_refuse_bare : Fun K "refuse_bare" "refuse_bare" s_refuse_bare a_refuse_bare fd_refuse_bare
  m_refuse_bare : mg "refuse_bare" = some (.ref a_refuse_bare)
  b_refuse_bare : Binds K fd_refuse_bare ["sheet"] []
  a_plain_row : Addr
  fd_plain_row : FuncData
  F_plain_row : Fun K "plain_row" "plain_row" s_plain_row a_plain_row fd_plain_row
  m_plain_row : mg "plain_row" = some (.ref a_plain_row)
  b_plain_row : Binds K fd_plain_row ["half", "spans"] []
  a_plain_rows : Addr
  fd_plain_rows : FuncData
  F_plain_rows : Fun K "plain_rows" "plain_rows" s_plain_rows a_plain_rows fd_plain_rows
  m_plain_rows : mg "plain_rows" = some (.ref a_plain_rows)
  b_plain_rows : Binds K fd_plain_rows ["half", "sheet"] []
  a_is_right : Addr
  fd_is_right : FuncData
  F_is_right : Fun K "is_right" "is_right" s_is_right a_is_right fd_is_right
  m_is_right : mg "is_right" = some (.ref a_is_right)
  b_is_right : Binds K fd_is_right ["half", "spans", "row"] []
  a_wrong_looks : Addr
  fd_wrong_looks : FuncData
  F_wrong_looks : Fun K "wrong_looks" "wrong_looks" s_wrong_looks a_wrong_looks fd_wrong_looks
  m_wrong_looks : mg "wrong_looks" = some (.ref a_wrong_looks)
  b_wrong_looks : Binds K fd_wrong_looks ["half", "spans", "row"] []
  a_first_wrong : Addr
  fd_first_wrong : FuncData
  F_first_wrong : Fun K "first_wrong" "first_wrong" s_first_wrong a_first_wrong fd_first_wrong
  m_first_wrong : mg "first_wrong" = some (.ref a_first_wrong)
  b_first_wrong : Binds K fd_first_wrong ["half", "sheet", "table"] []
  a_half_of : Addr
  fd_half_of : FuncData
  F_half_of : Fun K "half_of" "half_of" s_half_of a_half_of fd_half_of
  m_half_of : mg "half_of" = some (.ref a_half_of)
  b_half_of : Binds K fd_half_of ["kind", "looks"] []
  a_first_top : Addr
  fd_first_top : FuncData
  F_first_top : Fun K "first_top" "first_top" s_first_top a_first_top fd_first_top
  m_first_top : mg "first_top" = some (.ref a_first_top)
  b_first_top : Binds K fd_first_top ["looks"] []
  a_tops_of : Addr
  fd_tops_of : FuncData
  F_tops_of : Fun K "tops_of" "tops_of" s_tops_of a_tops_of fd_tops_of
  m_tops_of : mg "tops_of" = some (.ref a_tops_of)
  b_tops_of : Binds K fd_tops_of ["looks"] []
  a_ends_of_top : Addr
  fd_ends_of_top : FuncData
  F_ends_of_top : Fun K "ends_of_top" "ends_of_top" s_ends_of_top a_ends_of_top fd_ends_of_top
  m_ends_of_top : mg "ends_of_top" = some (.ref a_ends_of_top)
  b_ends_of_top : Binds K fd_ends_of_top ["looks", "fresh", "top"] []
  a_curved : Addr
  fd_curved : FuncData
  F_curved : Fun K "curved" "curved" s_curved a_curved fd_curved
  m_curved : mg "curved" = some (.ref a_curved)
  b_curved : Binds K fd_curved ["kind", "looks", "fresh", "slope", "x"] []
  a_start_of : Addr
  fd_start_of : FuncData
  F_start_of : Fun K "start_of" "start_of" s_start_of a_start_of fd_start_of
  m_start_of : mg "start_of" = some (.ref a_start_of)
  b_start_of : Binds K fd_start_of ["kind", "looks", "fresh", "ends", "figure"] []
  a_asked_bounds : Addr
  fd_asked_bounds : FuncData
  F_asked_bounds : Fun K "asked_bounds" "asked_bounds" s_asked_bounds a_asked_bounds fd_asked_bounds
  m_asked_bounds : mg "asked_bounds" = some (.ref a_asked_bounds)
  b_asked_bounds : Binds K fd_asked_bounds ["kind", "looks", "fresh", "ends"] []
  a_root_spans : Addr
  fd_root_spans : FuncData
  F_root_spans : Fun K "root_spans" "root_spans" s_root_spans a_root_spans fd_root_spans
  m_root_spans : mg "root_spans" = some (.ref a_root_spans)
  b_root_spans : Binds K fd_root_spans ["kind", "looks", "fresh", "top"] []
  a_root_sheet : Addr
  fd_root_sheet : FuncData
  F_root_sheet : Fun K "root_sheet" "root_sheet" s_root_sheet a_root_sheet fd_root_sheet
  m_root_sheet : mg "root_sheet" = some (.ref a_root_sheet)
  b_root_sheet : Binds K fd_root_sheet ["kind", "looks", "fresh"] []
  a_first_root_fault : Addr
  fd_first_root_fault : FuncData
  F_first_root_fault : Fun K "first_root_fault" "first_root_fault" s_first_root_fault a_first_root_fault fd_first_root_fault
  m_first_root_fault : mg "first_root_fault" = some (.ref a_first_root_fault)
  b_first_root_fault : Binds K fd_first_root_fault ["kind", "looks", "fresh", "table"] []
  a_root_table : Addr
  fd_root_table : FuncData
  F_root_table : Fun K "root_table" "root_table" s_root_table a_root_table fd_root_table
  m_root_table : mg "root_table" = some (.ref a_root_table)
  b_root_table : Binds K fd_root_table ["kind", "looks", "fresh"] []
  a__law_deck : Addr
  fd__law_deck : FuncData
  F__law_deck : Fun K "_law_deck" "_law_deck" s__law_deck a__law_deck fd__law_deck
  m__law_deck : mg "_law_deck" = some (.ref a__law_deck)
  b__law_deck : Binds K fd__law_deck ["cell", "turn"] []
  a__law_pick : Addr
  fd__law_pick : FuncData
  F__law_pick : Fun K "_law_pick" "_law_pick" s__law_pick a__law_pick fd__law_pick
  m__law_pick : mg "_law_pick" = some (.ref a__law_pick)
  b__law_pick : Binds K fd__law_pick ["deck", "many"] []
  a__law_half : Addr
  fd__law_half : FuncData
  F__law_half : Fun K "_law_half" "_law_half" s__law_half a__law_half fd__law_half
  m__law_half : mg "_law_half" = some (.ref a__law_half)
  b__law_half : Binds K fd__law_half ["kind", "looks"] []
  a__law_sides : Addr
  fd__law_sides : FuncData
  F__law_sides : Fun K "_law_sides" "_law_sides" s__law_sides a__law_sides fd__law_sides
  m__law_sides : mg "_law_sides" = some (.ref a__law_sides)
  b__law_sides : Binds K fd__law_sides ["kind", "looks", "fresh", "cell"] []
  a__law_cut : Addr
  fd__law_cut : FuncData
  F__law_cut : Fun K "_law_cut" "_law_cut" s__law_cut a__law_cut fd__law_cut
  m__law_cut : mg "_law_cut" = some (.ref a__law_cut)
  b__law_cut : Binds K fd__law_cut ["places", "x", "y", "w"] []
  a__law_places : Addr
  fd__law_places : FuncData
  F__law_places : Fun K "_law_places" "_law_places" s__law_places a__law_places fd__law_places
  m__law_places : mg "_law_places" = some (.ref a__law_places)
  b__law_places : Binds K fd__law_places ["kind", "looks", "fresh", "cell"] []
  a__law_root_good : Addr
  fd__law_root_good : FuncData
  F__law_root_good : Fun K "_law_root_good" "_law_root_good" s__law_root_good a__law_root_good fd__law_root_good
  m__law_root_good : mg "_law_root_good" = some (.ref a__law_root_good)
  b__law_root_good : Binds K fd__law_root_good ["kind", "looks", "fresh", "cell"] []
  a__law_root_set : Addr
  fd__law_root_set : FuncData
  F__law_root_set : Fun K "_law_root_set" "_law_root_set" s__law_root_set a__law_root_set fd__law_root_set
  m__law_root_set : mg "_law_root_set" = some (.ref a__law_root_set)
  b__law_root_set : Binds K fd__law_root_set ["deck"] []
  a__law_root_table : Addr
  fd__law_root_table : FuncData
  F__law_root_table : Fun K "_law_root_table" "_law_root_table" s__law_root_table a__law_root_table fd__law_root_table
  m__law_root_table : mg "_law_root_table" = some (.ref a__law_root_table)
  b__law_root_table : Binds K fd__law_root_table ["deck", "kind", "looks", "fresh", "way"] []
  a__law_spoilt : Addr
  fd__law_spoilt : FuncData
  F__law_spoilt : Fun K "_law_spoilt" "_law_spoilt" s__law_spoilt a__law_spoilt fd__law_spoilt
  m__law_spoilt : mg "_law_spoilt" = some (.ref a__law_spoilt)
  b__law_spoilt : Binds K fd__law_spoilt ["deck", "kind", "looks", "table"] []
  a__law_name_of : Addr
  fd__law_name_of : FuncData
  F__law_name_of : Fun K "_law_name_of" "_law_name_of" s__law_name_of a__law_name_of fd__law_name_of
  m__law_name_of : mg "_law_name_of" = some (.ref a__law_name_of)
  b__law_name_of : Binds K fd__law_name_of ["e"] []
  a__law_told : Addr
  fd__law_told : FuncData
  F__law_told : Fun K "_law_told" "_law_told" s__law_told a__law_told fd__law_told
  m__law_told : mg "_law_told" = some (.ref a__law_told)
  b__law_told : Binds K fd__law_told ["kind", "looks", "fresh"] []
  a__law_first : Addr
  fd__law_first : FuncData
  F__law_first : Fun K "_law_first" "_law_first" s__law_first a__law_first fd__law_first
  m__law_first : mg "_law_first" = some (.ref a__law_first)
  b__law_first : Binds K fd__law_first ["kind", "looks", "fresh", "table"] []
  a_law : Addr
  fd_law : FuncData
  F_law : Fun K "law" "law" s_law a_law fd_law
  m_law : mg "law" = some (.ref a_law)
  b_law : Binds K fd_law ["script"] []
  a_NoTable_init : Addr
  fd_NoTable_init : FuncData
  F_NoTable_init : Fun K "__init__" "NoTable.__init__" s_NoTable_init a_NoTable_init fd_NoTable_init
  ic_NoTable : PySem.W.findIn K (.ref C_NoTable) "__init__" = some (some (.ref a_NoTable_init))
  ti_NoTable : PySem.W.typeIn K (.ref a_NoTable_init) = some (.type "function")
  b_NoTable_init : Binds K fd_NoTable_init ["self", "top", "look"] []
  z_range : mg "range" = none
  z_list : mg "list" = none
  z_zip : mg "zip" = none
  z_max : mg "max" = none
  z_enumerate : mg "enumerate" = none
  z_len : mg "len" = none
  z_min : mg "min" = none
  z_tuple : mg "tuple" = none
  z_abs : mg "abs" = none
  z_int : mg "int" = none
  z_isinstance : mg "isinstance" = none
  z_ValueError : mg "ValueError" = none
def Txt.exs {K : PySem.W.Frag} {mg : Str → Option Value} (T : Txt K mg) : List (Str × Addr) := [("NoTable", T.C_NoTable)]
theorem Txt.ec_NoTable {K : PySem.W.Frag} {mg : Str → Option Value} (T : Txt K mg) : ExcC K T.C_NoTable := ⟨T.eg_NoTable, T.ek_NoTable, T.eb_NoTable, T.ed_NoTable, T.ea_NoTable, T.e_n, T.e_k, T.em_NoTable⟩
theorem Txt.xf_NoTable {K : PySem.W.Frag} {mg : Str → Option Value} (T : Txt K mg) : XfC K T.C_NoTable := ⟨T.eg_NoTable, T.ek_NoTable, T.eb_NoTable, T.ed_NoTable⟩
theorem Txt.in_NoTable {K : PySem.W.Frag} {mg : Str → Option Value} (T : Txt K mg) : (("NoTable" : Str), T.C_NoTable) ∈ T.exs := by unfold Txt.exs; simp
theorem Txt.isx_NoFigure {K : PySem.W.Frag} {mg : Str → Option Value} (T : Txt K mg) : ∀ n D, (n, D) ∈ T.exs → ExcC K D ∧ PySem.W.kitOne K (.ref D) (.ref T.C_NoFigure) = some (isq "NoFigure" n) := by
  intro n D h
  have h : (n = "NoTable" ∧ D = T.C_NoTable) := by
    unfold Txt.exs at h
    simpa using h
  skip
  · rw [h.1, h.2]; exact ⟨T.ec_NoTable, (kit_ref T.id_NoFigure T.it_NoFigure T.ss_NoTable T.ii_NoTable_NoFigure).trans (by decide +kernel)⟩
theorem Txt.isx_NoLooks {K : PySem.W.Frag} {mg : Str → Option Value} (T : Txt K mg) : ∀ n D, (n, D) ∈ T.exs → ExcC K D ∧ PySem.W.kitOne K (.ref D) (.ref T.C_NoLooks) = some (isq "NoLooks" n) := by
  intro n D h
  have h : (n = "NoTable" ∧ D = T.C_NoTable) := by
    unfold Txt.exs at h
    simpa using h
  skip
  · rw [h.1, h.2]; exact ⟨T.ec_NoTable, (kit_ref T.id_NoLooks T.it_NoLooks T.ss_NoTable T.ii_NoTable_NoLooks).trans (by decide +kernel)⟩
theorem Txt.isx_NoRoom {K : PySem.W.Frag} {mg : Str → Option Value} (T : Txt K mg) : ∀ n D, (n, D) ∈ T.exs → ExcC K D ∧ PySem.W.kitOne K (.ref D) (.ref T.C_NoRoom) = some (isq "NoRoom" n) := by
  intro n D h
  have h : (n = "NoTable" ∧ D = T.C_NoTable) := by
    unfold Txt.exs at h
    simpa using h
  skip
  · rw [h.1, h.2]; exact ⟨T.ec_NoTable, (kit_ref T.id_NoRoom T.it_NoRoom T.ss_NoTable T.ii_NoTable_NoRoom).trans (by decide +kernel)⟩
theorem Txt.isx_NoRow {K : PySem.W.Frag} {mg : Str → Option Value} (T : Txt K mg) : ∀ n D, (n, D) ∈ T.exs → ExcC K D ∧ PySem.W.kitOne K (.ref D) (.ref T.C_NoRow) = some (isq "NoRow" n) := by
  intro n D h
  have h : (n = "NoTable" ∧ D = T.C_NoTable) := by
    unfold Txt.exs at h
    simpa using h
  skip
  · rw [h.1, h.2]; exact ⟨T.ec_NoTable, (kit_ref T.id_NoRow T.it_NoRow T.ss_NoTable T.ii_NoTable_NoRow).trans (by decide +kernel)⟩
theorem Txt.isx_NoTable {K : PySem.W.Frag} {mg : Str → Option Value} (T : Txt K mg) : ∀ n D, (n, D) ∈ T.exs → ExcC K D ∧ PySem.W.kitOne K (.ref D) (.ref T.C_NoTable) = some (isq "NoTable" n) := by
  intro n D h
  have h : (n = "NoTable" ∧ D = T.C_NoTable) := by
    unfold Txt.exs at h
    simpa using h
  skip
  · rw [h.1, h.2]; exact ⟨T.ec_NoTable, (kit_ref T.id_NoTable T.it_NoTable T.ss_NoTable T.ii_NoTable_NoTable).trans (by decide +kernel)⟩
theorem Txt.isx_NoText {K : PySem.W.Frag} {mg : Str → Option Value} (T : Txt K mg) : ∀ n D, (n, D) ∈ T.exs → ExcC K D ∧ PySem.W.kitOne K (.ref D) (.ref T.C_NoText) = some (isq "NoText" n) := by
  intro n D h
  have h : (n = "NoTable" ∧ D = T.C_NoTable) := by
    unfold Txt.exs at h
    simpa using h
  skip
  · rw [h.1, h.2]; exact ⟨T.ec_NoTable, (kit_ref T.id_NoText T.it_NoText T.ss_NoTable T.ii_NoTable_NoText).trans (by decide +kernel)⟩
theorem Txt.isx_Spoilt {K : PySem.W.Frag} {mg : Str → Option Value} (T : Txt K mg) : ∀ n D, (n, D) ∈ T.exs → ExcC K D ∧ PySem.W.kitOne K (.ref D) (.ref T.C_Spoilt) = some (isq "Spoilt" n) := by
  intro n D h
  have h : (n = "NoTable" ∧ D = T.C_NoTable) := by
    unfold Txt.exs at h
    simpa using h
  skip
  · rw [h.1, h.2]; exact ⟨T.ec_NoTable, (kit_ref T.id_Spoilt T.it_Spoilt T.ss_NoTable T.ii_NoTable_Spoilt).trans (by decide +kernel)⟩
theorem Txt.isx_ValueError {K : PySem.W.Frag} {mg : Str → Option Value} (T : Txt K mg) : ∀ n D, (n, D) ∈ T.exs → ExcC K D ∧ PySem.W.kitOne K (.ref D) (.type "ValueError") = some (isa n) := by
  intro n D h
  have h : (n = "NoTable" ∧ D = T.C_NoTable) := by
    unfold Txt.exs at h
    simpa using h
  skip
  · rw [h.1, h.2]; exact ⟨T.ec_NoTable, (kit_VE T.ii_NoTable_ValueError).trans (by decide +kernel)⟩
theorem Txt.exm_SlackError {K : PySem.W.Frag} {mg : Str → Option Value} (T : Txt K mg) : ∀ n D is, (n, D) ∈ T.exs → PySem.W.exmOne K (.ref D) (.ref T.C_SlackError) = some (isa (nmX (exD n is))) := by
  intro n D is h
  have h : (n = "NoTable" ∧ D = T.C_NoTable) := by
    unfold Txt.exs at h
    simpa using h
  skip
  · rw [h.1, h.2]; exact (PySem.W.exm_ref T.xb_SlackError T.xd_SlackError T.xt_SlackError T.xu_NoTable_SlackError).trans (by show _ = some (isa "NoTable"); decide +kernel)
theorem Txt.own_NoTable_top {K : PySem.W.Frag} {mg : Str → Option Value} (T : Txt K mg) : ∀ n D, (n, D) ∈ T.exs → ("top" : Str) ∈ fldsX n → D = T.C_NoTable := by
  intro n D h hf
  have h : (n = "NoTable" ∧ D = T.C_NoTable) := by
    unfold Txt.exs at h
    simpa using h
  skip
  · rw [h.2]
theorem Txt.own_NoTable_look {K : PySem.W.Frag} {mg : Str → Option Value} (T : Txt K mg) : ∀ n D, (n, D) ∈ T.exs → ("look" : Str) ∈ fldsX n → D = T.C_NoTable := by
  intro n D h hf
  have h : (n = "NoTable" ∧ D = T.C_NoTable) := by
    unfold Txt.exs at h
    simpa using h
  skip
  · rw [h.2]
section
variable {P : Program} {w : World} {K : PySem.W.Frag} {mg : Str → Option Value} {base : Heap}
set_option maxHeartbeats 0 in
theorem ok_upper_ends (T : Txt K mg) : FnOk P w K mg base CX0 1 T.a_upper_ends T.fd_upper_ends ["kind", "least", "greatest", "more", "parts"] (SpP K 5 (u5 m_upper_ends)) := by
  refine T.F_upper_ends.ok sc_upper_ends (fun vs H Q E h => h.1) (fun cdv A outer s H vs Q E hr h => ?_)
  refine ⟨_, (pss_cons (ps_asg (pv 0) (pg_tup rfl (pgs_cons (pg_name (i := 5) sc_upper_ends.nd rfl (Or.inl rfl)) (pgs_cons (pg_name (i := 6) sc_upper_ends.nd rfl (Or.inl rfl)) pgs_nil))))
      (pss_cons (ps_set (i := 7) sc_upper_ends.nd rfl (Or.inr rfl) (pe_op op_shlW (pe_op op_sub (pv 5) pe_int) (pv 3)))
      (pss_cons (ps_set (i := 8) sc_upper_ends.nd rfl (Or.inl rfl) (pe_op op_sub (pv 6) (pe_op op_mulU (pv 6) (pe_op op_sub (pv 5) pe_int))))
      (pss_cons (ps_ret (pe_lc (own := [("slope", 9)]) (g := (gName 9)) (tt := tYes) rfl sc_upper_ends.nd (pi_range3 (by rfl) T.z_range (pa_cons (pv 8) (pa_cons (pe_op op_addU (pv 8) (pe_op op_mulU (pe_op op_mulU pe_int (pv 6)) (pe_op op_sub (pv 5) pe_int))) (pa_cons (pe_op op_sub (pv 5) pe_int) pa_nil)))) (blkOk_by (own := [("slope", 9)]) (N := ["kind", "least", "greatest", "more", "parts", "base", "most", "unit", "first", "slope"]) (sc := defScope s_upper_ends) (by decide +kernel)) (fun _ _ _ _ _ => (pg_name (i := 9) sc_upper_ends.nd rfl (Or.inl rfl))) (fun _ _ _ _ _ => pts_nil) (fun _ _ _ _ _ => (pe_op op_fdivU (pe_op op_shlW (pe_op op_mulU (pv 9) (pe_ifExp (pt_cmpR op_gt (pv 9) pe_int (nomark _)) (pv 1) (pv 2))) (pv 4)) (pv 7)))))
      pss_nil)))), body_P h fun ds O hl => ?_⟩
  have h1 := h.1
  obtain ⟨v_0, v_1, v_2, v_3, v_4, rfl⟩ := ls5 (l := vs) (by first | exact h1 | exact Nat.succ.inj h1)
  obtain ⟨x_0, x_1, x_2, x_3, x_4, rfl⟩ := ls5 (l := ds) (by first | exact hl.symm | exact hl)
  refine ⟨_, rfl, ?_⟩
  refine sv_st (σ' := [some v_0, some v_1, some v_2, some v_3, some v_4, none, none, none, none, none]) rfl ?_
  refine sv_asgT sub0 (ev_var rfl (.head _)) fun v1 x13 => tg_tup2 (.head _) fun v3 v4 x5 x6 => tgs_cons (tg_name (σ' := [some v_0, some v_1, some v_2, some v_3, some v_4, some v3, none, none, none, none]) rfl (tgs_cons (tg_name (σ' := [some v_0, some v_1, some v_2, some v_3, some v_4, some v3, some v4, none, none, none]) rfl (tgs_nil (?_)))))
  refine sv_asg sub0 (ev_op os_shl (ev_op os_sub (ev_var rfl (.head _)) ev_int) (ev_var rfl (.tail _ (.tail _ (.tail _ (.tail _ (.tail _ (.tail _ (.head _))))))))) (σ' := (fun v7 => [some v_0, some v_1, some v_2, some v_3, some v_4, some v3, some v4, some v7, none, none])) (fun _ => rfl) fun v7 x12 => ?_
  refine sv_asg sub0 (ev_op os_sub (ev_var rfl (.tail _ (.tail _ (.head _)))) (ev_op os_mul (ev_var rfl (.tail _ (.tail _ (.head _)))) (ev_op os_sub (ev_var rfl (.tail _ (.head _))) ev_int))) (σ' := (fun v8 => [some v_0, some v_1, some v_2, some v_3, some v_4, some v3, some v4, some v7, some v8, none])) (fun _ => rfl) fun v8 x11 => ?_
  exact sv_ret sub0 (ev_lc1 (σ2 := fun v9 => [some v_0, some v_1, some v_2, some v_3, some v_4, some v3, some v4, some v7, some v8, some v9]) (iv_rng3 (av_cons (ev_var rfl (.head _)) (av_cons (ev_op os_add (ev_var rfl (.head _)) (ev_op os_mul (ev_op os_mul ev_int (ev_var rfl (.tail _ (.tail _ (.tail _ (.head _)))))) (ev_op os_sub (ev_var rfl (.tail _ (.tail _ (.head _)))) ev_int))) (av_cons (ev_op os_sub (ev_var rfl (.tail _ (.tail _ (.head _)))) ev_int) av_nil)))) (fun _ => rfl) (fun _ => rfl) (fun v9 x10 => tv_yes) (fun v9 x10 => (ev_op os_fdiv (ev_op os_shl (ev_op os_mul (ev_var rfl (.head _)) (ev_if (tv_test (ev_op os_gt (ev_var rfl (.head _)) ev_int)) (ev_var rfl (.tail _ (.tail _ (.tail _ (.tail _ (.tail _ (.tail _ (.tail _ (.head _))))))))) (ev_var rfl (.tail _ (.tail _ (.tail _ (.tail _ (.tail _ (.tail _ (.tail _ (.tail _ (.head _)))))))))))) (ev_var rfl (.tail _ (.tail _ (.tail _ (.tail _ (.tail _ (.tail _ (.tail _ (.tail _ (.tail _ (.tail _ (.head _))))))))))))) (ev_var rfl (.tail _ (.tail _ (.head _)))))))
set_option maxHeartbeats 0 in
theorem ok_spans_between (T : Txt K mg) : FnOk P w K mg base CX0 1 T.a_spans_between T.fd_spans_between ["kind", "starts", "stops"] (SpP K 3 (u3 m_spans_between)) := by
  refine T.F_spans_between.ok sc_spans_between (fun vs H Q E h => h.1) (fun cdv A outer s H vs Q E hr h => ?_)
  refine ⟨_, (pss_cons (ps_set (i := 3) sc_spans_between.nd rfl (Or.inl rfl) (pe_ix ix_seq (pv 0) pe_int (fun _ _ => rfl)))
      (pss_cons (ps_ret (pe_lz rfl (by rfl) T.z_list (by rfl) T.z_zip (by rfl) T.z_range (pa_cons (pe_un un_neg (pv 3)) (pa_cons (pe_op op_addU (pv 3) pe_int) pa_nil)) (pv 1) (pv 2)))
      pss_nil)), body_P h fun ds O hl => ?_⟩
  have h1 := h.1
  obtain ⟨v_0, v_1, v_2, rfl⟩ := ls3 (l := vs) (by first | exact h1 | exact Nat.succ.inj h1)
  obtain ⟨x_0, x_1, x_2, rfl⟩ := ls3 (l := ds) (by first | exact hl.symm | exact hl)
  refine ⟨_, rfl, ?_⟩
  refine sv_st (σ' := [some v_0, some v_1, some v_2, none]) rfl ?_
  refine sv_asg sub0 (ev_op os_idx (ev_var rfl (.head _)) ev_int) (σ' := (fun v1 => [some v_0, some v_1, some v_2, some v1])) (fun _ => rfl) fun v1 x2 => ?_
  exact sv_ret sub0 (ev_lz (av_cons (ev_un us_neg (ev_var rfl (.head _))) (av_cons (ev_op os_add (ev_var rfl (.head _)) ev_int) av_nil)) (ev_var rfl (.tail _ (.tail _ (.head _)))) (ev_var rfl (.tail _ (.tail _ (.tail _ (.head _))))))
set_option maxHeartbeats 0 in
theorem ok_bare_look (T : Txt K mg) : FnOk P w K mg base CX0 1 T.a_bare_look T.fd_bare_look ["spans"] (SpP K 1 (u1 m_bare_look)) := by
  refine T.F_bare_look.ok sc_bare_look (fun vs H Q E h => h.1) (fun cdv A outer s H vs Q E hr h => ?_)
  refine ⟨_, (pss_cons (ps_set (i := 1) sc_bare_look.nd rfl (Or.inl rfl) (pe_op op_sub (pe_ix ix_seq (pe_ix ix_seq (pv 0) pe_int (fun _ _ => rfl)) pe_int (fun _ _ => rfl)) pe_int))
      (pss_cons (ps_for PassesOwn.never rfl (pi_seq (pv 0)) (pg_tup rfl (pgs_cons (pg_name (i := 2) sc_bare_look.nd rfl (Or.inl rfl)) (pgs_cons (pg_name (i := 3) sc_bare_look.nd rfl (Or.inl rfl)) (pgs_cons (pg_name (i := 4) sc_bare_look.nd rfl (Or.inl rfl)) pgs_nil)))) (pss_cons (ps_if (pt_cmpR op_gt (pv 3) (pe_op op_addU (pv 1) pe_int) (nomark _)) (pss_cons (ps_ret (pe_op op_addU (pv 1) pe_int))
      pss_nil) pss_nil)
      (pss_cons (ps_set (i := 1) sc_bare_look.nd rfl (Or.inl rfl) (pe_callB (call_maxU rfl) (by rfl) T.z_max (by decide +kernel) (pa_cons (pv 1) (pa_cons (pv 4) pa_nil))))
      pss_nil)))
      (pss_cons (ps_ret pe_non)
      pss_nil))), body_P h fun ds O hl => ?_⟩
  have h1 := h.1
  obtain ⟨v_0, rfl⟩ := ls1 (l := vs) (by first | exact h1 | exact Nat.succ.inj h1)
  obtain ⟨x_0, rfl⟩ := ls1 (l := ds) (by first | exact hl.symm | exact hl)
  refine ⟨_, rfl, ?_⟩
  refine sv_st (σ' := [some v_0, none, none, none, none]) rfl ?_
  refine sv_asg sub0 (ev_op os_sub (ev_op os_idx (ev_op os_idx (ev_var rfl (.head _)) ev_int) ev_int) ev_int) (σ' := (fun v1 => [some v_0, some v1, none, none, none])) (fun _ => rfl) fun v1 x19 => ?_
  refine sv_seq (J1 := (fun (s2 : D) σ' L2 C2 => ∃ (v3 : V) (o4 : Option V) (o5 : Option V) (o6 : Option V), σ' = [some v_0, some v3, o4, o5, o6] ∧ L2 = ([(v3, s2)] : List (V × D)) ∧ C2 = (fun _ => []))) (sv_for sub0 (iv_seq (ev_var rfl (.tail _ (.head _)))) ⟨v1, none, none, none, rfl, rfl, rfl⟩ (lcons (.head _) lnil) (by intro s2 _ _ _ hJ; obtain ⟨v3, o4, o5, o6, rfl, rfl, rfl⟩ := hJ; exact sub0) ?_) ?_
  · intro s2 _ _ _ hJ v7 x8
    obtain ⟨v3, o4, o5, o6, rfl, rfl, rfl⟩ := hJ
    refine tg_tup3 (.head _) fun v9 v10 v11 x12 x13 x14 => tgs_cons (tg_name (σ' := [some v_0, some v3, some v9, o5, o6]) rfl (tgs_cons (tg_name (σ' := [some v_0, some v3, some v9, some v10, o6]) rfl (tgs_cons (tg_name (σ' := [some v_0, some v3, some v9, some v10, some v11]) rfl (tgs_nil (?_)))))))
    refine sv_if sub0 (tv_test (ev_op os_gt (ev_var rfl (.tail _ (.head _))) (ev_op os_add (ev_var rfl (.tail _ (.tail _ (.tail _ (.tail _ (.head _)))))) ev_int))) ?_ ?_
    · refine sv_assoc ?_
      exact sv_ret sub0 (ev_op os_add (ev_var rfl (.tail _ (.tail _ (.tail _ (.tail _ (.head _)))))) ev_int)
    · refine sv_skip ?_
      refine sv_asg sub0 (ev_cb cs_max (av_cons (ev_var rfl (.tail _ (.tail _ (.tail _ (.tail _ (.head _)))))) (av_cons (ev_var rfl (.tail _ (.tail _ (.head _)))) av_nil))) (σ' := (fun v15 => [some v_0, some v15, some v9, some v10, some v11])) (fun _ => rfl) fun v15 x16 => ?_
      exact sv_nil ⟨v15, (some v9), (some v10), (some v11), rfl, rfl, rfl⟩ (lcons (.head _) lnil)
  · intro s2 _ _ _ hJ
    obtain ⟨v3, o4, o5, o6, rfl, rfl, rfl⟩ := hJ
    exact sv_ret sub0 ev_non
set_option maxHeartbeats 0 in
theorem ok_first_bare (T : Txt K mg) : FnOk P w K mg base CX0 2 T.a_first_bare T.fd_first_bare ["sheet"] (SpP K 1 (u1 m_first_bare)) := by
  refine T.F_first_bare.ok sc_first_bare (fun vs H Q E h => h.1) (fun cdv A outer s H vs Q E hr h => ?_)
  refine ⟨_, (pss_cons (ps_for PassesOwn.never rfl (pi_seq (pv 0)) (pg_tup rfl (pgs_cons (pg_name (i := 1) sc_first_bare.nd rfl (Or.inl rfl)) (pgs_cons (pg_name (i := 2) sc_first_bare.nd rfl (Or.inl rfl)) pgs_nil))) (pss_cons (ps_set (i := 3) sc_first_bare.nd rfl (Or.inl rfl) (pe_call (ok_bare_look T) (hr.mono (by decide)) rfl T.m_bare_look T.F_bare_look.kp T.b_bare_look .nil pass0 (pa_cons (pv 2) pa_nil)))
      (pss_cons (ps_if (pt_cmpR op_isntU (pv 3) pe_non (nomark _)) (pss_cons (ps_ret (pe_tup (pa_cons (pv 1) (pa_cons (pv 3) pa_nil))))
      pss_nil) pss_nil)
      pss_nil)))
      (pss_cons (ps_ret pe_non)
      pss_nil)), body_P h fun ds O hl => ?_⟩
  have h1 := h.1
  obtain ⟨v_0, rfl⟩ := ls1 (l := vs) (by first | exact h1 | exact Nat.succ.inj h1)
  obtain ⟨x_0, rfl⟩ := ls1 (l := ds) (by first | exact hl.symm | exact hl)
  refine ⟨_, rfl, ?_⟩
  refine sv_st (σ' := [some v_0, none, none, none]) rfl ?_
  refine sv_seq (J1 := (fun (s1 : Unit) σ' L2 C2 => ∃ (o2 : Option V) (o3 : Option V) (o4 : Option V), σ' = [some v_0, o3, o4, o2] ∧ L2 = ([] : List (V × D)) ∧ C2 = (fun _ => []))) (sv_for sub0 (iv_seq (ev_var rfl (.head _))) ⟨none, none, none, rfl, rfl, rfl⟩ lnil (by intro s1 _ _ _ hJ; obtain ⟨o2, o3, o4, rfl, rfl, rfl⟩ := hJ; exact sub0) ?_) ?_
  · intro s1 _ _ _ hJ v5 x6
    obtain ⟨o2, o3, o4, rfl, rfl, rfl⟩ := hJ
    refine tg_tup2 (.head _) fun v7 v8 x9 x10 => tgs_cons (tg_name (σ' := [some v_0, some v7, o4, o2]) rfl (tgs_cons (tg_name (σ' := [some v_0, some v7, some v8, o2]) rfl (tgs_nil (?_)))))
    refine sv_asg sub0 (ev_cP (fun _ => u1_len) (av_cons (ev_var rfl (.tail _ (.head _))) av_nil)) (σ' := (fun v11 => [some v_0, some v7, some v8, some v11])) (fun _ => rfl) fun v11 x12 => ?_
    refine sv_if sub0 (tv_test (ev_op os_isnt (ev_var rfl (.head _)) ev_non)) ?_ ?_
    · refine sv_assoc ?_
      exact sv_ret sub0 (ev_tup (av_cons (ev_var rfl (.tail _ (.head _))) (av_cons (ev_var rfl (.head _)) av_nil)))
    · refine sv_skip ?_
      exact sv_nil ⟨(some v11), (some v7), (some v8), rfl, rfl, rfl⟩ lnil
  · intro s1 _ _ _ hJ
    obtain ⟨o2, o3, o4, rfl, rfl, rfl⟩ := hJ
    exact sv_ret sub0 ev_non
set_option maxHeartbeats 0 in
theorem ok_NoTable_init (T : Txt K mg) : FnOk P w K mg base CX0 1 T.a_NoTable_init T.fd_NoTable_init ["self", "top", "look"] (SpXI K T.C_NoTable (fldsX "NoTable")) := by
  refine T.F_NoTable_init.ok sc_NoTable_init (fun vs H Q E h => h.1) (fun cdv A outer s H vs Q E hr h => ?_)
  refine ⟨_, (pss_cons (ps_expr (pe_slinit rfl T.g_SlackError T.s_rd T.s_ga T.s_vV (pa_cons (pv 0) (pa_cons (pe_joined (PJ.cons pe_str (PJ.cons (pe_fmt (pv 1)) (PJ.cons pe_str (PJ.cons (pe_fmt (pv 2)) (PJ.cons pe_str PJ.nil)))))) pa_nil))))
      (pss_cons (ps_ost (pv 0) (pv 1))
      (pss_cons (ps_ost (pv 0) (pv 2))
      pss_nil))), ?_⟩
  obtain ⟨hl, a, is, rfl, ea, hb, q⟩ := h
  match is, hl with
  | [n0, n1], _ =>
  exact xinit2 T.ox_NoTable T.nf_NoTable_top T.nf_NoTable_look ea (.cons (txt_c (by decide +kernel)) (.cons (txt_f rfl (hb _ (by simp))) (.cons (txt_c (by decide +kernel)) (.cons (txt_f rfl (hb _ (by simp))) (.cons (txt_c (by decide +kernel)) .nil))))) (by decide +kernel) q
set_option maxHeartbeats 0 in
theorem ok_refuse_bare (T : Txt K mg) : FnOk P w K mg base (L2N.CX P w) 3 T.a_refuse_bare T.fd_refuse_bare ["sheet"] (SpPX K (rootX T.exs) 1 (u1 m_refuse_bare)) := by
  refine okN T.F_refuse_bare sc_refuse_bare (fun vs H Q E h => h.1) (fun cdv A outer s H vs Q E hr h => ?_)
  refine ⟨_, (pss_cons (ps_set (i := 1) sc_refuse_bare.nd rfl (Or.inl rfl) (pe_call (ok_first_bare T) (hr.mono (by decide)) rfl T.m_first_bare T.F_first_bare.kp T.b_first_bare .nil pass0 (pa_cons (pv 0) pa_nil)))
      (pss_cons (ps_if (pt_cmpR op_isntU (pv 1) pe_non (nomark _)) (pss_cons (L2N.ps_raise rfl (L2N.takes_of rfl rfl rfl rfl) (pmk_oexN T.ox_NoTable T.ic_NoTable T.ti_NoTable (ok_NoTable_init T) (hr.mono (by decide)) T.b_NoTable_init pass0 rfl T.g_NoTable (pa_cons (pe_ix ix_seq (pv 1) pe_int (fun _ _ => rfl)) (pa_cons (pe_ix ix_seq (pv 1) pe_int (fun _ _ => rfl)) pa_nil))))
      pss_nil) pss_nil)
      pss_nil)), body_PX h fun ds O hl => ?_⟩
  have h1 := h.1
  obtain ⟨v_0, rfl⟩ := ls1 (l := vs) (by first | exact h1 | exact Nat.succ.inj h1)
  obtain ⟨x_0, rfl⟩ := ls1 (l := ds) (by first | exact hl.symm | exact hl)
  refine ⟨_, rfl, ?_⟩
  refine sv_st (σ' := [some v_0, none]) rfl ?_
  refine sv_asg sub0 (ev_cP (fun _ => u1_len) (av_cons (ev_var rfl (.head _)) av_nil)) (σ' := (fun v1 => [some v_0, some v1])) (fun _ => rfl) fun v1 x2 => ?_
  refine sv_if sub0 (tv_test (ev_op os_isnt (ev_var rfl (.head _)) ev_non)) ?_ ?_
  · refine sv_assoc ?_
    exact sv_raiseN (n := "NoTable") sub0 rfl T.in_NoTable (by decide +kernel) (av_cons (ev_op os_idx (ev_var rfl (.head _)) ev_int) (av_cons (ev_op os_idx (ev_var rfl (.head _)) ev_int) av_nil))
  · refine sv_skip ?_
    exact sv_nil (L2 := []) trivial lnil
set_option maxHeartbeats 0 in
theorem ok_plain_row (T : Txt K mg) : FnOk P w K mg base CX0 1 T.a_plain_row T.fd_plain_row ["half", "spans"] (SpP K 2 (u2 m_plain_row)) := by
  refine T.F_plain_row.ok sc_plain_row (fun vs H Q E h => h.1) (fun cdv A outer s H vs Q E hr h => ?_)
  refine ⟨_, (pss_cons (ps_set (i := 2) sc_plain_row.nd rfl (Or.inl rfl) (pe_op op_mulU (pe_lst (pa_cons pe_non pa_nil)) (pe_op op_addU (pe_ix ix_seq (pe_ix ix_seq (pv 1) pe_int (fun _ _ => rfl)) pe_int (fun _ _ => rfl)) (pv 0))))
      (pss_cons (ps_for PassesOwn.never rfl (pi_enum (by rfl) T.z_enumerate (pa_cons (pv 1) pa_nil)) (pg_tup rfl (pgs_cons (pg_name (i := 3) sc_plain_row.nd rfl (Or.inl rfl)) (pgs_cons (pg_tup rfl (pgs_cons (pg_name (i := 4) sc_plain_row.nd rfl (Or.inl rfl)) (pgs_cons (pg_name (i := 5) sc_plain_row.nd rfl (Or.inl rfl)) (pgs_cons (pg_name (i := 6) sc_plain_row.nd rfl (Or.inl rfl)) pgs_nil)))) pgs_nil))) (pss_cons (ps_set (i := 7) sc_plain_row.nd rfl (Or.inl rfl) (pe_ifExp (pt_cmpR op_lt (pv 4) pe_int (nomark _)) (pe_op op_sub (pe_ix ix_seq (pe_ix ix_seq (pv 1) (pe_op op_addU (pv 3) pe_int) (fun _ _ => rfl)) pe_int (fun _ _ => rfl)) pe_int) (pv 6)))
      (pss_cons (ps_expr (pe_bm PySem.F.plainAttrs_list PySem.F.slot_list_extend PySem.F.type_list_extend mt_extend (pv 2) (pa_cons (pe_op op_mulU (pe_lst (pa_cons (pv 4) pa_nil)) (pe_op op_sub (pe_op op_addU (pe_op op_addU (pv 7) pe_int) (pv 0)) (pe_callB call_len (by rfl) T.z_len (by decide +kernel) (pa_cons (pv 2) pa_nil)))) pa_nil)))
      pss_nil)))
      (pss_cons (ps_expr (pe_bm PySem.F.plainAttrs_list PySem.F.slot_list_extend PySem.F.type_list_extend mt_extend (pv 2) (pa_cons (pe_op op_mulU (pe_lst (pa_cons pe_non pa_nil)) (pe_op op_sub (pe_op op_mulU pe_int (pv 0)) (pe_callB call_len (by rfl) T.z_len (by decide +kernel) (pa_cons (pv 2) pa_nil)))) pa_nil)))
      (pss_cons (ps_ret (pv 2))
      pss_nil)))), body_P h fun ds O hl => ?_⟩
  have h1 := h.1
  obtain ⟨v_0, v_1, rfl⟩ := ls2 (l := vs) (by first | exact h1 | exact Nat.succ.inj h1)
  obtain ⟨x_0, x_1, rfl⟩ := ls2 (l := ds) (by first | exact hl.symm | exact hl)
  refine ⟨_, rfl, ?_⟩
  refine sv_st (σ' := [some v_0, some v_1, none, none, none, none, none, none]) rfl ?_
  refine sv_newF sub0 (fv_rep (ev_lst (av_cons ev_non av_nil)) (ev_op os_add (ev_op os_idx (ev_op os_idx (ev_var rfl (.tail _ (.head _))) ev_int) ev_int) (ev_var rfl (.head _)))) (σ' := fun v2 => [some v_0, some v_1, some v2, none, none, none, none, none]) (fun _ => rfl) (C' := fun p1 row m => [rootL K p1 row]) (fun p1 row m => (List.perm_append_singleton _ []).symm) fun p1 row hp1 => ?_
  refine sv_seq (J1 := (fun (s3 : D) σ' L2 C2 => ∃ (o4 : Option V) (o5 : Option V) (o6 : Option V) (o7 : Option V) (o8 : Option V), σ' = [some v_0, some v_1, some (.ref p1), o5, o6, o7, o8, o4] ∧ L2 = ([] : List (V × D)) ∧ C2 = (fun _ => [rootL K p1 s3]))) (sv_for sub0 (iv_enum (av_cons (ev_var rfl (.tail _ (.head _))) av_nil)) ⟨none, none, none, none, none, rfl, rfl, rfl⟩ lnil (by intro s3 _ _ _ hJ; obtain ⟨o4, o5, o6, o7, o8, rfl, rfl, rfl⟩ := hJ; exact sub0) ?_) ?_
  · intro s3 _ _ _ hJ v9 x10
    obtain ⟨o4, o5, o6, o7, o8, rfl, rfl, rfl⟩ := hJ
    refine tg_tup2 (.head _) fun v11 v12 x14 x15 => tgs_cons (tg_name (σ' := [some v_0, some v_1, some (.ref p1), some v11, o6, o7, o8, o4]) rfl (tgs_cons (tg_tup3 (.tail _ (.head _)) fun v16 v17 v18 x19 x20 x21 => tgs_cons (tg_name (σ' := [some v_0, some v_1, some (.ref p1), some v11, some v16, o7, o8, o4]) rfl (tgs_cons (tg_name (σ' := [some v_0, some v_1, some (.ref p1), some v11, some v16, some v17, o8, o4]) rfl (tgs_cons (tg_name (σ' := [some v_0, some v_1, some (.ref p1), some v11, some v16, some v17, some v18, o4]) rfl (tgs_nil (tgs_nil (?_)))))))))))
    refine sv_asg sub0 (ev_if (tv_test (ev_op os_lt (ev_var rfl (.head _)) ev_int)) (ev_op os_sub (ev_op os_idx (ev_op os_idx (ev_var rfl (.tail _ (.tail _ (.tail _ (.tail _ (.tail _ (.tail _ (.tail _ (.head _))))))))) (ev_op os_add (ev_var rfl (.tail _ (.tail _ (.tail _ (.head _))))) ev_int)) ev_int) ev_int) (ev_var rfl (.tail _ (.tail _ (.head _))))) (σ' := (fun v22 => [some v_0, some v_1, some (.ref p1), some v11, some v16, some v17, some v18, some v22])) (fun _ => rfl) fun v22 x23 => ?_
    refine sv_ext sub0 rfl (ev_op os_mul (ev_lst (av_cons (ev_var rfl (.tail _ (.head _))) av_nil)) (ev_op os_sub (ev_op os_add (ev_op os_add (ev_var rfl (.head _)) ev_int) (ev_var rfl (.tail _ (.tail _ (.tail _ (.tail _ (.tail _ (.tail _ (.tail _ (.head _)))))))))) (ev_rlen rfl (fun m => List.perm_middle (l₁ := []) (l₂ := []))))) (Z := fun m => []) (fun m => List.perm_middle (l₁ := []) (l₂ := [])) (C' := fun d m => [rootL K p1 d]) (fun d m => (List.perm_middle (l₁ := []) (l₂ := [])).symm) fun row1 => ?_
    exact sv_nil ⟨(some v22), (some v11), (some v16), (some v17), (some v18), rfl, rfl, rfl⟩ lnil
  · intro s3 _ _ _ hJ
    obtain ⟨o4, o5, o6, o7, o8, rfl, rfl, rfl⟩ := hJ
    refine sv_ext sub0 rfl (ev_op os_mul (ev_lst (av_cons ev_non av_nil)) (ev_op os_sub (ev_op os_mul ev_int (ev_var rfl (.head _))) (ev_rlen rfl (fun m => List.perm_middle (l₁ := []) (l₂ := []))))) (Z := fun m => []) (fun m => List.perm_middle (l₁ := []) (l₂ := [])) (C' := fun d m => [rootL K p1 d]) (fun d m => (List.perm_middle (l₁ := []) (l₂ := [])).symm) fun row2 => ?_
    refine sv_freeze (C' := fun m => []) (fun m => List.perm_middle (l₁ := []) (l₂ := [])) hp1 ?_
    exact sv_ret sub0 (ev_var rfl (.head _))
set_option maxHeartbeats 0 in
theorem ok_plain_rows (T : Txt K mg) : FnOk P w K mg base (L2N.CX P w) 4 T.a_plain_rows T.fd_plain_rows ["half", "sheet"] (SpPX K (rootX T.exs) 2 (u2 m_plain_rows)) := by
  refine okN T.F_plain_rows sc_plain_rows (fun vs H Q E h => h.1) (fun cdv A outer s H vs Q E hr h => ?_)
  refine ⟨_, (pss_cons (ps_expr (pe_call (ok_refuse_bare T) (hr.mono (by decide)) rfl T.m_refuse_bare T.F_refuse_bare.kp T.b_refuse_bare .nil (L2N.passes_call (L2N.takes_of rfl rfl rfl rfl) fun _ _ _ _ h => h) (pa_cons (pv 1) pa_nil)))
      (pss_cons (ps_ret (pe_lc (own := [("top", 2), ("spans", 3)]) (g := (gTup K 2 (gCons (gName 2) (gCons (gName 3) gNil)))) (tt := tYes) rfl sc_plain_rows.nd (pi_seq (pv 1)) (blkOk_by (own := [("top", 2), ("spans", 3)]) (N := ["half", "sheet", "top", "spans"]) (sc := defScope s_plain_rows) (by decide +kernel)) (fun _ _ _ _ _ => (pg_tup rfl (pgs_cons (pg_name (i := 2) sc_plain_rows.nd rfl (Or.inl rfl)) (pgs_cons (pg_name (i := 3) sc_plain_rows.nd rfl (Or.inl rfl)) pgs_nil)))) (fun _ _ _ _ _ => pts_nil) (fun _ _ _ _ _ => (pe_call (ok_plain_row T) (hr.mono (by decide)) (by exact rfl) T.m_plain_row T.F_plain_row.kp T.b_plain_row .nil pass0 (pa_cons (pv 0) (pa_cons (pv 3) pa_nil))))))
      pss_nil)), body_PX h fun ds O hl => ?_⟩
  have h1 := h.1
  obtain ⟨v_0, v_1, rfl⟩ := ls2 (l := vs) (by first | exact h1 | exact Nat.succ.inj h1)
  obtain ⟨x_0, x_1, rfl⟩ := ls2 (l := ds) (by first | exact hl.symm | exact hl)
  refine ⟨_, rfl, ?_⟩
  refine sv_st (σ' := [some v_0, some v_1, none, none]) rfl ?_
  refine sv_expr sub0 (ev_cPX (fun _ => u1_len) (av_cons (ev_var rfl (.tail _ (.head _))) av_nil)) ?_
  exact sv_ret sub0 (ev_lc2 (σ2 := fun v1 v2 => [some v_0, some v_1, some v1, some v2]) (iv_seq (ev_var rfl (.tail _ (.head _)))) (fun _ _ => rfl) (fun _ _ => rfl) (fun v1 v2 x3 x4 => tv_yes) (fun v1 v2 x3 x4 => (ev_cP (fun _ => u2_len) (av_cons (ev_var rfl (.tail _ (.tail _ (.head _)))) (av_cons (ev_var rfl (.tail _ (.head _))) av_nil)))))
set_option maxHeartbeats 0 in
theorem ok_is_right (T : Txt K mg) : FnOk P w K mg base CX0 1 T.a_is_right T.fd_is_right ["half", "spans", "row"] (SpP K 3 (u3 m_is_right)) := by
  refine T.F_is_right.ok sc_is_right (fun vs H Q E h => h.1) (fun cdv A outer s H vs Q E hr h => ?_)
  refine ⟨_, (pss_cons (ps_set (i := 3) sc_is_right.nd rfl (Or.inl rfl) pe_int)
      (pss_cons (ps_for PassesOwn.never rfl (pi_seq (pv 1)) (pg_tup rfl (pgs_cons (pg_name (i := 4) sc_is_right.nd rfl (Or.inl rfl)) (pgs_cons (pg_name (i := 5) sc_is_right.nd rfl (Or.inl rfl)) (pgs_cons (pg_name (i := 6) sc_is_right.nd rfl (Or.inl rfl)) pgs_nil)))) (pss_cons (ps_if (pt_cmpR op_le (pv 5) (pv 6) (nomark _)) (pss_cons (ps_aug (i := 3) sc_is_right.nd rfl (Or.inl rfl) (pe_bm PySem.F.plainAttrs_list PySem.F.slot_list_count PySem.F.type_list_count mt_lcountN (pe_slice sl_u (pv 2) (po_some (pe_op op_addU (pv 5) (pv 0))) (po_some (pe_op op_addU (pe_op op_addU (pv 6) (pv 0)) pe_int))) (pa_cons (pv 4) pa_nil)) ip_add)
      pss_nil) pss_nil)
      pss_nil))
      (pss_cons (ps_ret (pe_cmpR (op_eqD hr.units) (pv 3) (pe_op op_addU (pe_op op_sub (pe_ix ix_seq (pe_ix ix_seq (pv 1) (pe_un un_neg pe_int) (fun _ _ => rfl)) pe_int (fun _ _ => rfl)) (pe_ix ix_seq (pe_ix ix_seq (pv 1) pe_int (fun _ _ => rfl)) pe_int (fun _ _ => rfl))) pe_int) (nomark _)))
      pss_nil))), body_P h fun ds O hl => ?_⟩
  have h1 := h.1
  obtain ⟨v_0, v_1, v_2, rfl⟩ := ls3 (l := vs) (by first | exact h1 | exact Nat.succ.inj h1)
  obtain ⟨x_0, x_1, x_2, rfl⟩ := ls3 (l := ds) (by first | exact hl.symm | exact hl)
  refine ⟨_, rfl, ?_⟩
  refine sv_st (σ' := [some v_0, some v_1, some v_2, none, none, none, none]) rfl ?_
  refine sv_asg sub0 ev_int (σ' := (fun v1 => [some v_0, some v_1, some v_2, some v1, none, none, none])) (fun _ => rfl) fun v1 x17 => ?_
  refine sv_seq (J1 := (fun (s2 : D) σ' L2 C2 => ∃ (v3 : V) (o4 : Option V) (o5 : Option V) (o6 : Option V), σ' = [some v_0, some v_1, some v_2, some v3, o4, o5, o6] ∧ L2 = ([(v3, s2)] : List (V × D)) ∧ C2 = (fun _ => []))) (sv_for sub0 (iv_seq (ev_var rfl (.tail _ (.tail _ (.head _))))) ⟨v1, none, none, none, rfl, rfl, rfl⟩ (lcons (.head _) lnil) (by intro s2 _ _ _ hJ; obtain ⟨v3, o4, o5, o6, rfl, rfl, rfl⟩ := hJ; exact sub0) ?_) ?_
  · intro s2 _ _ _ hJ v7 x8
    obtain ⟨v3, o4, o5, o6, rfl, rfl, rfl⟩ := hJ
    refine tg_tup3 (.head _) fun v9 v10 v11 x12 x13 x14 => tgs_cons (tg_name (σ' := [some v_0, some v_1, some v_2, some v3, some v9, o5, o6]) rfl (tgs_cons (tg_name (σ' := [some v_0, some v_1, some v_2, some v3, some v9, some v10, o6]) rfl (tgs_cons (tg_name (σ' := [some v_0, some v_1, some v_2, some v3, some v9, some v10, some v11]) rfl (tgs_nil (?_)))))))
    refine sv_if sub0 (tv_test (ev_op os_le (ev_var rfl (.tail _ (.head _))) (ev_var rfl (.tail _ (.tail _ (.head _)))))) ?_ ?_
    · refine sv_assoc ?_
      refine sv_aug sub0 os_ipa rfl (.tail _ (.tail _ (.tail _ (.tail _ (.head _))))) (ev_count (ev_slice (ev_var rfl (.tail _ (.tail _ (.tail _ (.tail _ (.tail _ (.tail _ (.tail _ (.tail _ (.head _)))))))))) (pv_some (ev_op os_add (ev_var rfl (.tail _ (.head _))) (ev_var rfl (.tail _ (.tail _ (.tail _ (.tail _ (.tail _ (.tail _ (.head _)))))))))) (pv_some (ev_op os_add (ev_op os_add (ev_var rfl (.tail _ (.tail _ (.head _)))) (ev_var rfl (.tail _ (.tail _ (.tail _ (.tail _ (.tail _ (.tail _ (.head _))))))))) ev_int))) (ev_var rfl (.head _))) (σ' := (fun v15 => [some v_0, some v_1, some v_2, some v15, some v9, some v10, some v11])) (fun _ => rfl) fun v15 x16 => ?_
      refine sv_skip ?_
      exact sv_nil ⟨v15, (some v9), (some v10), (some v11), rfl, rfl, rfl⟩ (lcons (.head _) lnil)
    · refine sv_skip ?_
      exact sv_nil ⟨v3, (some v9), (some v10), (some v11), rfl, rfl, rfl⟩ (lcons (.tail _ (.tail _ (.tail _ (.tail _ (.head _))))) lnil)
  · intro s2 _ _ _ hJ
    obtain ⟨v3, o4, o5, o6, rfl, rfl, rfl⟩ := hJ
    exact sv_ret sub0 (ev_op os_eq (ev_var rfl (.head _)) (ev_op os_add (ev_op os_sub (ev_op os_idx (ev_op os_idx (ev_var rfl (.tail _ (.tail _ (.tail _ (.head _))))) (ev_un us_neg ev_int)) ev_int) (ev_op os_idx (ev_op os_idx (ev_var rfl (.tail _ (.tail _ (.tail _ (.head _))))) ev_int) ev_int)) ev_int))
set_option maxHeartbeats 0 in
theorem ok_wrong_looks (T : Txt K mg) : FnOk P w K mg base CX0 1 T.a_wrong_looks T.fd_wrong_looks ["half", "spans", "row"] (SpP K 3 (u3 m_wrong_looks)) := by
  refine T.F_wrong_looks.ok sc_wrong_looks (fun vs H Q E h => h.1) (fun cdv A outer s H vs Q E hr h => ?_)
  refine ⟨_, (pss_cons (ps_set (i := 3) sc_wrong_looks.nd rfl (Or.inl rfl) (pe_lst pa_nil))
      (pss_cons (ps_set (i := 4) sc_wrong_looks.nd rfl (Or.inl rfl) (pe_ix ix_seq (pe_ix ix_seq (pv 1) (pe_un un_neg pe_int) (fun _ _ => rfl)) pe_int (fun _ _ => rfl)))
      (pss_cons (ps_par (i := 5) (j := 6) (by rfl) sc_wrong_looks.nd rfl rfl (by decide) rfl rfl (pa_cons (pe_ix ix_seq (pe_ix ix_seq (pv 1) pe_int (fun _ _ => rfl)) pe_int (fun _ _ => rfl)) (pa_cons (pe_ix ix_seq (pe_ix ix_seq (pv 1) (pe_un un_neg pe_int) (fun _ _ => rfl)) pe_int (fun _ _ => rfl)) pa_nil)) (by rfl))
      (pss_cons (ps_for PassesOwn.never rfl (pi_enumS (by rfl) T.z_enumerate (pa_cons (pe_slice sl_u (pv 2) (po_some (pe_op op_addU (pv 5) (pv 0))) (po_some (pe_op op_addU (pe_op op_addU (pv 6) (pv 0)) pe_int))) pa_nil) (pk_cons (pv 5) pk_nil)) (pg_tup rfl (pgs_cons (pg_name (i := 7) sc_wrong_looks.nd rfl (Or.inl rfl)) (pgs_cons (pg_name (i := 8) sc_wrong_looks.nd rfl (Or.inl rfl)) pgs_nil))) (pss_cons (ps_if (PW.pt (pw_or (pt_cmpR op_isU (pv 8) pe_non (nomark _)) (pw_or1 (pt_not (pt_chain op_le op_le (pe_ix ix_seq (pe_ix ix_seq (pv 1) (pe_op op_addU (pv 8) (pv 4)) (fun _ _ => rfl)) pe_int (fun _ _ => rfl)) (pv 7) (pe_ix ix_seq (pe_ix ix_seq (pv 1) (pe_op op_addU (pv 8) (pv 4)) (fun _ _ => rfl)) pe_int (fun _ _ => rfl))))))) (pss_cons (ps_expr (pe_bm PySem.F.plainAttrs_list PySem.F.slot_list_append PySem.F.type_list_append mt_append (pv 3) (pa_cons (pv 7) pa_nil)))
      pss_nil) pss_nil)
      pss_nil))
      (pss_cons (ps_ret (pv 3))
      pss_nil))))), body_P h fun ds O hl => ?_⟩
  have h1 := h.1
  obtain ⟨v_0, v_1, v_2, rfl⟩ := ls3 (l := vs) (by first | exact h1 | exact Nat.succ.inj h1)
  obtain ⟨x_0, x_1, x_2, rfl⟩ := ls3 (l := ds) (by first | exact hl.symm | exact hl)
  refine ⟨_, rfl, ?_⟩
  refine sv_st (σ' := [some v_0, some v_1, some v_2, none, none, none, none, none, none]) rfl ?_
  refine sv_new sub0 av_nil (σ' := fun v2 => [some v_0, some v_1, some v_2, some v2, none, none, none, none, none]) (fun _ => rfl) (C' := fun p1 looks m => [rootL K p1 looks]) (fun p1 looks m => (List.perm_append_singleton _ []).symm) fun p1 looks hp1 => ?_
  refine sv_asg sub0 (ev_op os_idx (ev_op os_idx (ev_var rfl (.tail _ (.head _))) (ev_un us_neg ev_int)) ev_int) (σ' := (fun v3 => [some v_0, some v_1, some v_2, some (.ref p1), some v3, none, none, none, none])) (fun _ => rfl) fun v3 x17 => ?_
  refine sv_par2 sub0 (av_cons (ev_op os_idx (ev_op os_idx (ev_var rfl (.tail _ (.tail _ (.head _)))) ev_int) ev_int) (av_cons (ev_op os_idx (ev_op os_idx (ev_var rfl (.tail _ (.tail _ (.head _)))) (ev_un us_neg ev_int)) ev_int) av_nil)) (σ' := fun v4 v5 => [some v_0, some v_1, some v_2, some (.ref p1), some v3, some v4, some v5, none, none]) (fun _ _ => rfl) fun v4 v5 x15 x16 => ?_
  refine sv_seq (J1 := (fun (s6 : D) σ' L2 C2 => ∃ (o7 : Option V) (o8 : Option V), σ' = [some v_0, some v_1, some v_2, some (.ref p1), some v3, some v4, some v5, o7, o8] ∧ L2 = ([] : List (V × D)) ∧ C2 = (fun _ => [rootL K p1 s6]))) (sv_for sub0 (iv_enumS (av_cons (ev_slice (ev_var rfl (.tail _ (.tail _ (.tail _ (.tail _ (.tail _ (.head _))))))) (pv_some (ev_op os_add (ev_var rfl (.head _)) (ev_var rfl (.tail _ (.tail _ (.tail _ (.head _))))))) (pv_some (ev_op os_add (ev_op os_add (ev_var rfl (.tail _ (.head _))) (ev_var rfl (.tail _ (.tail _ (.tail _ (.head _)))))) ev_int))) av_nil) (av_cons (ev_var rfl (.head _)) av_nil)) ⟨none, none, rfl, rfl, rfl⟩ lnil (by intro s6 _ _ _ hJ; obtain ⟨o7, o8, rfl, rfl, rfl⟩ := hJ; exact sub0) ?_) ?_
  · intro s6 _ _ _ hJ v9 x10
    obtain ⟨o7, o8, rfl, rfl, rfl⟩ := hJ
    refine tg_tup2 (.head _) fun v11 v12 x13 x14 => tgs_cons (tg_name (σ' := [some v_0, some v_1, some v_2, some (.ref p1), some v3, some v4, some v5, some v11, o8]) rfl (tgs_cons (tg_name (σ' := [some v_0, some v_1, some v_2, some (.ref p1), some v3, some v4, some v5, some v11, some v12]) rfl (tgs_nil (?_)))))
    refine sv_if sub0 (tv_or (tv_test (ev_op os_is (ev_var rfl (.tail _ (.head _))) ev_non)) (tv_not (tv_test (ev_chain os_le os_le (ev_op os_idx (ev_op os_idx (ev_var rfl (.tail _ (.tail _ (.tail _ (.tail _ (.tail _ (.tail _ (.tail _ (.head _))))))))) (ev_op os_add (ev_var rfl (.tail _ (.head _))) (ev_var rfl (.tail _ (.tail _ (.tail _ (.tail _ (.tail _ (.head _))))))))) ev_int) (ev_var rfl (.head _)) (ev_op os_idx (ev_op os_idx (ev_var rfl (.tail _ (.tail _ (.tail _ (.tail _ (.tail _ (.tail _ (.tail _ (.head _))))))))) (ev_op os_add (ev_var rfl (.tail _ (.head _))) (ev_var rfl (.tail _ (.tail _ (.tail _ (.tail _ (.tail _ (.head _))))))))) ev_int))))) ?_ ?_
    · refine sv_assoc ?_
      refine sv_app sub0 rfl (ev_var rfl (.head _)) (Z := fun m => []) (fun m => List.perm_middle (l₁ := []) (l₂ := [])) (C' := fun d m => [rootL K p1 d]) (fun d m => (List.perm_middle (l₁ := []) (l₂ := [])).symm) fun looks1 => ?_
      refine sv_skip ?_
      exact sv_nil ⟨(some v11), (some v12), rfl, rfl, rfl⟩ lnil
    · refine sv_skip ?_
      exact sv_nil ⟨(some v11), (some v12), rfl, rfl, rfl⟩ lnil
  · intro s6 _ _ _ hJ
    obtain ⟨o7, o8, rfl, rfl, rfl⟩ := hJ
    refine sv_freeze (C' := fun m => []) (fun m => List.perm_middle (l₁ := []) (l₂ := [])) hp1 ?_
    exact sv_ret sub0 (ev_var rfl (.head _))
set_option maxHeartbeats 0 in
theorem ok_first_wrong (T : Txt K mg) : FnOk P w K mg base CX0 2 T.a_first_wrong T.fd_first_wrong ["half", "sheet", "table"] (SpP K 3 (u3 m_first_wrong)) := by
  refine T.F_first_wrong.ok sc_first_wrong (fun vs H Q E h => h.1) (fun cdv A outer s H vs Q E hr h => ?_)
  refine ⟨_, (pss_cons (ps_for PassesOwn.never rfl (RZ.pi_zipA (by rfl) T.z_zip (pa_cons (pv 1) (pa_cons (pv 2) pa_nil))) (pg_tup rfl (pgs_cons (pg_tup rfl (pgs_cons (pg_name (i := 3) sc_first_wrong.nd rfl (Or.inl rfl)) (pgs_cons (pg_name (i := 4) sc_first_wrong.nd rfl (Or.inl rfl)) pgs_nil))) (pgs_cons (pg_name (i := 5) sc_first_wrong.nd rfl (Or.inl rfl)) pgs_nil))) (pss_cons (ps_if (pt_not (pt_truth (pe_call (ok_is_right T) (hr.mono (by decide)) rfl T.m_is_right T.F_is_right.kp T.b_is_right .nil pass0 (pa_cons (pv 0) (pa_cons (pv 4) (pa_cons (pv 5) pa_nil)))) (by intro _; rfl))) (pss_cons (ps_ret (pe_tup (pa_cons (pv 3) (pa_cons (pe_ix ix_seq (pe_call (ok_wrong_looks T) (hr.mono (by decide)) rfl T.m_wrong_looks T.F_wrong_looks.kp T.b_wrong_looks .nil pass0 (pa_cons (pv 0) (pa_cons (pv 4) (pa_cons (pv 5) pa_nil)))) pe_int (fun _ _ => rfl)) pa_nil))))
      pss_nil) pss_nil)
      pss_nil))
      (pss_cons (ps_ret pe_non)
      pss_nil)), body_P h fun ds O hl => ?_⟩
  have h1 := h.1
  obtain ⟨v_0, v_1, v_2, rfl⟩ := ls3 (l := vs) (by first | exact h1 | exact Nat.succ.inj h1)
  obtain ⟨x_0, x_1, x_2, rfl⟩ := ls3 (l := ds) (by first | exact hl.symm | exact hl)
  refine ⟨_, rfl, ?_⟩
  refine sv_st (σ' := [some v_0, some v_1, some v_2, none, none, none]) rfl ?_
  refine sv_seq (J1 := (fun (s1 : Unit) σ' L2 C2 => ∃ (o2 : Option V) (o3 : Option V) (o4 : Option V), σ' = [some v_0, some v_1, some v_2, o3, o4, o2] ∧ L2 = ([] : List (V × D)) ∧ C2 = (fun _ => []))) (sv_for sub0 (iv_zip (av_cons (ev_var rfl (.tail _ (.head _))) (av_cons (ev_var rfl (.tail _ (.tail _ (.head _)))) av_nil))) ⟨none, none, none, rfl, rfl, rfl⟩ lnil (by intro s1 _ _ _ hJ; obtain ⟨o2, o3, o4, rfl, rfl, rfl⟩ := hJ; exact sub0) ?_) ?_
  · intro s1 _ _ _ hJ v5 x6
    obtain ⟨o2, o3, o4, rfl, rfl, rfl⟩ := hJ
    refine tg_tup2 (.head _) fun v7 v8 x10 x11 => tgs_cons (tg_tup2 (.head _) fun v12 v13 x14 x15 => tgs_cons (tg_name (σ' := [some v_0, some v_1, some v_2, some v12, o4, o2]) rfl (tgs_cons (tg_name (σ' := [some v_0, some v_1, some v_2, some v12, some v13, o2]) rfl (tgs_nil (tgs_cons (tg_name (σ' := [some v_0, some v_1, some v_2, some v12, some v13, some v8]) rfl (tgs_nil (?_)))))))))
    refine sv_if sub0 (tv_not (tv_tr (ev_cP (fun _ => u3_len) (av_cons (ev_var rfl (.tail _ (.tail _ (.tail _ (.tail _ (.tail _ (.head _))))))) (av_cons (ev_var rfl (.tail _ (.head _))) (av_cons (ev_var rfl (.tail _ (.tail _ (.tail _ (.head _))))) av_nil)))))) ?_ ?_
    · refine sv_assoc ?_
      exact sv_ret sub0 (ev_tup (av_cons (ev_var rfl (.head _)) (av_cons (ev_op os_idx (ev_cP (fun _ => u3_len) (av_cons (ev_var rfl (.tail _ (.tail _ (.tail _ (.tail _ (.tail _ (.head _))))))) (av_cons (ev_var rfl (.tail _ (.head _))) (av_cons (ev_var rfl (.tail _ (.tail _ (.tail _ (.head _))))) av_nil)))) ev_int) av_nil)))
    · refine sv_skip ?_
      exact sv_nil ⟨(some v8), (some v12), (some v13), rfl, rfl, rfl⟩ lnil
  · intro s1 _ _ _ hJ
    obtain ⟨o2, o3, o4, rfl, rfl, rfl⟩ := hJ
    exact sv_ret sub0 ev_non
set_option maxHeartbeats 0 in
theorem ok_half_of (T : Txt K mg) : FnOk P w K mg base CX0 1 T.a_half_of T.fd_half_of ["kind", "looks"] (SpP K 2 (u2 m_half_of)) := by
  refine T.F_half_of.ok sc_half_of (fun vs H Q E h => h.1) (fun cdv A outer s H vs Q E hr h => ?_)
  refine ⟨_, (pss_cons (ps_ret (pe_op op_addU (pe_op op_shlW (pe_ix ix_seq (pv 0) pe_int (fun _ _ => rfl)) (pe_ix ix_seq (pv 1) pe_int (fun _ _ => rfl))) pe_int))
      pss_nil), body_P h fun ds O hl => ?_⟩
  have h1 := h.1
  obtain ⟨v_0, v_1, rfl⟩ := ls2 (l := vs) (by first | exact h1 | exact Nat.succ.inj h1)
  obtain ⟨x_0, x_1, rfl⟩ := ls2 (l := ds) (by first | exact hl.symm | exact hl)
  refine ⟨_, rfl, ?_⟩
  refine sv_st (σ' := [some v_0, some v_1]) rfl ?_
  exact sv_ret sub0 (ev_op os_add (ev_op os_shl (ev_op os_idx (ev_var rfl (.head _)) ev_int) (ev_op os_idx (ev_var rfl (.tail _ (.head _))) ev_int)) ev_int)
set_option maxHeartbeats 0 in
theorem ok_first_top (T : Txt K mg) : FnOk P w K mg base CX0 1 T.a_first_top T.fd_first_top ["looks"] (SpP K 1 (u1 m_first_top)) := by
  refine T.F_first_top.ok sc_first_top (fun vs H Q E h => h.1) (fun cdv A outer s H vs Q E hr h => ?_)
  refine ⟨_, (pss_cons (ps_ret (pe_op op_shlW pe_int (pe_op op_sub (pe_ix ix_seq (pv 0) pe_int (fun _ _ => rfl)) pe_int)))
      pss_nil), body_P h fun ds O hl => ?_⟩
  have h1 := h.1
  obtain ⟨v_0, rfl⟩ := ls1 (l := vs) (by first | exact h1 | exact Nat.succ.inj h1)
  obtain ⟨x_0, rfl⟩ := ls1 (l := ds) (by first | exact hl.symm | exact hl)
  refine ⟨_, rfl, ?_⟩
  refine sv_st (σ' := [some v_0]) rfl ?_
  exact sv_ret sub0 (ev_op os_shl ev_int (ev_op os_sub (ev_op os_idx (ev_var rfl (.head _)) ev_int) ev_int))
set_option maxHeartbeats 0 in
theorem ok_tops_of (T : Txt K mg) : FnOk P w K mg base CX0 2 T.a_tops_of T.fd_tops_of ["looks"] (SpP K 1 (u1 m_tops_of)) := by
  refine T.F_tops_of.ok sc_tops_of (fun vs H Q E h => h.1) (fun cdv A outer s H vs Q E hr h => ?_)
  refine ⟨_, (pss_cons (ps_set (i := 1) sc_tops_of.nd rfl (Or.inl rfl) (pe_call (ok_first_top T) (hr.mono (by decide)) rfl T.m_first_top T.F_first_top.kp T.b_first_top .nil pass0 (pa_cons (pv 0) pa_nil)))
      (pss_cons (ps_ret (pe_listRg rfl (by rfl) T.z_list (prg_2 (by rfl) T.z_range (pv 1) (pe_op op_mulU pe_int (pv 1)))))
      pss_nil)), body_P h fun ds O hl => ?_⟩
  have h1 := h.1
  obtain ⟨v_0, rfl⟩ := ls1 (l := vs) (by first | exact h1 | exact Nat.succ.inj h1)
  obtain ⟨x_0, rfl⟩ := ls1 (l := ds) (by first | exact hl.symm | exact hl)
  refine ⟨_, rfl, ?_⟩
  refine sv_st (σ' := [some v_0, none]) rfl ?_
  refine sv_asg sub0 (ev_cP (fun _ => u1_len) (av_cons (ev_var rfl (.head _)) av_nil)) (σ' := (fun v1 => [some v_0, some v1])) (fun _ => rfl) fun v1 x2 => ?_
  exact sv_ret sub0 (ev_lrg2 (ev_var rfl (.head _)) (ev_op os_mul ev_int (ev_var rfl (.head _))))
set_option maxHeartbeats 0 in
theorem ok_ends_of_top (T : Txt K mg) : FnOk P w K mg base CX0 1 T.a_ends_of_top T.fd_ends_of_top ["looks", "fresh", "top"] (SpP K 3 (u3 m_ends_of_top)) := by
  refine T.F_ends_of_top.ok sc_ends_of_top (fun vs H Q E h => h.1) (fun cdv A outer s H vs Q E hr h => ?_)
  refine ⟨_, (pss_cons (ps_set (i := 3) sc_ends_of_top.nd rfl (Or.inl rfl) (pe_op op_shlW pe_int (pe_ix ix_seq (pv 0) pe_int (fun _ _ => rfl))))
      (pss_cons (ps_ret (pe_tup (pa_cons (pe_op op_sub (pe_op op_shlW (pv 2) (pv 1)) (pv 3)) (pa_cons (pe_op op_addU (pe_op op_shlW (pe_op op_addU (pv 2) pe_int) (pv 1)) (pv 3)) pa_nil))))
      pss_nil)), body_P h fun ds O hl => ?_⟩
  have h1 := h.1
  obtain ⟨v_0, v_1, v_2, rfl⟩ := ls3 (l := vs) (by first | exact h1 | exact Nat.succ.inj h1)
  obtain ⟨x_0, x_1, x_2, rfl⟩ := ls3 (l := ds) (by first | exact hl.symm | exact hl)
  refine ⟨_, rfl, ?_⟩
  refine sv_st (σ' := [some v_0, some v_1, some v_2, none]) rfl ?_
  refine sv_asg sub0 (ev_op os_shl ev_int (ev_op os_idx (ev_var rfl (.head _)) ev_int)) (σ' := (fun v1 => [some v_0, some v_1, some v_2, some v1])) (fun _ => rfl) fun v1 x2 => ?_
  exact sv_ret sub0 (ev_tup (av_cons (ev_op os_sub (ev_op os_shl (ev_var rfl (.tail _ (.tail _ (.tail _ (.head _))))) (ev_var rfl (.tail _ (.tail _ (.head _))))) (ev_var rfl (.head _))) (av_cons (ev_op os_add (ev_op os_shl (ev_op os_add (ev_var rfl (.tail _ (.tail _ (.tail _ (.head _))))) ev_int) (ev_var rfl (.tail _ (.tail _ (.head _))))) (ev_var rfl (.head _))) av_nil)))
set_option maxHeartbeats 0 in
theorem ok_curved (T : Txt K mg) : FnOk P w K mg base CX0 1 T.a_curved T.fd_curved ["kind", "looks", "fresh", "slope", "x"] (SpP K 5 (u5 m_curved)) := by
  refine T.F_curved.ok sc_curved (fun vs H Q E h => h.1) (fun cdv A outer s H vs Q E hr h => ?_)
  refine ⟨_, (pss_cons (ps_set (i := 5) sc_curved.nd rfl (Or.inl rfl) (pe_ix ix_seq (pv 0) pe_int (fun _ _ => rfl)))
      (pss_cons (ps_asg (pv 1) (pg_tup rfl (pgs_cons (pg_name (i := 6) sc_curved.nd rfl (Or.inl rfl)) (pgs_cons (pg_name (i := 7) sc_curved.nd rfl (Or.inl rfl)) pgs_nil))))
      (pss_cons (ps_set (i := 8) sc_curved.nd rfl (Or.inl rfl) (pe_op op_mulU (pv 3) (pe_op op_addU (pe_op op_mulU (pe_op op_mulU (pe_op op_mulU pe_int (pv 5)) (pe_op op_sub (pv 5) pe_int)) (pv 4)) (pe_op op_shlW (pv 3) (pv 6)))))
      (pss_cons (ps_ret (pe_tup (pa_cons (pe_op op_shlW (pv 8) (pv 7)) (pa_cons (pe_op op_shlW (pe_op op_mulU (pe_op op_mulU (pv 5) (pe_op op_sub (pv 5) pe_int)) (pe_op op_sub (pv 5) pe_int)) (pe_op op_addU (pe_op op_addU (pv 6) (pv 2)) pe_int)) pa_nil))))
      pss_nil)))), body_P h fun ds O hl => ?_⟩
  have h1 := h.1
  obtain ⟨v_0, v_1, v_2, v_3, v_4, rfl⟩ := ls5 (l := vs) (by first | exact h1 | exact Nat.succ.inj h1)
  obtain ⟨x_0, x_1, x_2, x_3, x_4, rfl⟩ := ls5 (l := ds) (by first | exact hl.symm | exact hl)
  refine ⟨_, rfl, ?_⟩
  refine sv_st (σ' := [some v_0, some v_1, some v_2, some v_3, some v_4, none, none, none, none]) rfl ?_
  refine sv_asg sub0 (ev_op os_idx (ev_var rfl (.head _)) ev_int) (σ' := (fun v1 => [some v_0, some v_1, some v_2, some v_3, some v_4, some v1, none, none, none])) (fun _ => rfl) fun v1 x11 => ?_
  refine sv_asgT sub0 (ev_var rfl (.tail _ (.tail _ (.head _)))) fun v2 x10 => tg_tup2 (.head _) fun v4 v5 x6 x7 => tgs_cons (tg_name (σ' := [some v_0, some v_1, some v_2, some v_3, some v_4, some v1, some v4, none, none]) rfl (tgs_cons (tg_name (σ' := [some v_0, some v_1, some v_2, some v_3, some v_4, some v1, some v4, some v5, none]) rfl (tgs_nil (?_)))))
  refine sv_asg sub0 (ev_op os_mul (ev_var rfl (.tail _ (.tail _ (.tail _ (.tail _ (.tail _ (.tail _ (.tail _ (.head _))))))))) (ev_op os_add (ev_op os_mul (ev_op os_mul (ev_op os_mul ev_int (ev_var rfl (.tail _ (.tail _ (.tail _ (.head _)))))) (ev_op os_sub (ev_var rfl (.tail _ (.tail _ (.tail _ (.head _))))) ev_int)) (ev_var rfl (.tail _ (.tail _ (.tail _ (.tail _ (.tail _ (.tail _ (.tail _ (.tail _ (.head _))))))))))) (ev_op os_shl (ev_var rfl (.tail _ (.tail _ (.tail _ (.tail _ (.tail _ (.tail _ (.tail _ (.head _))))))))) (ev_var rfl (.head _))))) (σ' := (fun v8 => [some v_0, some v_1, some v_2, some v_3, some v_4, some v1, some v4, some v5, some v8])) (fun _ => rfl) fun v8 x9 => ?_
  exact sv_ret sub0 (ev_tup (av_cons (ev_op os_shl (ev_var rfl (.head _)) (ev_var rfl (.tail _ (.tail _ (.head _))))) (av_cons (ev_op os_shl (ev_op os_mul (ev_op os_mul (ev_var rfl (.tail _ (.tail _ (.tail _ (.tail _ (.head _)))))) (ev_op os_sub (ev_var rfl (.tail _ (.tail _ (.tail _ (.tail _ (.head _)))))) ev_int)) (ev_op os_sub (ev_var rfl (.tail _ (.tail _ (.tail _ (.tail _ (.head _)))))) ev_int)) (ev_op os_add (ev_op os_add (ev_var rfl (.tail _ (.head _))) (ev_var rfl (.tail _ (.tail _ (.tail _ (.tail _ (.tail _ (.tail _ (.tail _ (.head _)))))))))) ev_int)) av_nil)))
set_option maxHeartbeats 0 in
theorem ok_start_of (T : Txt K mg) : FnOk P w K mg base CX0 2 T.a_start_of T.fd_start_of ["kind", "looks", "fresh", "ends", "figure"] (SpP K 5 (u5 m_start_of)) := by
  refine T.F_start_of.ok sc_start_of (fun vs H Q E h => h.1) (fun cdv A outer s H vs Q E hr h => ?_)
  refine ⟨_, (pss_cons (ps_asg (pv 0) (pg_tup rfl (pgs_cons (pg_name (i := 5) sc_start_of.nd rfl (Or.inl rfl)) (pgs_cons (pg_name (i := 6) sc_start_of.nd rfl (Or.inl rfl)) pgs_nil))))
      (pss_cons (ps_set (i := 7) sc_start_of.nd rfl (Or.inl rfl) (pe_op op_sub (pe_op op_mulU (pv 4) (pe_op op_sub (pv 5) pe_int)) (pv 6)))
      (pss_cons (ps_asg (pe_call (ok_curved T) (hr.mono (by decide)) rfl T.m_curved T.F_curved.kp T.b_curved .nil pass0 (pa_cons (pv 0) (pa_cons (pv 1) (pa_cons (pv 2) (pa_cons (pv 7) (pa_cons (pe_ifExp (pt_cmpR op_gt (pv 7) pe_int (nomark _)) (pe_ix ix_seq (pv 3) pe_int (fun _ _ => rfl)) (pe_ix ix_seq (pv 3) pe_int (fun _ _ => rfl))) pa_nil)))))) (pg_tup rfl (pgs_cons (pg_name (i := 8) sc_start_of.nd rfl (Or.inl rfl)) (pgs_cons (pg_name (i := 9) sc_start_of.nd rfl (Or.inl rfl)) pgs_nil))))
      (pss_cons (ps_ret (pe_un un_neg (pe_op op_fdivU (pe_un un_neg (pv 8)) (pv 9))))
      pss_nil)))), body_P h fun ds O hl => ?_⟩
  have h1 := h.1
  obtain ⟨v_0, v_1, v_2, v_3, v_4, rfl⟩ := ls5 (l := vs) (by first | exact h1 | exact Nat.succ.inj h1)
  obtain ⟨x_0, x_1, x_2, x_3, x_4, rfl⟩ := ls5 (l := ds) (by first | exact hl.symm | exact hl)
  refine ⟨_, rfl, ?_⟩
  refine sv_st (σ' := [some v_0, some v_1, some v_2, some v_3, some v_4, none, none, none, none, none]) rfl ?_
  refine sv_asgT sub0 (ev_var rfl (.head _)) fun v1 x16 => tg_tup2 (.head _) fun v3 v4 x5 x6 => tgs_cons (tg_name (σ' := [some v_0, some v_1, some v_2, some v_3, some v_4, some v3, none, none, none, none]) rfl (tgs_cons (tg_name (σ' := [some v_0, some v_1, some v_2, some v_3, some v_4, some v3, some v4, none, none, none]) rfl (tgs_nil (?_)))))
  refine sv_asg sub0 (ev_op os_sub (ev_op os_mul (ev_var rfl (.tail _ (.tail _ (.tail _ (.tail _ (.tail _ (.tail _ (.tail _ (.head _))))))))) (ev_op os_sub (ev_var rfl (.head _)) ev_int)) (ev_var rfl (.tail _ (.head _)))) (σ' := (fun v7 => [some v_0, some v_1, some v_2, some v_3, some v_4, some v3, some v4, some v7, none, none])) (fun _ => rfl) fun v7 x15 => ?_
  refine sv_asgT sub0 (ev_cP (fun _ => u5_len) (av_cons (ev_var rfl (.tail _ (.tail _ (.tail _ (.tail _ (.head _)))))) (av_cons (ev_var rfl (.tail _ (.tail _ (.tail _ (.tail _ (.tail _ (.head _))))))) (av_cons (ev_var rfl (.tail _ (.tail _ (.tail _ (.tail _ (.tail _ (.tail _ (.head _)))))))) (av_cons (ev_var rfl (.head _)) (av_cons (ev_if (tv_test (ev_op os_gt (ev_var rfl (.head _)) ev_int)) (ev_op os_idx (ev_var rfl (.tail _ (.tail _ (.tail _ (.tail _ (.tail _ (.tail _ (.tail _ (.head _))))))))) ev_int) (ev_op os_idx (ev_var rfl (.tail _ (.tail _ (.tail _ (.tail _ (.tail _ (.tail _ (.tail _ (.head _))))))))) ev_int)) av_nil)))))) fun v8 x14 => tg_tup2 (.head _) fun v10 v11 x12 x13 => tgs_cons (tg_name (σ' := [some v_0, some v_1, some v_2, some v_3, some v_4, some v3, some v4, some v7, some v10, none]) rfl (tgs_cons (tg_name (σ' := [some v_0, some v_1, some v_2, some v_3, some v_4, some v3, some v4, some v7, some v10, some v11]) rfl (tgs_nil (?_)))))
  exact sv_ret sub0 (ev_un us_neg (ev_op os_fdiv (ev_un us_neg (ev_var rfl (.head _))) (ev_var rfl (.tail _ (.head _)))))
set_option maxHeartbeats 0 in
theorem ok_asked_bounds (T : Txt K mg) : FnOk P w K mg base CX0 2 T.a_asked_bounds T.fd_asked_bounds ["kind", "looks", "fresh", "ends"] (SpP K 4 (u4 m_asked_bounds)) := by
  refine T.F_asked_bounds.ok sc_asked_bounds (fun vs H Q E h => h.1) (fun cdv A outer s H vs Q E hr h => ?_)
  refine ⟨_, (pss_cons (ps_asg (pv 0) (pg_tup rfl (pgs_cons (pg_name (i := 4) sc_asked_bounds.nd rfl (Or.inl rfl)) (pgs_cons (pg_name (i := 5) sc_asked_bounds.nd rfl (Or.inl rfl)) pgs_nil))))
      (pss_cons (ps_asg (pv 1) (pg_tup rfl (pgs_cons (pg_name (i := 6) sc_asked_bounds.nd rfl (Or.inl rfl)) (pgs_cons (pg_name (i := 7) sc_asked_bounds.nd rfl (Or.inl rfl)) pgs_nil))))
      (pss_cons (ps_set (i := 8) sc_asked_bounds.nd rfl (Or.inl rfl) (pe_ix ix_seq (pv 3) pe_int (fun _ _ => rfl)))
      (pss_cons (ps_asg (pe_call (ok_curved T) (hr.mono (by decide)) rfl T.m_curved T.F_curved.kp T.b_curved .nil pass0 (pa_cons (pv 0) (pa_cons (pv 1) (pa_cons (pv 2) (pa_cons (pe_op op_mulU (pv 4) (pv 5)) (pa_cons (pv 8) pa_nil)))))) (pg_tup rfl (pgs_cons (pg_name (i := 9) sc_asked_bounds.nd rfl (Or.inl rfl)) (pgs_cons (pg_name (i := 10) sc_asked_bounds.nd rfl (Or.inl rfl)) pgs_nil))))
      (pss_cons (ps_set (i := 11) sc_asked_bounds.nd rfl (Or.inl rfl) (pe_op op_fdivU (pe_op op_shlW (pe_op op_mulU (pe_op op_mulU (pv 4) (pv 5)) (pv 8)) (pv 7)) (pe_op op_shlW (pe_op op_sub (pv 4) pe_int) (pe_op op_addU (pv 6) (pv 2)))))
      (pss_cons (ps_set (i := 12) sc_asked_bounds.nd rfl (Or.inl rfl) (pe_call (ok_half_of T) (hr.mono (by decide)) rfl T.m_half_of T.F_half_of.kp T.b_half_of .nil pass0 (pa_cons (pv 0) (pa_cons (pv 1) pa_nil))))
      (pss_cons (ps_ret (pe_tup (pa_cons (pe_callB (call_maxU rfl) (by rfl) T.z_max (by decide +kernel) (pa_cons (pe_un un_neg (pv 12)) (pa_cons (pe_op op_sub (pe_un un_neg (pv 11)) pe_int) pa_nil))) (pa_cons (pe_callB (call_min2 rfl) (by rfl) T.z_min (by decide +kernel) (pa_cons (pe_op op_sub (pv 12) pe_int) (pa_cons (pe_op op_fdivU (pv 9) (pv 10)) pa_nil))) pa_nil))))
      pss_nil))))))), body_P h fun ds O hl => ?_⟩
  have h1 := h.1
  obtain ⟨v_0, v_1, v_2, v_3, rfl⟩ := ls4 (l := vs) (by first | exact h1 | exact Nat.succ.inj h1)
  obtain ⟨x_0, x_1, x_2, x_3, rfl⟩ := ls4 (l := ds) (by first | exact hl.symm | exact hl)
  refine ⟨_, rfl, ?_⟩
  refine sv_st (σ' := [some v_0, some v_1, some v_2, some v_3, none, none, none, none, none, none, none, none, none]) rfl ?_
  refine sv_asgT sub0 (ev_var rfl (.head _)) fun v1 x27 => tg_tup2 (.head _) fun v3 v4 x5 x6 => tgs_cons (tg_name (σ' := [some v_0, some v_1, some v_2, some v_3, some v3, none, none, none, none, none, none, none, none]) rfl (tgs_cons (tg_name (σ' := [some v_0, some v_1, some v_2, some v_3, some v3, some v4, none, none, none, none, none, none, none]) rfl (tgs_nil (?_)))))
  refine sv_asgT sub0 (ev_var rfl (.tail _ (.tail _ (.tail _ (.tail _ (.head _)))))) fun v7 x26 => tg_tup2 (.head _) fun v9 v10 x11 x12 => tgs_cons (tg_name (σ' := [some v_0, some v_1, some v_2, some v_3, some v3, some v4, some v9, none, none, none, none, none, none]) rfl (tgs_cons (tg_name (σ' := [some v_0, some v_1, some v_2, some v_3, some v3, some v4, some v9, some v10, none, none, none, none, none]) rfl (tgs_nil (?_)))))
  refine sv_asg sub0 (ev_op os_idx (ev_var rfl (.tail _ (.tail _ (.tail _ (.tail _ (.tail _ (.tail _ (.tail _ (.tail _ (.tail _ (.head _))))))))))) ev_int) (σ' := (fun v13 => [some v_0, some v_1, some v_2, some v_3, some v3, some v4, some v9, some v10, some v13, none, none, none, none])) (fun _ => rfl) fun v13 x25 => ?_
  refine sv_asgT sub0 (ev_cP (fun _ => u5_len) (av_cons (ev_var rfl (.tail _ (.tail _ (.tail _ (.tail _ (.tail _ (.tail _ (.tail _ (.head _))))))))) (av_cons (ev_var rfl (.tail _ (.tail _ (.tail _ (.tail _ (.tail _ (.tail _ (.tail _ (.tail _ (.head _)))))))))) (av_cons (ev_var rfl (.tail _ (.tail _ (.tail _ (.tail _ (.tail _ (.tail _ (.tail _ (.tail _ (.tail _ (.head _))))))))))) (av_cons (ev_op os_mul (ev_var rfl (.tail _ (.tail _ (.tail _ (.tail _ (.head _)))))) (ev_var rfl (.tail _ (.tail _ (.tail _ (.tail _ (.tail _ (.head _)))))))) (av_cons (ev_var rfl (.head _)) av_nil)))))) fun v14 x24 => tg_tup2 (.head _) fun v16 v17 x18 x19 => tgs_cons (tg_name (σ' := [some v_0, some v_1, some v_2, some v_3, some v3, some v4, some v9, some v10, some v13, some v16, none, none, none]) rfl (tgs_cons (tg_name (σ' := [some v_0, some v_1, some v_2, some v_3, some v3, some v4, some v9, some v10, some v13, some v16, some v17, none, none]) rfl (tgs_nil (?_)))))
  refine sv_asg sub0 (ev_op os_fdiv (ev_op os_shl (ev_op os_mul (ev_op os_mul (ev_var rfl (.tail _ (.tail _ (.tail _ (.tail _ (.tail _ (.tail _ (.tail _ (.head _))))))))) (ev_var rfl (.tail _ (.tail _ (.tail _ (.tail _ (.tail _ (.tail _ (.tail _ (.tail _ (.head _))))))))))) (ev_var rfl (.tail _ (.tail _ (.tail _ (.head _)))))) (ev_var rfl (.tail _ (.tail _ (.tail _ (.tail _ (.tail _ (.head _)))))))) (ev_op os_shl (ev_op os_sub (ev_var rfl (.tail _ (.tail _ (.tail _ (.tail _ (.tail _ (.tail _ (.tail _ (.head _))))))))) ev_int) (ev_op os_add (ev_var rfl (.tail _ (.tail _ (.tail _ (.tail _ (.head _)))))) (ev_var rfl (.tail _ (.tail _ (.tail _ (.tail _ (.tail _ (.tail _ (.tail _ (.tail _ (.tail _ (.tail _ (.tail _ (.tail _ (.head _))))))))))))))))) (σ' := (fun v20 => [some v_0, some v_1, some v_2, some v_3, some v3, some v4, some v9, some v10, some v13, some v16, some v17, some v20, none])) (fun _ => rfl) fun v20 x23 => ?_
  refine sv_asg sub0 (ev_cP (fun _ => u2_len) (av_cons (ev_var rfl (.tail _ (.tail _ (.tail _ (.tail _ (.tail _ (.tail _ (.tail _ (.tail _ (.tail _ (.tail _ (.tail _ (.head _))))))))))))) (av_cons (ev_var rfl (.tail _ (.tail _ (.tail _ (.tail _ (.tail _ (.tail _ (.tail _ (.tail _ (.tail _ (.tail _ (.tail _ (.tail _ (.head _)))))))))))))) av_nil))) (σ' := (fun v21 => [some v_0, some v_1, some v_2, some v_3, some v3, some v4, some v9, some v10, some v13, some v16, some v17, some v20, some v21])) (fun _ => rfl) fun v21 x22 => ?_
  exact sv_ret sub0 (ev_tup (av_cons (ev_cb cs_max (av_cons (ev_un us_neg (ev_var rfl (.head _))) (av_cons (ev_op os_sub (ev_un us_neg (ev_var rfl (.tail _ (.head _)))) ev_int) av_nil))) (av_cons (ev_cb cs_min (av_cons (ev_op os_sub (ev_var rfl (.head _)) ev_int) (av_cons (ev_op os_fdiv (ev_var rfl (.tail _ (.tail _ (.head _)))) (ev_var rfl (.tail _ (.tail _ (.tail _ (.head _)))))) av_nil))) av_nil)))
set_option maxHeartbeats 0 in
theorem ok_root_spans (T : Txt K mg) : FnOk P w K mg base CX0 3 T.a_root_spans T.fd_root_spans ["kind", "looks", "fresh", "top"] (SpP K 4 (u4 m_root_spans)) := by
  refine T.F_root_spans.ok sc_root_spans (fun vs H Q E h => h.1) (fun cdv A outer s H vs Q E hr h => ?_)
  refine ⟨_, (pss_cons (ps_set (i := 4) sc_root_spans.nd rfl (Or.inl rfl) (pe_ix ix_seq (pv 0) pe_int (fun _ _ => rfl)))
      (pss_cons (ps_asg (pv 1) (pg_tup rfl (pgs_cons (pg_name (i := 5) sc_root_spans.nd rfl (Or.inl rfl)) (pgs_cons (pg_name (i := 6) sc_root_spans.nd rfl (Or.inl rfl)) pgs_nil))))
      (pss_cons (ps_set (i := 7) sc_root_spans.nd rfl (Or.inr rfl) (pe_call (ok_ends_of_top T) (hr.mono (by decide)) rfl T.m_ends_of_top T.F_ends_of_top.kp T.b_ends_of_top .nil pass0 (pa_cons (pv 1) (pa_cons (pv 2) (pa_cons (pv 3) pa_nil)))))
      (pss_cons (ps_asg (pe_call (ok_asked_bounds T) (hr.mono (by decide)) rfl T.m_asked_bounds T.F_asked_bounds.kp T.b_asked_bounds .nil pass0 (pa_cons (pv 0) (pa_cons (pv 1) (pa_cons (pv 2) (pa_cons (pv 7) pa_nil))))) (pg_tup rfl (pgs_cons (pg_name (i := 8) sc_root_spans.nd rfl (Or.inl rfl)) (pgs_cons (pg_name (i := 9) sc_root_spans.nd rfl (Or.inl rfl)) pgs_nil))))
      (pss_cons (ps_setLc (i := 10) (own := [("figure", 12)]) (g := (gName 12)) (tt := tYes) rfl sc_root_spans.nd rfl rfl (sw_true rfl rfl rfl (by decide +kernel)) (pi_range2 (by rfl) T.z_range (pa_cons (pe_op op_sub pe_int (pv 4)) (pa_cons (pe_op op_addU (pv 4) pe_int) pa_nil))) (blkOk_by (own := [("figure", 12)]) (N := ["kind", "looks", "fresh", "top", "most", "tops", "parts", "ends", "first", "last", "starts", "stops", "figure", "end"]) (sc := defScope s_root_spans) (by decide +kernel)) (fun _ _ _ _ _ => (pg_name (i := 12) sc_root_spans.nd rfl (Or.inl rfl))) (fun _ _ _ _ _ => pts_nil) (fun _ _ _ _ _ => (pe_call (ok_start_of T) (hr.mono (by decide)) (by exact rfl) T.m_start_of T.F_start_of.kp T.b_start_of .nil pass0 (pa_cons (pv 0) (pa_cons (pv 1) (pa_cons (pv 2) (pa_cons (pv 7) (pa_cons (pv 12) pa_nil))))))))
      (pss_cons (ps_setLc (i := 11) (own := [("end", 13)]) (g := (gName 13)) (tt := tYes) rfl sc_root_spans.nd rfl rfl (sw_true rfl rfl rfl (by decide +kernel)) (pi_seq (pe_call (ok_upper_ends T) (hr.mono (by decide)) rfl T.m_upper_ends T.F_upper_ends.kp T.b_upper_ends .nil pass0 (pa_cons (pv 0) (pa_cons (pe_ix ix_seq (pv 7) pe_int (fun _ _ => rfl)) (pa_cons (pe_ix ix_seq (pv 7) pe_int (fun _ _ => rfl)) (pa_cons (pe_op op_addU (pv 5) (pv 2)) (pa_cons (pv 6) pa_nil))))))) (blkOk_by (own := [("end", 13)]) (N := ["kind", "looks", "fresh", "top", "most", "tops", "parts", "ends", "first", "last", "starts", "stops", "figure", "end"]) (sc := defScope s_root_spans) (by decide +kernel)) (fun _ _ _ _ _ => (pg_name (i := 13) sc_root_spans.nd rfl (Or.inl rfl))) (fun _ _ _ _ _ => pts_nil) (fun _ _ _ _ _ => (pe_op op_sub (pv 13) pe_int)))
      (pss_cons (ps_ret (pe_call (ok_spans_between T) (hr.mono (by decide)) rfl T.m_spans_between T.F_spans_between.kp T.b_spans_between .nil pass0 (pa_cons (pv 0) (pa_cons (pe_op op_addU (pe_lst (pa_cons (pv 8) pa_nil)) (pv 10)) (pa_cons (pe_op op_addU (pv 11) (pe_lst (pa_cons (pv 9) pa_nil))) pa_nil)))))
      pss_nil))))))), body_P h fun ds O hl => ?_⟩
  have h1 := h.1
  obtain ⟨v_0, v_1, v_2, v_3, rfl⟩ := ls4 (l := vs) (by first | exact h1 | exact Nat.succ.inj h1)
  obtain ⟨x_0, x_1, x_2, x_3, rfl⟩ := ls4 (l := ds) (by first | exact hl.symm | exact hl)
  refine ⟨_, rfl, ?_⟩
  refine sv_st (σ' := [some v_0, some v_1, some v_2, some v_3, none, none, none, none, none, none, none, none, none, none]) rfl ?_
  refine sv_asg sub0 (ev_op os_idx (ev_var rfl (.head _)) ev_int) (σ' := (fun v1 => [some v_0, some v_1, some v_2, some v_3, some v1, none, none, none, none, none, none, none, none, none])) (fun _ => rfl) fun v1 x26 => ?_
  refine sv_asgT sub0 (ev_var rfl (.tail _ (.tail _ (.head _)))) fun v2 x25 => tg_tup2 (.head _) fun v4 v5 x6 x7 => tgs_cons (tg_name (σ' := [some v_0, some v_1, some v_2, some v_3, some v1, some v4, none, none, none, none, none, none, none, none]) rfl (tgs_cons (tg_name (σ' := [some v_0, some v_1, some v_2, some v_3, some v1, some v4, some v5, none, none, none, none, none, none, none]) rfl (tgs_nil (?_)))))
  refine sv_asg sub0 (ev_cP (fun _ => u3_len) (av_cons (ev_var rfl (.tail _ (.tail _ (.tail _ (.tail _ (.tail _ (.head _))))))) (av_cons (ev_var rfl (.tail _ (.tail _ (.tail _ (.tail _ (.tail _ (.tail _ (.head _)))))))) (av_cons (ev_var rfl (.tail _ (.tail _ (.tail _ (.tail _ (.tail _ (.tail _ (.tail _ (.head _))))))))) av_nil)))) (σ' := (fun v8 => [some v_0, some v_1, some v_2, some v_3, some v1, some v4, some v5, some v8, none, none, none, none, none, none])) (fun _ => rfl) fun v8 x24 => ?_
  refine sv_asgT sub0 (ev_cP (fun _ => u4_len) (av_cons (ev_var rfl (.tail _ (.tail _ (.tail _ (.tail _ (.tail _ (.head _))))))) (av_cons (ev_var rfl (.tail _ (.tail _ (.tail _ (.tail _ (.tail _ (.tail _ (.head _)))))))) (av_cons (ev_var rfl (.tail _ (.tail _ (.tail _ (.tail _ (.tail _ (.tail _ (.tail _ (.head _))))))))) (av_cons (ev_var rfl (.head _)) av_nil))))) fun v9 x23 => tg_tup2 (.head _) fun v11 v12 x13 x14 => tgs_cons (tg_name (σ' := [some v_0, some v_1, some v_2, some v_3, some v1, some v4, some v5, some v8, some v11, none, none, none, none, none]) rfl (tgs_cons (tg_name (σ' := [some v_0, some v_1, some v_2, some v_3, some v1, some v4, some v5, some v8, some v11, some v12, none, none, none, none]) rfl (tgs_nil (?_)))))
  refine sv_asg sub0 (ev_lc1 (σ2 := fun v15 => [some v_0, some v_1, some v_2, some v_3, some v1, some v4, some v5, some v8, some v11, some v12, none, none, some v15, none]) (iv_rng2 (av_cons (ev_op os_sub ev_int (ev_var rfl (.tail _ (.tail _ (.tail _ (.tail _ (.tail _ (.tail _ (.tail _ (.head _)))))))))) (av_cons (ev_op os_add (ev_var rfl (.tail _ (.tail _ (.tail _ (.tail _ (.tail _ (.tail _ (.tail _ (.head _))))))))) ev_int) av_nil))) (fun _ => rfl) (fun _ => rfl) (fun v15 x16 => tv_yes) (fun v15 x16 => (ev_cP (fun _ => u5_len) (av_cons (ev_var rfl (.tail _ (.tail _ (.tail _ (.tail _ (.tail _ (.tail _ (.tail _ (.tail _ (.tail _ (.head _))))))))))) (av_cons (ev_var rfl (.tail _ (.tail _ (.tail _ (.tail _ (.tail _ (.tail _ (.tail _ (.tail _ (.tail _ (.tail _ (.head _)))))))))))) (av_cons (ev_var rfl (.tail _ (.tail _ (.tail _ (.tail _ (.tail _ (.tail _ (.tail _ (.tail _ (.tail _ (.tail _ (.tail _ (.head _))))))))))))) (av_cons (ev_var rfl (.tail _ (.tail _ (.tail _ (.tail _ (.head _)))))) (av_cons (ev_var rfl (.head _)) av_nil)))))))) (σ' := (fun v17 => [some v_0, some v_1, some v_2, some v_3, some v1, some v4, some v5, some v8, some v11, some v12, some v17, none, none, none])) (fun _ => rfl) fun v17 x22 => ?_
  refine sv_asg sub0 (ev_lc1 (σ2 := fun v18 => [some v_0, some v_1, some v_2, some v_3, some v1, some v4, some v5, some v8, some v11, some v12, some v17, none, none, some v18]) (iv_seq (ev_cP (fun _ => u5_len) (av_cons (ev_var rfl (.tail _ (.tail _ (.tail _ (.tail _ (.tail _ (.tail _ (.tail _ (.tail _ (.tail _ (.head _))))))))))) (av_cons (ev_op os_idx (ev_var rfl (.tail _ (.tail _ (.tail _ (.tail _ (.head _)))))) ev_int) (av_cons (ev_op os_idx (ev_var rfl (.tail _ (.tail _ (.tail _ (.tail _ (.head _)))))) ev_int) (av_cons (ev_op os_add (ev_var rfl (.tail _ (.tail _ (.tail _ (.tail _ (.tail _ (.head _))))))) (ev_var rfl (.tail _ (.tail _ (.tail _ (.tail _ (.tail _ (.tail _ (.tail _ (.tail _ (.tail _ (.tail _ (.tail _ (.head _)))))))))))))) (av_cons (ev_var rfl (.tail _ (.tail _ (.tail _ (.tail _ (.tail _ (.tail _ (.head _)))))))) av_nil))))))) (fun _ => rfl) (fun _ => rfl) (fun v18 x19 => tv_yes) (fun v18 x19 => (ev_op os_sub (ev_var rfl (.head _)) ev_int))) (σ' := (fun v20 => [some v_0, some v_1, some v_2, some v_3, some v1, some v4, some v5, some v8, some v11, some v12, some v17, some v20, none, none])) (fun _ => rfl) fun v20 x21 => ?_
  exact sv_ret sub0 (ev_cP (fun _ => u3_len) (av_cons (ev_var rfl (.tail _ (.tail _ (.tail _ (.tail _ (.tail _ (.tail _ (.tail _ (.tail _ (.tail _ (.tail _ (.head _)))))))))))) (av_cons (ev_op os_add (ev_lst (av_cons (ev_var rfl (.tail _ (.tail _ (.head _)))) av_nil)) (ev_var rfl (.tail _ (.head _)))) (av_cons (ev_op os_add (ev_var rfl (.head _)) (ev_lst (av_cons (ev_var rfl (.tail _ (.tail _ (.tail _ (.head _))))) av_nil))) av_nil))))
set_option maxHeartbeats 0 in
theorem ok_root_sheet (T : Txt K mg) : FnOk P w K mg base CX0 4 T.a_root_sheet T.fd_root_sheet ["kind", "looks", "fresh"] (SpP K 3 (u3 m_root_sheet)) := by
  refine T.F_root_sheet.ok sc_root_sheet (fun vs H Q E h => h.1) (fun cdv A outer s H vs Q E hr h => ?_)
  refine ⟨_, (pss_cons (ps_ret (pe_lc (own := [("top", 3)]) (g := (gName 3)) (tt := tYes) rfl sc_root_sheet.nd (pi_seq (pe_call (ok_tops_of T) (hr.mono (by decide)) rfl T.m_tops_of T.F_tops_of.kp T.b_tops_of .nil pass0 (pa_cons (pv 1) pa_nil))) (blkOk_by (own := [("top", 3)]) (N := ["kind", "looks", "fresh", "top"]) (sc := defScope s_root_sheet) (by decide +kernel)) (fun _ _ _ _ _ => (pg_name (i := 3) sc_root_sheet.nd rfl (Or.inl rfl))) (fun _ _ _ _ _ => pts_nil) (fun _ _ _ _ _ => (pe_tup (pa_cons (pv 3) (pa_cons (pe_call (ok_root_spans T) (hr.mono (by decide)) (by exact rfl) T.m_root_spans T.F_root_spans.kp T.b_root_spans .nil pass0 (pa_cons (pv 0) (pa_cons (pv 1) (pa_cons (pv 2) (pa_cons (pv 3) pa_nil))))) pa_nil))))))
      pss_nil), body_P h fun ds O hl => ?_⟩
  have h1 := h.1
  obtain ⟨v_0, v_1, v_2, rfl⟩ := ls3 (l := vs) (by first | exact h1 | exact Nat.succ.inj h1)
  obtain ⟨x_0, x_1, x_2, rfl⟩ := ls3 (l := ds) (by first | exact hl.symm | exact hl)
  refine ⟨_, rfl, ?_⟩
  refine sv_st (σ' := [some v_0, some v_1, some v_2, none]) rfl ?_
  exact sv_ret sub0 (ev_lc1 (σ2 := fun v1 => [some v_0, some v_1, some v_2, some v1]) (iv_seq (ev_cP (fun _ => u1_len) (av_cons (ev_var rfl (.tail _ (.head _))) av_nil))) (fun _ => rfl) (fun _ => rfl) (fun v1 x2 => tv_yes) (fun v1 x2 => (ev_tup (av_cons (ev_var rfl (.head _)) (av_cons (ev_cP (fun _ => u4_len) (av_cons (ev_var rfl (.tail _ (.head _))) (av_cons (ev_var rfl (.tail _ (.tail _ (.head _)))) (av_cons (ev_var rfl (.tail _ (.tail _ (.tail _ (.head _))))) (av_cons (ev_var rfl (.head _)) av_nil))))) av_nil)))))
set_option maxHeartbeats 0 in
theorem ok_first_root_fault (T : Txt K mg) : FnOk P w K mg base CX0 5 T.a_first_root_fault T.fd_first_root_fault ["kind", "looks", "fresh", "table"] (SpP K 4 (u4 m_first_root_fault)) := by
  refine T.F_first_root_fault.ok sc_first_root_fault (fun vs H Q E h => h.1) (fun cdv A outer s H vs Q E hr h => ?_)
  refine ⟨_, (pss_cons (ps_ret (pe_call (ok_first_wrong T) (hr.mono (by decide)) rfl T.m_first_wrong T.F_first_wrong.kp T.b_first_wrong .nil pass0 (pa_cons (pe_call (ok_half_of T) (hr.mono (by decide)) rfl T.m_half_of T.F_half_of.kp T.b_half_of .nil pass0 (pa_cons (pv 0) (pa_cons (pv 1) pa_nil))) (pa_cons (pe_call (ok_root_sheet T) (hr.mono (by decide)) rfl T.m_root_sheet T.F_root_sheet.kp T.b_root_sheet .nil pass0 (pa_cons (pv 0) (pa_cons (pv 1) (pa_cons (pv 2) pa_nil)))) (pa_cons (pv 3) pa_nil)))))
      pss_nil), body_P h fun ds O hl => ?_⟩
  have h1 := h.1
  obtain ⟨v_0, v_1, v_2, v_3, rfl⟩ := ls4 (l := vs) (by first | exact h1 | exact Nat.succ.inj h1)
  obtain ⟨x_0, x_1, x_2, x_3, rfl⟩ := ls4 (l := ds) (by first | exact hl.symm | exact hl)
  refine ⟨_, rfl, ?_⟩
  refine sv_st (σ' := [some v_0, some v_1, some v_2, some v_3]) rfl ?_
  exact sv_ret sub0 (ev_cP (fun _ => u3_len) (av_cons (ev_cP (fun _ => u2_len) (av_cons (ev_var rfl (.head _)) (av_cons (ev_var rfl (.tail _ (.head _))) av_nil))) (av_cons (ev_cP (fun _ => u3_len) (av_cons (ev_var rfl (.head _)) (av_cons (ev_var rfl (.tail _ (.head _))) (av_cons (ev_var rfl (.tail _ (.tail _ (.head _)))) av_nil)))) (av_cons (ev_var rfl (.tail _ (.tail _ (.tail _ (.head _))))) av_nil))))
set_option maxHeartbeats 0 in
theorem ok_root_table (T : Txt K mg) : FnOk P w K mg base (L2N.CX P w) 5 T.a_root_table T.fd_root_table ["kind", "looks", "fresh"] (SpPX K (rootX T.exs) 3 (u3 m_root_table)) := by
  refine okN T.F_root_table sc_root_table (fun vs H Q E h => h.1) (fun cdv A outer s H vs Q E hr h => ?_)
  refine ⟨_, (pss_cons (ps_ret (pe_call (ok_plain_rows T) (hr.mono (by decide)) rfl T.m_plain_rows T.F_plain_rows.kp T.b_plain_rows .nil (L2N.passes_call (L2N.takes_of rfl rfl rfl rfl) fun _ _ _ _ h => h) (pa_cons (pe_call (ok_half_of T) (hr.mono (by decide)) rfl T.m_half_of T.F_half_of.kp T.b_half_of .nil pass0 (pa_cons (pv 0) (pa_cons (pv 1) pa_nil))) (pa_cons (pe_call (ok_root_sheet T) (hr.mono (by decide)) rfl T.m_root_sheet T.F_root_sheet.kp T.b_root_sheet .nil pass0 (pa_cons (pv 0) (pa_cons (pv 1) (pa_cons (pv 2) pa_nil)))) pa_nil))))
      pss_nil), body_PX h fun ds O hl => ?_⟩
  have h1 := h.1
  obtain ⟨v_0, v_1, v_2, rfl⟩ := ls3 (l := vs) (by first | exact h1 | exact Nat.succ.inj h1)
  obtain ⟨x_0, x_1, x_2, rfl⟩ := ls3 (l := ds) (by first | exact hl.symm | exact hl)
  refine ⟨_, rfl, ?_⟩
  refine sv_st (σ' := [some v_0, some v_1, some v_2]) rfl ?_
  exact sv_ret sub0 (ev_cPX (fun _ => u2_len) (av_cons (ev_cP (fun _ => u2_len) (av_cons (ev_var rfl (.head _)) (av_cons (ev_var rfl (.tail _ (.head _))) av_nil))) (av_cons (ev_cP (fun _ => u3_len) (av_cons (ev_var rfl (.head _)) (av_cons (ev_var rfl (.tail _ (.head _))) (av_cons (ev_var rfl (.tail _ (.tail _ (.head _)))) av_nil)))) av_nil)))
set_option maxHeartbeats 0 in
theorem ok__law_deck (T : Txt K mg) : FnOk P w K mg base CX0 1 T.a__law_deck T.fd__law_deck ["cell", "turn"] (SpN K 2 (u2 m__law_deck)) := by
  refine T.F__law_deck.ok sc__law_deck (fun vs H Q E h => h.1) (fun cdv A outer s H vs Q E hr h => ?_)
  refine ⟨_, (pss_cons (ps_if (pt_cmpR op_ge (pv 0) (pe_op op_pow pe_int pe_int) (nomark _)) (pss_cons (ps_ret (pe_lst (pa_cons (pe_op op_sub (pv 0) (pe_op op_pow pe_int pe_int)) (pa_cons (pe_op op_mod (pv 0) pe_int) (pa_cons (pv 1) pa_nil)))))
      pss_nil) pss_nil)
      (pss_cons (ps_ret (pe_lst (pa_cons pe_int (pa_cons (pe_op op_mod (pv 0) pe_int) (pa_cons (pv 1) pa_nil)))))
      pss_nil)), body_N h fun ds O hl => ?_⟩
  have h1 := h.1
  obtain ⟨v_0, v_1, rfl⟩ := ls2 (l := vs) (by first | exact h1 | exact Nat.succ.inj h1)
  obtain ⟨x_0, x_1, rfl⟩ := ls2 (l := ds) (by first | exact hl.symm | exact hl)
  refine ⟨_, rfl, ?_⟩
  refine nv_st (σ' := [some v_0, some v_1]) rfl ?_
  refine nv_if (tv_test (ev_op os_ge (ev_var rfl (.head _)) (ev_op os_pow ev_int ev_int))) ?_ ?_
  · refine nv_assoc ?_
    exact nv_ret (av_cons (ev_op os_sub (ev_var rfl (.head _)) (ev_op os_pow ev_int ev_int)) (av_cons (ev_op os_mod (ev_var rfl (.head _)) ev_int) (av_cons (ev_var rfl (.tail _ (.head _))) av_nil)))
  · refine nv_skip ?_
    exact nv_ret (av_cons ev_int (av_cons (ev_op os_mod (ev_var rfl (.head _)) ev_int) (av_cons (ev_var rfl (.tail _ (.head _))) av_nil)))
set_option maxHeartbeats 0 in
theorem ok__law_pick (T : Txt K mg) : FnOk P w K mg base CX0 1 T.a__law_pick T.fd__law_pick ["deck", "many"] (SpD K 1 (u1 m__law_pick)) := by
  refine T.F__law_pick.ok sc__law_pick (fun vs H Q E h => h.1) (fun cdv A outer s H vs Q E hr h => ?_)
  refine ⟨_, (pss_cons (ps_if (pt_cmpR op_gt (pe_ix ix_seq (pv 0) pe_int (fun _ _ => rfl)) pe_int (nomark _)) (pss_cons (ps_set (i := 2) sc__law_pick.nd rfl (Or.inl rfl) (pe_op op_mod (pe_ix ix_seq (pv 0) pe_int (fun _ _ => rfl)) (pv 1)))
      (pss_cons (ps_asg (pe_op op_fdivU (pe_ix ix_seq (pv 0) pe_int (fun _ _ => rfl)) (pv 1)) (pg_sub (pv 0) pe_int set_list))
      (pss_cons (ps_ret (pv 2))
      pss_nil))) pss_nil)
      (pss_cons (ps_asg (pe_op op_addU (pe_ix ix_seq (pv 0) pe_int (fun _ _ => rfl)) pe_int) (pg_sub (pv 0) pe_int set_list))
      (pss_cons (ps_set (i := 3) sc__law_pick.nd rfl (Or.inl rfl) (pe_op op_mod (pe_op op_pow (pe_op op_addU (pe_ix ix_seq (pv 0) pe_int (fun _ _ => rfl)) (pe_op op_mulU pe_int (pe_ix ix_seq (pv 0) pe_int (fun _ _ => rfl)))) pe_int) pe_int))
      (pss_cons (ps_set (i := 2) sc__law_pick.nd rfl (Or.inl rfl) (pe_op op_fdivU (pe_op op_mod (pe_op op_pow (pe_op op_addU (pv 3) (pe_op op_mulU pe_int (pe_ix ix_seq (pv 0) pe_int (fun _ _ => rfl)))) pe_int) pe_int) pe_int))
      (pss_cons (ps_if (pt_cmpR op_gt (pv 1) pe_int (nomark _)) (pss_cons (ps_ret (pe_op op_mod (pe_op op_addU (pe_op op_mulU (pv 2) pe_int) (pv 3)) (pv 1)))
      pss_nil) pss_nil)
      (pss_cons (ps_ret (pe_op op_mod (pv 2) (pv 1)))
      pss_nil)))))), body_D h fun a us ds O hv hl => ?_⟩
  have h1 := h.1
  subst hv
  obtain ⟨v_1, rfl⟩ := ls1 (l := us) (by first | exact h1 | exact Nat.succ.inj h1)
  obtain ⟨x_1, rfl⟩ := ls1 (l := ds) (by first | exact hl.symm | exact hl)
  refine ⟨_, rfl, ?_⟩
  refine sv_st (σ' := [some (.ref a), some v_1, none, none]) rfl ?_
  refine sv_if sub1 (tv_test (ev_op os_gt (ev_sidx rfl ev_int) ev_int)) ?_ ?_
  · refine sv_assoc ?_
    refine sv_asg sub1 (ev_op os_mod (ev_sidx rfl ev_int) (ev_var rfl (.head _))) (σ' := (fun v1 => [some (.ref a), some v_1, some v1, none])) (fun _ => rfl) fun v1 x2 => ?_
    refine sv_assoc ?_
    refine sv_sset sub1 rfl (ev_op os_fdiv (ev_sidx rfl ev_int) (ev_var rfl (.tail _ (.head _)))) ev_int ?_
    refine sv_assoc ?_
    exact sv_ret sub1 (ev_var rfl (.head _))
  · refine sv_skip ?_
    refine sv_sset sub1 rfl (ev_op os_add (ev_sidx rfl ev_int) ev_int) ev_int ?_
    refine sv_asg sub1 (ev_op os_mod (ev_op os_pow (ev_op os_add (ev_sidx rfl ev_int) (ev_op os_mul ev_int (ev_sidx rfl ev_int))) ev_int) ev_int) (σ' := (fun v3 => [some (.ref a), some v_1, none, some v3])) (fun _ => rfl) fun v3 x6 => ?_
    refine sv_asg sub1 (ev_op os_fdiv (ev_op os_mod (ev_op os_pow (ev_op os_add (ev_var rfl (.head _)) (ev_op os_mul ev_int (ev_sidx rfl ev_int))) ev_int) ev_int) ev_int) (σ' := (fun v4 => [some (.ref a), some v_1, some v4, some v3])) (fun _ => rfl) fun v4 x5 => ?_
    refine sv_if sub1 (tv_test (ev_op os_gt (ev_var rfl (.tail _ (.tail _ (.head _)))) ev_int)) ?_ ?_
    · refine sv_assoc ?_
      exact sv_ret sub1 (ev_op os_mod (ev_op os_add (ev_op os_mul (ev_var rfl (.head _)) ev_int) (ev_var rfl (.tail _ (.head _)))) (ev_var rfl (.tail _ (.tail _ (.head _)))))
    · refine sv_skip ?_
      exact sv_ret sub1 (ev_op os_mod (ev_var rfl (.head _)) (ev_var rfl (.tail _ (.tail _ (.head _)))))
set_option maxHeartbeats 0 in
theorem ok__law_half (T : Txt K mg) : FnOk P w K mg base CX0 1 T.a__law_half T.fd__law_half ["kind", "looks"] (SpP K 2 (u2 m__law_half)) := by
  refine T.F__law_half.ok sc__law_half (fun vs H Q E h => h.1) (fun cdv A outer s H vs Q E hr h => ?_)
  refine ⟨_, (pss_cons (ps_ret (pe_op op_addU (pe_op op_mulU (pe_ix ix_seq (pv 0) pe_int (fun _ _ => rfl)) (pe_ix ix_seq (pe_lst (pa_cons pe_int (pa_cons pe_int (pa_cons pe_int (pa_cons pe_int (pa_cons pe_int (pa_cons pe_int (pa_cons pe_int (pa_cons pe_int (pa_cons pe_int (pa_cons pe_int (pa_cons pe_int pa_nil)))))))))))) (pe_ix ix_seq (pv 1) pe_int (fun _ _ => rfl)) (fun _ _ => rfl))) pe_int))
      pss_nil), body_P h fun ds O hl => ?_⟩
  have h1 := h.1
  obtain ⟨v_0, v_1, rfl⟩ := ls2 (l := vs) (by first | exact h1 | exact Nat.succ.inj h1)
  obtain ⟨x_0, x_1, rfl⟩ := ls2 (l := ds) (by first | exact hl.symm | exact hl)
  refine ⟨_, rfl, ?_⟩
  refine sv_st (σ' := [some v_0, some v_1]) rfl ?_
  exact sv_ret sub0 (ev_op os_add (ev_op os_mul (ev_op os_idx (ev_var rfl (.head _)) ev_int) (ev_op os_idx (ev_lst (av_cons ev_int (av_cons ev_int (av_cons ev_int (av_cons ev_int (av_cons ev_int (av_cons ev_int (av_cons ev_int (av_cons ev_int (av_cons ev_int (av_cons ev_int (av_cons ev_int av_nil)))))))))))) (ev_op os_idx (ev_var rfl (.tail _ (.head _))) ev_int))) ev_int)
set_option maxHeartbeats 0 in
theorem ok__law_sides (T : Txt K mg) : FnOk P w K mg base CX0 1 T.a__law_sides T.fd__law_sides ["kind", "looks", "fresh", "cell"] (SpP K 4 (u4 m__law_sides)) := by
  refine T.F__law_sides.ok sc__law_sides (fun vs H Q E h => h.1) (fun cdv A outer s H vs Q E hr h => ?_)
  refine ⟨_, (pss_cons (ps_asg (pv 1) (pg_tup rfl (pgs_cons (pg_name (i := 4) sc__law_sides.nd rfl (Or.inl rfl)) (pgs_cons (pg_name (i := 5) sc__law_sides.nd rfl (Or.inl rfl)) pgs_nil))))
      (pss_cons (ps_set (i := 6) sc__law_sides.nd rfl (Or.inl rfl) (pe_op op_shlW pe_int (pe_op op_addU (pv 4) (pv 5))))
      (pss_cons (ps_set (i := 7) sc__law_sides.nd rfl (Or.inl rfl) (pe_op op_mulU pe_int (pe_ix ix_seq (pv 0) pe_int (fun _ _ => rfl))))
      (pss_cons (ps_set (i := 8) sc__law_sides.nd rfl (Or.inl rfl) (pe_op op_sub (pe_op op_shlW (pe_ix ix_seq (pv 3) pe_int (fun _ _ => rfl)) (pe_op op_addU (pv 5) (pv 2))) (pv 6)))
      (pss_cons (ps_set (i := 9) sc__law_sides.nd rfl (Or.inl rfl) (pe_op op_addU (pe_op op_shlW (pe_op op_addU (pe_ix ix_seq (pv 3) pe_int (fun _ _ => rfl)) pe_int) (pe_op op_addU (pv 5) (pv 2))) (pv 6)))
      (pss_cons (ps_ret (pe_lst (pa_cons (pe_op op_mulU (pv 7) (pv 8)) (pa_cons (pe_op op_mulU (pv 7) (pv 9)) (pa_cons (pe_op op_shlW (pe_op op_mulU (pv 7) (pe_ix ix_seq (pv 3) pe_int (fun _ _ => rfl))) (pe_op op_addU (pv 4) (pv 2))) (pa_cons (pe_op op_shlW (pe_op op_mulU (pv 7) (pe_op op_addU (pe_ix ix_seq (pv 3) pe_int (fun _ _ => rfl)) pe_int)) (pe_op op_addU (pv 4) (pv 2))) (pa_cons (pv 6) pa_nil)))))))
      pss_nil)))))), body_P h fun ds O hl => ?_⟩
  have h1 := h.1
  obtain ⟨v_0, v_1, v_2, v_3, rfl⟩ := ls4 (l := vs) (by first | exact h1 | exact Nat.succ.inj h1)
  obtain ⟨x_0, x_1, x_2, x_3, rfl⟩ := ls4 (l := ds) (by first | exact hl.symm | exact hl)
  refine ⟨_, rfl, ?_⟩
  refine sv_st (σ' := [some v_0, some v_1, some v_2, some v_3, none, none, none, none, none, none]) rfl ?_
  refine sv_asgT sub0 (ev_var rfl (.tail _ (.head _))) fun v1 x15 => tg_tup2 (.head _) fun v3 v4 x5 x6 => tgs_cons (tg_name (σ' := [some v_0, some v_1, some v_2, some v_3, some v3, none, none, none, none, none]) rfl (tgs_cons (tg_name (σ' := [some v_0, some v_1, some v_2, some v_3, some v3, some v4, none, none, none, none]) rfl (tgs_nil (?_)))))
  refine sv_asg sub0 (ev_op os_shl ev_int (ev_op os_add (ev_var rfl (.head _)) (ev_var rfl (.tail _ (.head _))))) (σ' := (fun v7 => [some v_0, some v_1, some v_2, some v_3, some v3, some v4, some v7, none, none, none])) (fun _ => rfl) fun v7 x14 => ?_
  refine sv_asg sub0 (ev_op os_mul ev_int (ev_op os_idx (ev_var rfl (.tail _ (.tail _ (.tail _ (.tail _ (.head _)))))) ev_int)) (σ' := (fun v8 => [some v_0, some v_1, some v_2, some v_3, some v3, some v4, some v7, some v8, none, none])) (fun _ => rfl) fun v8 x13 => ?_
  refine sv_asg sub0 (ev_op os_sub (ev_op os_shl (ev_op os_idx (ev_var rfl (.tail _ (.tail _ (.tail _ (.tail _ (.tail _ (.tail _ (.tail _ (.tail _ (.head _)))))))))) ev_int) (ev_op os_add (ev_var rfl (.tail _ (.tail _ (.tail _ (.head _))))) (ev_var rfl (.tail _ (.tail _ (.tail _ (.tail _ (.tail _ (.tail _ (.tail _ (.head _))))))))))) (ev_var rfl (.tail _ (.head _)))) (σ' := (fun v9 => [some v_0, some v_1, some v_2, some v_3, some v3, some v4, some v7, some v8, some v9, none])) (fun _ => rfl) fun v9 x12 => ?_
  refine sv_asg sub0 (ev_op os_add (ev_op os_shl (ev_op os_add (ev_op os_idx (ev_var rfl (.tail _ (.tail _ (.tail _ (.tail _ (.tail _ (.tail _ (.tail _ (.tail _ (.tail _ (.head _))))))))))) ev_int) ev_int) (ev_op os_add (ev_var rfl (.tail _ (.tail _ (.tail _ (.tail _ (.head _)))))) (ev_var rfl (.tail _ (.tail _ (.tail _ (.tail _ (.tail _ (.tail _ (.tail _ (.tail _ (.head _)))))))))))) (ev_var rfl (.tail _ (.tail _ (.head _))))) (σ' := (fun v10 => [some v_0, some v_1, some v_2, some v_3, some v3, some v4, some v7, some v8, some v9, some v10])) (fun _ => rfl) fun v10 x11 => ?_
  exact sv_ret sub0 (ev_lst (av_cons (ev_op os_mul (ev_var rfl (.tail _ (.tail _ (.head _)))) (ev_var rfl (.tail _ (.head _)))) (av_cons (ev_op os_mul (ev_var rfl (.tail _ (.tail _ (.head _)))) (ev_var rfl (.head _))) (av_cons (ev_op os_shl (ev_op os_mul (ev_var rfl (.tail _ (.tail _ (.head _)))) (ev_op os_idx (ev_var rfl (.tail _ (.tail _ (.tail _ (.tail _ (.tail _ (.tail _ (.tail _ (.tail _ (.tail _ (.tail _ (.head _)))))))))))) ev_int)) (ev_op os_add (ev_var rfl (.tail _ (.tail _ (.tail _ (.tail _ (.head _)))))) (ev_var rfl (.tail _ (.tail _ (.tail _ (.tail _ (.tail _ (.tail _ (.tail _ (.tail _ (.tail _ (.head _))))))))))))) (av_cons (ev_op os_shl (ev_op os_mul (ev_var rfl (.tail _ (.tail _ (.head _)))) (ev_op os_add (ev_op os_idx (ev_var rfl (.tail _ (.tail _ (.tail _ (.tail _ (.tail _ (.tail _ (.tail _ (.tail _ (.tail _ (.tail _ (.head _)))))))))))) ev_int) ev_int)) (ev_op os_add (ev_var rfl (.tail _ (.tail _ (.tail _ (.tail _ (.head _)))))) (ev_var rfl (.tail _ (.tail _ (.tail _ (.tail _ (.tail _ (.tail _ (.tail _ (.tail _ (.tail _ (.head _))))))))))))) (av_cons (ev_var rfl (.tail _ (.tail _ (.tail _ (.head _))))) av_nil))))))
set_option maxHeartbeats 0 in
theorem ok__law_cut (T : Txt K mg) : FnOk P w K mg base CX0 1 T.a__law_cut T.fd__law_cut ["places", "x", "y", "w"] (SpP K 4 (u4 m__law_cut)) := by
  refine T.F__law_cut.ok sc__law_cut (fun vs H Q E h => h.1) (fun cdv A outer s H vs Q E hr h => ?_)
  refine ⟨_, (pss_cons (ps_set (i := 4) sc__law_cut.nd rfl (Or.inl rfl) (pe_lst pa_nil))
      (pss_cons (ps_for PassesOwn.never rfl (pi_range1 (by rfl) T.z_range (pa_cons (pe_callB call_len (by rfl) T.z_len (by decide +kernel) (pa_cons (pv 0) pa_nil)) pa_nil)) (pg_name (i := 5) sc__law_cut.nd rfl (Or.inl rfl)) (pss_cons (ps_set (i := 6) sc__law_cut.nd rfl (Or.inr rfl) (pe_ix ix_seq (pv 0) (pe_op op_sub (pv 5) pe_int) (fun _ _ => rfl)))
      (pss_cons (ps_set (i := 7) sc__law_cut.nd rfl (Or.inr rfl) (pe_ix ix_seq (pv 0) (pv 5) (fun _ _ => rfl)))
      (pss_cons (ps_set (i := 8) sc__law_cut.nd rfl (Or.inl rfl) (pe_op op_addU (pe_op op_addU (pe_op op_mulU (pv 1) (pe_ix ix_seq (pv 6) pe_int (fun _ _ => rfl))) (pe_op op_mulU (pv 2) (pe_ix ix_seq (pv 6) pe_int (fun _ _ => rfl)))) (pe_op op_mulU (pv 3) (pe_ix ix_seq (pv 6) pe_int (fun _ _ => rfl)))))
      (pss_cons (ps_set (i := 9) sc__law_cut.nd rfl (Or.inl rfl) (pe_op op_addU (pe_op op_addU (pe_op op_mulU (pv 1) (pe_ix ix_seq (pv 7) pe_int (fun _ _ => rfl))) (pe_op op_mulU (pv 2) (pe_ix ix_seq (pv 7) pe_int (fun _ _ => rfl)))) (pe_op op_mulU (pv 3) (pe_ix ix_seq (pv 7) pe_int (fun _ _ => rfl)))))
      (pss_cons (ps_if (PW.pt (pw_or (PW.pt (pw_and (pt_chain op_lt op_le (pv 8) pe_int (pv 9)) (pw_and1 (pt_cmpR op_gt (pv 9) pe_int (nomark _))))) (pw_or1 (pt_chain op_lt op_lt (pv 9) pe_int (pv 8))))) (pss_cons (ps_set (i := 10) sc__law_cut.nd rfl (Or.inr rfl) (pe_callB (call_maxU rfl) (by rfl) T.z_max (by decide +kernel) (pa_cons (pv 8) (pa_cons (pe_op op_sub pe_int (pv 8)) pa_nil))))
      (pss_cons (ps_set (i := 11) sc__law_cut.nd rfl (Or.inr rfl) (pe_callB (call_maxU rfl) (by rfl) T.z_max (by decide +kernel) (pa_cons (pv 9) (pa_cons (pe_op op_sub pe_int (pv 9)) pa_nil))))
      (pss_cons (ps_expr (pe_bm PySem.F.plainAttrs_list PySem.F.slot_list_append PySem.F.type_list_append mt_append (pv 4) (pa_cons (pe_callTy call_tuple_of (by rfl) T.z_tuple (by decide +kernel) (pa_cons (pe_lc (own := [("j", 12)]) (g := (gName 12)) (tt := tYes) rfl sc__law_cut.nd (pi_range1 (by rfl) T.z_range (pa_cons pe_int pa_nil)) (blkOk_by (own := [("j", 12)]) (N := ["places", "x", "y", "w", "found", "k", "one", "other", "here", "there", "share", "rest", "j"]) (sc := defScope s__law_cut) (by decide +kernel)) (fun _ _ _ _ _ => (pg_name (i := 12) sc__law_cut.nd rfl (Or.inl rfl))) (fun _ _ _ _ _ => pts_nil) (fun _ _ _ _ _ => (pe_op (show OpR _ _ (rAddU K) from op_addU) (pe_op op_mulU (pv 11) (pe_ix (show IxR _ (rIx K) from ix_seq) (pv 6) (pv 12) (fun _ _ => rfl))) (pe_op op_mulU (pv 10) (pe_ix (show IxR _ (rIx K) from ix_seq) (pv 7) (pv 12) (fun _ _ => rfl)))))) pa_nil)) pa_nil)))
      pss_nil))) pss_nil)
      (pss_cons (ps_if (pt_cmpR op_ge (pv 9) pe_int (nomark _)) (pss_cons (ps_expr (pe_bm PySem.F.plainAttrs_list PySem.F.slot_list_append PySem.F.type_list_append mt_append (pv 4) (pa_cons (pv 7) pa_nil)))
      pss_nil) pss_nil)
      pss_nil)))))))
      (pss_cons (ps_ret (pv 4))
      pss_nil))), body_P h fun ds O hl => ?_⟩
  have h1 := h.1
  obtain ⟨v_0, v_1, v_2, v_3, rfl⟩ := ls4 (l := vs) (by first | exact h1 | exact Nat.succ.inj h1)
  obtain ⟨x_0, x_1, x_2, x_3, rfl⟩ := ls4 (l := ds) (by first | exact hl.symm | exact hl)
  refine ⟨_, rfl, ?_⟩
  refine sv_st (σ' := [some v_0, some v_1, some v_2, some v_3, none, none, none, none, none, none, none, none, none]) rfl ?_
  refine sv_new sub0 av_nil (σ' := fun v2 => [some v_0, some v_1, some v_2, some v_3, some v2, none, none, none, none, none, none, none, none]) (fun _ => rfl) (C' := fun p1 found m => [rootL K p1 found]) (fun p1 found m => (List.perm_append_singleton _ []).symm) fun p1 found hp1 => ?_
  refine sv_seq (J1 := (fun (s3 : D) σ' L2 C2 => ∃ (o4 : Option V) (o5 : Option V) (o6 : Option V) (o7 : Option V) (o8 : Option V) (o9 : Option V) (o10 : Option V), σ' = [some v_0, some v_1, some v_2, some v_3, some (.ref p1), o10, o4, o5, o6, o7, o8, o9, none] ∧ L2 = ([] : List (V × D)) ∧ C2 = (fun _ => [rootL K p1 s3]))) (sv_for sub0 (iv_rng1 (av_cons (ev_cb cs_len (av_cons (ev_var rfl (.head _)) av_nil)) av_nil)) ⟨none, none, none, none, none, none, none, rfl, rfl, rfl⟩ lnil (by intro s3 _ _ _ hJ; obtain ⟨o4, o5, o6, o7, o8, o9, o10, rfl, rfl, rfl⟩ := hJ; exact sub0) ?_) ?_
  · intro s3 _ _ _ hJ v11 x12
    obtain ⟨o4, o5, o6, o7, o8, o9, o10, rfl, rfl, rfl⟩ := hJ
    refine tg_name (σ' := [some v_0, some v_1, some v_2, some v_3, some (.ref p1), some v11, o4, o5, o6, o7, o8, o9, none]) rfl (?_)
    refine sv_asg sub0 (ev_op os_idx (ev_var rfl (.tail _ (.head _))) (ev_op os_sub (ev_var rfl (.head _)) ev_int)) (σ' := (fun v13 => [some v_0, some v_1, some v_2, some v_3, some (.ref p1), some v11, some v13, o5, o6, o7, o8, o9, none])) (fun _ => rfl) fun v13 x29 => ?_
    refine sv_asg sub0 (ev_op os_idx (ev_var rfl (.tail _ (.tail _ (.head _)))) (ev_var rfl (.tail _ (.head _)))) (σ' := (fun v14 => [some v_0, some v_1, some v_2, some v_3, some (.ref p1), some v11, some v13, some v14, o6, o7, o8, o9, none])) (fun _ => rfl) fun v14 x28 => ?_
    refine sv_asg sub0 (ev_op os_add (ev_op os_add (ev_op os_mul (ev_var rfl (.tail _ (.tail _ (.tail _ (.tail _ (.head _)))))) (ev_op os_idx (ev_var rfl (.tail _ (.head _))) ev_int)) (ev_op os_mul (ev_var rfl (.tail _ (.tail _ (.tail _ (.tail _ (.tail _ (.head _))))))) (ev_op os_idx (ev_var rfl (.tail _ (.head _))) ev_int))) (ev_op os_mul (ev_var rfl (.tail _ (.tail _ (.tail _ (.tail _ (.tail _ (.tail _ (.head _)))))))) (ev_op os_idx (ev_var rfl (.tail _ (.head _))) ev_int))) (σ' := (fun v15 => [some v_0, some v_1, some v_2, some v_3, some (.ref p1), some v11, some v13, some v14, some v15, o7, o8, o9, none])) (fun _ => rfl) fun v15 x27 => ?_
    refine sv_asg sub0 (ev_op os_add (ev_op os_add (ev_op os_mul (ev_var rfl (.tail _ (.tail _ (.tail _ (.tail _ (.tail _ (.head _))))))) (ev_op os_idx (ev_var rfl (.tail _ (.head _))) ev_int)) (ev_op os_mul (ev_var rfl (.tail _ (.tail _ (.tail _ (.tail _ (.tail _ (.tail _ (.head _)))))))) (ev_op os_idx (ev_var rfl (.tail _ (.head _))) ev_int))) (ev_op os_mul (ev_var rfl (.tail _ (.tail _ (.tail _ (.tail _ (.tail _ (.tail _ (.tail _ (.head _))))))))) (ev_op os_idx (ev_var rfl (.tail _ (.head _))) ev_int))) (σ' := (fun v16 => [some v_0, some v_1, some v_2, some v_3, some (.ref p1), some v11, some v13, some v14, some v15, some v16, o8, o9, none])) (fun _ => rfl) fun v16 x26 => ?_
    refine sv_seq (J1 := (fun (s17 : D) σ' L2 C2 => ∃ (o18 : Option V) (o19 : Option V), σ' = [some v_0, some v_1, some v_2, some v_3, some (.ref p1), some v11, some v13, some v14, some v15, some v16, o18, o19, none] ∧ L2 = ([] : List (V × D)) ∧ C2 = (fun _ => [rootL K p1 s17]))) (sv_if1 sub0 (tv_or (tv_and (tv_test (ev_chain os_lt os_le (ev_var rfl (.tail _ (.head _))) ev_int (ev_var rfl (.head _)))) (tv_test (ev_op os_gt (ev_var rfl (.head _)) ev_int))) (tv_test (ev_chain os_lt os_lt (ev_var rfl (.head _)) ev_int (ev_var rfl (.tail _ (.head _)))))) ?_ ?_) ?_
    · refine sv_asg sub0 (ev_cb cs_max (av_cons (ev_var rfl (.tail _ (.head _))) (av_cons (ev_op os_sub ev_int (ev_var rfl (.tail _ (.head _)))) av_nil))) (σ' := (fun v20 => [some v_0, some v_1, some v_2, some v_3, some (.ref p1), some v11, some v13, some v14, some v15, some v16, some v20, o9, none])) (fun _ => rfl) fun v20 x25 => ?_
      refine sv_asg sub0 (ev_cb cs_max (av_cons (ev_var rfl (.tail _ (.head _))) (av_cons (ev_op os_sub ev_int (ev_var rfl (.tail _ (.head _)))) av_nil))) (σ' := (fun v21 => [some v_0, some v_1, some v_2, some v_3, some (.ref p1), some v11, some v13, some v14, some v15, some v16, some v20, some v21, none])) (fun _ => rfl) fun v21 x24 => ?_
      refine sv_app sub0 rfl (ev_cb cs_tuple (av_cons (ev_lc1 (σ2 := fun v22 => [some v_0, some v_1, some v_2, some v_3, some (.ref p1), some v11, some v13, some v14, some v15, some v16, some v20, some v21, some v22]) (iv_rng1 (av_cons ev_int av_nil)) (fun _ => rfl) (fun _ => rfl) (fun v22 x23 => tv_yes) (fun v22 x23 => (ev_op os_add (ev_op os_mul (ev_var rfl (.tail _ (.head _))) (ev_op os_idx (ev_var rfl (.tail _ (.tail _ (.tail _ (.tail _ (.tail _ (.tail _ (.head _)))))))) (ev_var rfl (.head _)))) (ev_op os_mul (ev_var rfl (.tail _ (.tail _ (.head _)))) (ev_op os_idx (ev_var rfl (.tail _ (.tail _ (.tail _ (.tail _ (.tail _ (.head _))))))) (ev_var rfl (.head _))))))) av_nil)) (Z := fun m => []) (fun m => List.perm_middle (l₁ := []) (l₂ := [])) (C' := fun d m => [rootL K p1 d]) (fun d m => (List.perm_middle (l₁ := []) (l₂ := [])).symm) fun found1 => ?_
      exact sv_nil ⟨(some v20), (some v21), rfl, rfl, rfl⟩ lnil
    · exact sv_nil ⟨o8, o9, rfl, rfl, rfl⟩ lnil
    · intro s17 _ _ _ hJ
      obtain ⟨o18, o19, rfl, rfl, rfl⟩ := hJ
      refine sv_if sub0 (tv_test (ev_op os_ge (ev_var rfl (.head _)) ev_int)) ?_ ?_
      · refine sv_assoc ?_
        refine sv_app sub0 rfl (ev_var rfl (.tail _ (.tail _ (.head _)))) (Z := fun m => []) (fun m => List.perm_middle (l₁ := []) (l₂ := [])) (C' := fun d m => [rootL K p1 d]) (fun d m => (List.perm_middle (l₁ := []) (l₂ := [])).symm) fun found2 => ?_
        refine sv_skip ?_
        exact sv_nil ⟨(some v13), (some v14), (some v15), (some v16), o18, o19, (some v11), rfl, rfl, rfl⟩ lnil
      · refine sv_skip ?_
        exact sv_nil ⟨(some v13), (some v14), (some v15), (some v16), o18, o19, (some v11), rfl, rfl, rfl⟩ lnil
  · intro s3 _ _ _ hJ
    obtain ⟨o4, o5, o6, o7, o8, o9, o10, rfl, rfl, rfl⟩ := hJ
    refine sv_freeze (C' := fun m => []) (fun m => List.perm_middle (l₁ := []) (l₂ := [])) hp1 ?_
    exact sv_ret sub0 (ev_var rfl (.head _))
set_option maxHeartbeats 0 in
theorem ok__law_places (T : Txt K mg) : FnOk P w K mg base CX0 2 T.a__law_places T.fd__law_places ["kind", "looks", "fresh", "cell"] (SpP K 4 (u4 m__law_places)) := by
  refine T.F__law_places.ok sc__law_places (fun vs H Q E h => h.1) (fun cdv A outer s H vs Q E hr h => ?_)
  refine ⟨_, (pss_cons (ps_asg (pe_call (ok__law_sides T) (hr.mono (by decide)) rfl T.m__law_sides T.F__law_sides.kp T.b__law_sides .nil pass0 (pa_cons (pv 0) (pa_cons (pv 1) (pa_cons (pv 2) (pa_cons (pv 3) pa_nil))))) (pg_unl rfl (pgs_cons (pg_name (i := 4) sc__law_places.nd rfl (Or.inl rfl)) (pgs_cons (pg_name (i := 5) sc__law_places.nd rfl (Or.inl rfl)) (pgs_cons (pg_name (i := 6) sc__law_places.nd rfl (Or.inl rfl)) (pgs_cons (pg_name (i := 7) sc__law_places.nd rfl (Or.inl rfl)) (pgs_cons (pg_name (i := 8) sc__law_places.nd rfl (Or.inl rfl)) pgs_nil)))))))
      (pss_cons (ps_set (i := 9) sc__law_places.nd rfl (Or.inl rfl) (pe_op op_sub (pe_ix ix_seq (pv 0) pe_int (fun _ _ => rfl)) pe_int))
      (pss_cons (ps_set (i := 10) sc__law_places.nd rfl (Or.inl rfl) (pe_op op_mulU (pe_ix ix_seq (pv 0) pe_int (fun _ _ => rfl)) (pe_ix ix_seq (pv 0) pe_int (fun _ _ => rfl))))
      (pss_cons (ps_set (i := 11) sc__law_places.nd rfl (Or.inl rfl) (pe_lst (pa_cons (pe_tup (pa_cons (pv 4) (pa_cons (pv 6) (pa_cons pe_int pa_nil)))) (pa_cons (pe_tup (pa_cons (pv 5) (pa_cons (pv 6) (pa_cons pe_int pa_nil)))) (pa_cons (pe_tup (pa_cons (pv 5) (pa_cons (pv 7) (pa_cons pe_int pa_nil)))) (pa_cons (pe_tup (pa_cons (pv 4) (pa_cons (pv 7) (pa_cons pe_int pa_nil)))) pa_nil))))))
      (pss_cons (ps_set (i := 11) sc__law_places.nd rfl (Or.inl rfl) (pe_call (ok__law_cut T) (hr.mono (by decide)) rfl T.m__law_cut T.F__law_cut.kp T.b__law_cut .nil pass0 (pa_cons (pv 11) (pa_cons (pv 10) (pa_cons (pv 9) (pa_cons pe_int pa_nil))))))
      (pss_cons (ps_ret (pe_call (ok__law_cut T) (hr.mono (by decide)) rfl T.m__law_cut T.F__law_cut.kp T.b__law_cut .nil pass0 (pa_cons (pv 11) (pa_cons (pe_op op_mulU (pv 10) (pv 9)) (pa_cons (pe_op op_sub pe_int (pe_op op_mulU (pv 9) (pv 9))) (pa_cons (pe_op op_mulU (pe_op op_mulU (pv 10) (pv 10)) (pv 8)) pa_nil))))))
      pss_nil)))))), body_P h fun ds O hl => ?_⟩
  have h1 := h.1
  obtain ⟨v_0, v_1, v_2, v_3, rfl⟩ := ls4 (l := vs) (by first | exact h1 | exact Nat.succ.inj h1)
  obtain ⟨x_0, x_1, x_2, x_3, rfl⟩ := ls4 (l := ds) (by first | exact hl.symm | exact hl)
  refine ⟨_, rfl, ?_⟩
  refine sv_st (σ' := [some v_0, some v_1, some v_2, some v_3, none, none, none, none, none, none, none, none]) rfl ?_
  refine sv_asgT sub0 (ev_cP (fun _ => u4_len) (av_cons (ev_var rfl (.head _)) (av_cons (ev_var rfl (.tail _ (.head _))) (av_cons (ev_var rfl (.tail _ (.tail _ (.head _)))) (av_cons (ev_var rfl (.tail _ (.tail _ (.tail _ (.head _))))) av_nil))))) fun v1 x21 => tgl_tup5 (.head _) fun v3 v4 v5 v6 v7 x8 x9 x10 x11 x12 => tgs_cons (tg_name (σ' := [some v_0, some v_1, some v_2, some v_3, some v3, none, none, none, none, none, none, none]) rfl (tgs_cons (tg_name (σ' := [some v_0, some v_1, some v_2, some v_3, some v3, some v4, none, none, none, none, none, none]) rfl (tgs_cons (tg_name (σ' := [some v_0, some v_1, some v_2, some v_3, some v3, some v4, some v5, none, none, none, none, none]) rfl (tgs_cons (tg_name (σ' := [some v_0, some v_1, some v_2, some v_3, some v3, some v4, some v5, some v6, none, none, none, none]) rfl (tgs_cons (tg_name (σ' := [some v_0, some v_1, some v_2, some v_3, some v3, some v4, some v5, some v6, some v7, none, none, none]) rfl (tgs_nil (?_)))))))))))
  refine sv_asg sub0 (ev_op os_sub (ev_op os_idx (ev_var rfl (.tail _ (.tail _ (.tail _ (.tail _ (.tail _ (.tail _ (.head _)))))))) ev_int) ev_int) (σ' := (fun v13 => [some v_0, some v_1, some v_2, some v_3, some v3, some v4, some v5, some v6, some v7, some v13, none, none])) (fun _ => rfl) fun v13 x20 => ?_
  refine sv_asg sub0 (ev_op os_mul (ev_op os_idx (ev_var rfl (.tail _ (.tail _ (.tail _ (.tail _ (.tail _ (.tail _ (.tail _ (.head _))))))))) ev_int) (ev_op os_idx (ev_var rfl (.tail _ (.tail _ (.tail _ (.tail _ (.tail _ (.tail _ (.tail _ (.head _))))))))) ev_int)) (σ' := (fun v14 => [some v_0, some v_1, some v_2, some v_3, some v3, some v4, some v5, some v6, some v7, some v13, some v14, none])) (fun _ => rfl) fun v14 x19 => ?_
  refine sv_asg sub0 (ev_lst (av_cons (ev_tup (av_cons (ev_var rfl (.tail _ (.tail _ (.head _)))) (av_cons (ev_var rfl (.tail _ (.tail _ (.tail _ (.tail _ (.head _)))))) (av_cons ev_int av_nil)))) (av_cons (ev_tup (av_cons (ev_var rfl (.tail _ (.tail _ (.tail _ (.head _))))) (av_cons (ev_var rfl (.tail _ (.tail _ (.tail _ (.tail _ (.head _)))))) (av_cons ev_int av_nil)))) (av_cons (ev_tup (av_cons (ev_var rfl (.tail _ (.tail _ (.tail _ (.head _))))) (av_cons (ev_var rfl (.tail _ (.tail _ (.tail _ (.tail _ (.tail _ (.head _))))))) (av_cons ev_int av_nil)))) (av_cons (ev_tup (av_cons (ev_var rfl (.tail _ (.tail _ (.head _)))) (av_cons (ev_var rfl (.tail _ (.tail _ (.tail _ (.tail _ (.tail _ (.head _))))))) (av_cons ev_int av_nil)))) av_nil))))) (σ' := (fun v15 => [some v_0, some v_1, some v_2, some v_3, some v3, some v4, some v5, some v6, some v7, some v13, some v14, some v15])) (fun _ => rfl) fun v15 x18 => ?_
  refine sv_asg sub0 (ev_cP (fun _ => u4_len) (av_cons (ev_var rfl (.head _)) (av_cons (ev_var rfl (.tail _ (.head _))) (av_cons (ev_var rfl (.tail _ (.tail _ (.head _)))) (av_cons ev_int av_nil))))) (σ' := (fun v16 => [some v_0, some v_1, some v_2, some v_3, some v3, some v4, some v5, some v6, some v7, some v13, some v14, some v16])) (fun _ => rfl) fun v16 x17 => ?_
  exact sv_ret sub0 (ev_cP (fun _ => u4_len) (av_cons (ev_var rfl (.head _)) (av_cons (ev_op os_mul (ev_var rfl (.tail _ (.tail _ (.head _)))) (ev_var rfl (.tail _ (.tail _ (.tail _ (.head _)))))) (av_cons (ev_op os_sub ev_int (ev_op os_mul (ev_var rfl (.tail _ (.tail _ (.tail _ (.head _))))) (ev_var rfl (.tail _ (.tail _ (.tail _ (.head _))))))) (av_cons (ev_op os_mul (ev_op os_mul (ev_var rfl (.tail _ (.tail _ (.head _)))) (ev_var rfl (.tail _ (.tail _ (.head _))))) (ev_var rfl (.tail _ (.tail _ (.tail _ (.tail _ (.tail _ (.tail _ (.tail _ (.tail _ (.head _))))))))))) av_nil)))))
set_option maxHeartbeats 0 in
theorem ok__law_root_good (T : Txt K mg) : FnOk P w K mg base CX0 3 T.a__law_root_good T.fd__law_root_good ["kind", "looks", "fresh", "cell"] (SpP K 4 (u4 m__law_root_good)) := by
  refine T.F__law_root_good.ok sc__law_root_good (fun vs H Q E h => h.1) (fun cdv A outer s H vs Q E hr h => ?_)
  refine ⟨_, (pss_cons (ps_set (i := 4) sc__law_root_good.nd rfl (Or.inl rfl) (pe_call (ok__law_places T) (hr.mono (by decide)) rfl T.m__law_places T.F__law_places.kp T.b__law_places .nil pass0 (pa_cons (pv 0) (pa_cons (pv 1) (pa_cons (pv 2) (pa_cons (pv 3) pa_nil))))))
      (pss_cons (ps_if (pt_cmpR (op_eqD hr.units) (pv 4) (pe_lst pa_nil) (nomark _)) (pss_cons (ps_ret pe_non)
      pss_nil) pss_nil)
      (pss_cons (ps_set (i := 5) sc__law_root_good.nd rfl (Or.inl rfl) (pe_ix ix_seq (pe_call (ok__law_sides T) (hr.mono (by decide)) rfl T.m__law_sides T.F__law_sides.kp T.b__law_sides .nil pass0 (pa_cons (pv 0) (pa_cons (pv 1) (pa_cons (pv 2) (pa_cons (pv 3) pa_nil))))) pe_int (fun _ _ => rfl)))
      (pss_cons (ps_set (i := 6) sc__law_root_good.nd rfl (Or.inl rfl) (pe_op op_sub (pe_ix ix_seq (pv 0) pe_int (fun _ _ => rfl)) pe_int))
      (pss_cons (ps_set (i := 7) sc__law_root_good.nd rfl (Or.inl rfl) (pe_lst pa_nil))
      (pss_cons (ps_for PassesOwn.never rfl (pi_range2 (by rfl) T.z_range (pa_cons (pe_op op_sub pe_int (pe_ix ix_seq (pv 0) pe_int (fun _ _ => rfl))) (pa_cons (pe_op op_addU (pe_ix ix_seq (pv 0) pe_int (fun _ _ => rfl)) pe_int) pa_nil))) (pg_name (i := 8) sc__law_root_good.nd rfl (Or.inl rfl)) (pss_cons (ps_set (i := 9) sc__law_root_good.nd rfl (Or.inl rfl) (pe_op op_addU (pe_op op_mulU (pv 8) (pv 6)) (pe_ix ix_seq (pv 0) pe_int (fun _ _ => rfl))))
      (pss_cons (ps_set (i := 10) sc__law_root_good.nd rfl (Or.inl rfl) (pe_op op_sub (pe_op op_mulU (pv 8) (pv 6)) (pe_ix ix_seq (pv 0) pe_int (fun _ _ => rfl))))
      (pss_cons (ps_set (i := 11) sc__law_root_good.nd rfl (Or.inl rfl) pe_bl)
      (pss_cons (ps_for PassesOwn.never rfl (pi_seq (pv 4)) (pg_tup rfl (pgs_cons (pg_name (i := 12) sc__law_root_good.nd rfl (Or.inl rfl)) (pgs_cons (pg_name (i := 13) sc__law_root_good.nd rfl (Or.inl rfl)) (pgs_cons (pg_name (i := 14) sc__law_root_good.nd rfl (Or.inl rfl)) pgs_nil)))) (pss_cons (ps_if (PW.pt (pw_and (pt_cmpR (op_neD hr.units) (pv 8) (pe_ix ix_seq (pv 0) pe_int (fun _ _ => rfl)) (nomark _)) (pw_and1 (pt_cmpR op_gt (pe_op op_mulU (pv 6) (pv 13)) (pe_op op_mulU (pv 9) (pv 12)) (nomark _))))) (pss_cons (ps_set (i := 11) sc__law_root_good.nd rfl (Or.inl rfl) pe_bl)
      pss_nil) pss_nil)
      (pss_cons (ps_set (i := 15) sc__law_root_good.nd rfl (Or.inl rfl) (pe_op op_addU (pe_op op_mulU (pe_op op_mulU (pv 6) (pv 10)) (pv 12)) (pe_op op_mulU (pe_op op_mulU (pe_op op_mulU (pv 10) (pv 10)) (pv 5)) (pv 14))))
      (pss_cons (ps_if (PW.pt (pw_and (pt_cmpR (op_neD hr.units) (pv 8) (pe_op op_sub pe_int (pe_ix ix_seq (pv 0) pe_int (fun _ _ => rfl))) (nomark _)) (pw_and1 (pt_cmpR op_lt (pe_op op_mulU (pe_op op_mulU (pv 6) (pv 6)) (pv 13)) (pv 15) (nomark _))))) (pss_cons (ps_set (i := 11) sc__law_root_good.nd rfl (Or.inl rfl) pe_bl)
      pss_nil) pss_nil)
      pss_nil))))
      (pss_cons (ps_if (pt_truth (pv 11) (by intro _; rfl)) (pss_cons (ps_expr (pe_bm PySem.F.plainAttrs_list PySem.F.slot_list_append PySem.F.type_list_append mt_append (pv 7) (pa_cons (pv 8) pa_nil)))
      pss_nil) pss_nil)
      pss_nil))))))
      (pss_cons (ps_ret (pv 7))
      pss_nil))))))), body_P h fun ds O hl => ?_⟩
  have h1 := h.1
  obtain ⟨v_0, v_1, v_2, v_3, rfl⟩ := ls4 (l := vs) (by first | exact h1 | exact Nat.succ.inj h1)
  obtain ⟨x_0, x_1, x_2, x_3, rfl⟩ := ls4 (l := ds) (by first | exact hl.symm | exact hl)
  refine ⟨_, rfl, ?_⟩
  refine sv_st (σ' := [some v_0, some v_1, some v_2, some v_3, none, none, none, none, none, none, none, none, none, none, none, none]) rfl ?_
  refine sv_asg sub0 (ev_cP (fun _ => u4_len) (av_cons (ev_var rfl (.head _)) (av_cons (ev_var rfl (.tail _ (.head _))) (av_cons (ev_var rfl (.tail _ (.tail _ (.head _)))) (av_cons (ev_var rfl (.tail _ (.tail _ (.tail _ (.head _))))) av_nil))))) (σ' := (fun v1 => [some v_0, some v_1, some v_2, some v_3, some v1, none, none, none, none, none, none, none, none, none, none, none])) (fun _ => rfl) fun v1 x92 => ?_
  refine sv_if sub0 (tv_test (ev_op os_eq (ev_var rfl (.head _)) (ev_lst av_nil))) ?_ ?_
  · refine sv_assoc ?_
    exact sv_ret sub0 ev_non
  · refine sv_skip ?_
    refine sv_asg sub0 (ev_op os_idx (ev_cP (fun _ => u4_len) (av_cons (ev_var rfl (.tail _ (.head _))) (av_cons (ev_var rfl (.tail _ (.tail _ (.head _)))) (av_cons (ev_var rfl (.tail _ (.tail _ (.tail _ (.head _))))) (av_cons (ev_var rfl (.tail _ (.tail _ (.tail _ (.tail _ (.head _)))))) av_nil))))) ev_int) (σ' := (fun v2 => [some v_0, some v_1, some v_2, some v_3, some v1, some v2, none, none, none, none, none, none, none, none, none, none])) (fun _ => rfl) fun v2 x46 => ?_
    refine sv_asg sub0 (ev_op os_sub (ev_op os_idx (ev_var rfl (.tail _ (.tail _ (.head _)))) ev_int) ev_int) (σ' := (fun v3 => [some v_0, some v_1, some v_2, some v_3, some v1, some v2, some v3, none, none, none, none, none, none, none, none, none])) (fun _ => rfl) fun v3 x45 => ?_
    refine sv_new sub0 av_nil (σ' := fun v5 => [some v_0, some v_1, some v_2, some v_3, some v1, some v2, some v3, some v5, none, none, none, none, none, none, none, none]) (fun _ => rfl) (C' := fun p4 found m => [rootL K p4 found]) (fun p4 found m => (List.perm_append_singleton _ []).symm) fun p4 found hp4 => ?_
    refine sv_seq (J1 := (fun (s6 : D) σ' L2 C2 => ∃ (o7 : Option V) (o8 : Option V) (o9 : Option V) (o10 : Option V) (o11 : Option V) (o12 : Option V) (o13 : Option V) (o14 : Option V), σ' = [some v_0, some v_1, some v_2, some v_3, some v1, some v2, some v3, some (.ref p4), o14, o7, o8, o9, o10, o11, o12, o13] ∧ L2 = ([] : List (V × D)) ∧ C2 = (fun _ => [rootL K p4 s6]))) (sv_for sub0 (iv_rng2 (av_cons (ev_op os_sub ev_int (ev_op os_idx (ev_var rfl (.tail _ (.tail _ (.tail _ (.head _))))) ev_int)) (av_cons (ev_op os_add (ev_op os_idx (ev_var rfl (.tail _ (.tail _ (.tail _ (.head _))))) ev_int) ev_int) av_nil))) ⟨none, none, none, none, none, none, none, none, rfl, rfl, rfl⟩ lnil (by intro s6 _ _ _ hJ; obtain ⟨o7, o8, o9, o10, o11, o12, o13, o14, rfl, rfl, rfl⟩ := hJ; exact sub0) ?_) ?_
    · intro s6 _ _ _ hJ v15 x16
      obtain ⟨o7, o8, o9, o10, o11, o12, o13, o14, rfl, rfl, rfl⟩ := hJ
      refine tg_name (σ' := [some v_0, some v_1, some v_2, some v_3, some v1, some v2, some v3, some (.ref p4), some v15, o7, o8, o9, o10, o11, o12, o13]) rfl (?_)
      refine sv_asg sub0 (ev_op os_add (ev_op os_mul (ev_var rfl (.head _)) (ev_var rfl (.tail _ (.head _)))) (ev_op os_idx (ev_var rfl (.tail _ (.tail _ (.tail _ (.tail _ (.head _)))))) ev_int)) (σ' := (fun v17 => [some v_0, some v_1, some v_2, some v_3, some v1, some v2, some v3, some (.ref p4), some v15, some v17, o8, o9, o10, o11, o12, o13])) (fun _ => rfl) fun v17 x44 => ?_
      refine sv_asg sub0 (ev_op os_sub (ev_op os_mul (ev_var rfl (.tail _ (.head _))) (ev_var rfl (.tail _ (.tail _ (.head _))))) (ev_op os_idx (ev_var rfl (.tail _ (.tail _ (.tail _ (.tail _ (.tail _ (.head _))))))) ev_int)) (σ' := (fun v18 => [some v_0, some v_1, some v_2, some v_3, some v1, some v2, some v3, some (.ref p4), some v15, some v17, some v18, o9, o10, o11, o12, o13])) (fun _ => rfl) fun v18 x43 => ?_
      refine sv_asg sub0 ev_bl (σ' := (fun v19 => [some v_0, some v_1, some v_2, some v_3, some v1, some v2, some v3, some (.ref p4), some v15, some v17, some v18, some v19, o10, o11, o12, o13])) (fun _ => rfl) fun v19 x42 => ?_
      refine sv_seq (J1 := (fun (s20 : D) σ' L2 C2 => ∃ (v21 : V) (o22 : Option V) (o23 : Option V) (o24 : Option V) (o25 : Option V), σ' = [some v_0, some v_1, some v_2, some v_3, some v1, some v2, some v3, some (.ref p4), some v15, some v17, some v18, some v21, o23, o24, o25, o22] ∧ L2 = ([(v21, s20)] : List (V × D)) ∧ C2 = (fun _ => [rootL K p4 s6]))) (sv_for sub0 (iv_seq (ev_var rfl (.tail _ (.tail _ (.tail _ (.tail _ (.tail _ (.tail _ (.head _))))))))) ⟨v19, o13, o10, o11, o12, rfl, rfl, rfl⟩ (lcons (.head _) lnil) (by intro s20 _ _ _ hJ; obtain ⟨v21, o22, o23, o24, o25, rfl, rfl, rfl⟩ := hJ; exact sub0) ?_) ?_
      · intro s20 _ _ _ hJ v26 x27
        obtain ⟨v21, o22, o23, o24, o25, rfl, rfl, rfl⟩ := hJ
        refine tg_tup3 (.head _) fun v28 v29 v30 x31 x32 x33 => tgs_cons (tg_name (σ' := [some v_0, some v_1, some v_2, some v_3, some v1, some v2, some v3, some (.ref p4), some v15, some v17, some v18, some v21, some v28, o24, o25, o22]) rfl (tgs_cons (tg_name (σ' := [some v_0, some v_1, some v_2, some v_3, some v1, some v2, some v3, some (.ref p4), some v15, some v17, some v18, some v21, some v28, some v29, o25, o22]) rfl (tgs_cons (tg_name (σ' := [some v_0, some v_1, some v_2, some v_3, some v1, some v2, some v3, some (.ref p4), some v15, some v17, some v18, some v21, some v28, some v29, some v30, o22]) rfl (tgs_nil (?_)))))))
        refine sv_seq (J1 := (fun (s34 : D) σ' L2 C2 => ∃ (v35 : V), σ' = [some v_0, some v_1, some v_2, some v_3, some v1, some v2, some v3, some (.ref p4), some v15, some v17, some v18, some v35, some v28, some v29, some v30, o22] ∧ L2 = ([(v35, s34)] : List (V × D)) ∧ C2 = (fun _ => [rootL K p4 s6]))) (sv_if1 sub0 (tv_and (tv_test (ev_op os_ne (ev_var rfl (.tail _ (.tail _ (.tail _ (.tail _ (.tail _ (.tail _ (.tail _ (.tail _ (.head _)))))))))) (ev_op os_idx (ev_var rfl (.tail _ (.tail _ (.tail _ (.tail _ (.tail _ (.tail _ (.tail _ (.tail _ (.tail _ (.tail _ (.tail _ (.tail _ (.head _)))))))))))))) ev_int))) (tv_test (ev_op os_gt (ev_op os_mul (ev_var rfl (.tail _ (.tail _ (.tail _ (.tail _ (.tail _ (.tail _ (.tail _ (.tail _ (.tail _ (.head _))))))))))) (ev_var rfl (.tail _ (.head _)))) (ev_op os_mul (ev_var rfl (.tail _ (.tail _ (.tail _ (.tail _ (.tail _ (.tail _ (.tail _ (.head _))))))))) (ev_var rfl (.head _)))))) ?_ ?_) ?_
        · refine sv_asg sub0 ev_bl (σ' := (fun v36 => [some v_0, some v_1, some v_2, some v_3, some v1, some v2, some v3, some (.ref p4), some v15, some v17, some v18, some v36, some v28, some v29, some v30, o22])) (fun _ => rfl) fun v36 x37 => ?_
          exact sv_nil ⟨v36, rfl, rfl, rfl⟩ (lcons (.head _) lnil)
        · exact sv_nil ⟨v21, rfl, rfl, rfl⟩ (lcons (.tail _ (.tail _ (.tail _ (.tail _ (.head _))))) lnil)
        · intro s34 _ _ _ hJ
          obtain ⟨v35, rfl, rfl, rfl⟩ := hJ
          refine sv_asg sub0 (ev_op os_add (ev_op os_mul (ev_op os_mul (ev_var rfl (.tail _ (.tail _ (.tail _ (.tail _ (.tail _ (.tail _ (.tail _ (.tail _ (.tail _ (.tail _ (.head _)))))))))))) (ev_var rfl (.tail _ (.tail _ (.tail _ (.tail _ (.tail _ (.tail _ (.tail _ (.head _)))))))))) (ev_var rfl (.tail _ (.head _)))) (ev_op os_mul (ev_op os_mul (ev_op os_mul (ev_var rfl (.tail _ (.tail _ (.tail _ (.tail _ (.tail _ (.tail _ (.tail _ (.head _))))))))) (ev_var rfl (.tail _ (.tail _ (.tail _ (.tail _ (.tail _ (.tail _ (.tail _ (.head _)))))))))) (ev_var rfl (.tail _ (.tail _ (.tail _ (.tail _ (.tail _ (.tail _ (.tail _ (.tail _ (.tail _ (.tail _ (.tail _ (.head _)))))))))))))) (ev_var rfl (.tail _ (.tail _ (.tail _ (.head _))))))) (σ' := (fun v38 => [some v_0, some v_1, some v_2, some v_3, some v1, some v2, some v3, some (.ref p4), some v15, some v17, some v18, some v35, some v28, some v29, some v30, some v38])) (fun _ => rfl) fun v38 x41 => ?_
          refine sv_if sub0 (tv_and (tv_test (ev_op os_ne (ev_var rfl (.tail _ (.tail _ (.tail _ (.tail _ (.tail _ (.tail _ (.tail _ (.tail _ (.tail _ (.tail _ (.head _)))))))))))) (ev_op os_sub ev_int (ev_op os_idx (ev_var rfl (.tail _ (.tail _ (.tail _ (.tail _ (.tail _ (.tail _ (.tail _ (.tail _ (.tail _ (.tail _ (.tail _ (.tail _ (.tail _ (.tail _ (.head _)))))))))))))))) ev_int)))) (tv_test (ev_op os_lt (ev_op os_mul (ev_op os_mul (ev_var rfl (.tail _ (.tail _ (.tail _ (.tail _ (.tail _ (.tail _ (.tail _ (.tail _ (.tail _ (.tail _ (.tail _ (.head _))))))))))))) (ev_var rfl (.tail _ (.tail _ (.tail _ (.tail _ (.tail _ (.tail _ (.tail _ (.tail _ (.tail _ (.tail _ (.tail _ (.head _)))))))))))))) (ev_var rfl (.tail _ (.tail _ (.tail _ (.head _)))))) (ev_var rfl (.head _))))) ?_ ?_
          · refine sv_assoc ?_
            refine sv_asg sub0 ev_bl (σ' := (fun v39 => [some v_0, some v_1, some v_2, some v_3, some v1, some v2, some v3, some (.ref p4), some v15, some v17, some v18, some v39, some v28, some v29, some v30, some v38])) (fun _ => rfl) fun v39 x40 => ?_
            refine sv_skip ?_
            exact sv_nil ⟨v39, (some v38), (some v28), (some v29), (some v30), rfl, rfl, rfl⟩ (lcons (.head _) lnil)
          · refine sv_skip ?_
            exact sv_nil ⟨v35, (some v38), (some v28), (some v29), (some v30), rfl, rfl, rfl⟩ (lcons (.tail _ (.head _)) lnil)
      · intro s20 _ _ _ hJ
        obtain ⟨v21, o22, o23, o24, o25, rfl, rfl, rfl⟩ := hJ
        refine sv_if sub0 (tv_tr (ev_var rfl (.head _))) ?_ ?_
        · refine sv_assoc ?_
          refine sv_app sub0 rfl (ev_var rfl (.tail _ (.tail _ (.tail _ (.tail _ (.head _)))))) (Z := fun m => []) (fun m => List.perm_middle (l₁ := []) (l₂ := [])) (C' := fun d m => [rootL K p4 d]) (fun d m => (List.perm_middle (l₁ := []) (l₂ := [])).symm) fun found1 => ?_
          refine sv_skip ?_
          exact sv_nil ⟨(some v17), (some v18), (some v21), o23, o24, o25, o22, (some v15), rfl, rfl, rfl⟩ lnil
        · refine sv_skip ?_
          exact sv_nil ⟨(some v17), (some v18), (some v21), o23, o24, o25, o22, (some v15), rfl, rfl, rfl⟩ lnil
    · intro s6 _ _ _ hJ
      obtain ⟨o7, o8, o9, o10, o11, o12, o13, o14, rfl, rfl, rfl⟩ := hJ
      refine sv_freeze (C' := fun m => []) (fun m => List.perm_middle (l₁ := []) (l₂ := [])) hp4 ?_
      exact sv_ret sub0 (ev_var rfl (.head _))
set_option maxHeartbeats 0 in
theorem ok__law_root_set (T : Txt K mg) : FnOk P w K mg base CX0 2 T.a__law_root_set T.fd__law_root_set ["deck"] (SpD K 0 (u0 m__law_root_set)) := by
  refine T.F__law_root_set.ok sc__law_root_set (fun vs H Q E h => h.1) (fun cdv A outer s H vs Q E hr h => ?_)
  refine ⟨_, (pss_cons (ps_set (i := 1) sc__law_root_set.nd rfl (Or.inl rfl) (pe_lst (pa_cons (pe_tup (pa_cons (pe_tup (pa_cons pe_int (pa_cons pe_int pa_nil))) (pa_cons (pe_tup (pa_cons pe_int (pa_cons pe_int pa_nil))) pa_nil))) (pa_cons (pe_tup (pa_cons (pe_tup (pa_cons pe_int (pa_cons pe_int pa_nil))) (pa_cons (pe_tup (pa_cons pe_int (pa_cons pe_int pa_nil))) pa_nil))) (pa_cons (pe_tup (pa_cons (pe_tup (pa_cons pe_int (pa_cons pe_int pa_nil))) (pa_cons (pe_tup (pa_cons pe_int (pa_cons pe_int pa_nil))) pa_nil))) (pa_cons (pe_tup (pa_cons (pe_tup (pa_cons pe_int (pa_cons pe_int pa_nil))) (pa_cons (pe_tup (pa_cons pe_int (pa_cons pe_int pa_nil))) pa_nil))) (pa_cons (pe_tup (pa_cons (pe_tup (pa_cons pe_int (pa_cons pe_int pa_nil))) (pa_cons (pe_tup (pa_cons pe_int (pa_cons pe_int pa_nil))) pa_nil))) (pa_cons (pe_tup (pa_cons (pe_tup (pa_cons pe_int (pa_cons pe_int pa_nil))) (pa_cons (pe_tup (pa_cons pe_int (pa_cons pe_int pa_nil))) pa_nil))) pa_nil))))))))
      (pss_cons (ps_asg (pe_ix ix_seq (pe_op op_addU (pv 1) (pe_lst (pa_cons (pe_tup (pa_cons (pe_tup (pa_cons pe_int (pa_cons pe_int pa_nil))) (pa_cons (pe_tup (pa_cons pe_int (pa_cons pe_int pa_nil))) pa_nil))) (pa_cons (pe_tup (pa_cons (pe_tup (pa_cons pe_int (pa_cons pe_int pa_nil))) (pa_cons (pe_tup (pa_cons pe_int (pa_cons pe_int pa_nil))) pa_nil))) pa_nil)))) (pe_call (ok__law_pick T) (hr.mono (by decide)) rfl T.m__law_pick T.F__law_pick.kp T.b__law_pick .nil pass0 (pa_cons (pv 0) (pa_cons pe_int pa_nil))) (fun _ _ => rfl)) (pg_tup rfl (pgs_cons (pg_name (i := 2) sc__law_root_set.nd rfl (Or.inl rfl)) (pgs_cons (pg_name (i := 3) sc__law_root_set.nd rfl (Or.inl rfl)) pgs_nil))))
      (pss_cons (ps_set (i := 4) sc__law_root_set.nd rfl (Or.inl rfl) (pe_callB (call_maxU rfl) (by rfl) T.z_max (by decide +kernel) (pa_cons pe_int (pa_cons (pe_op op_sub (pe_op op_addU (pe_op op_sub (pe_bits (pe_ix ix_seq (pv 2) pe_int (fun _ _ => rfl))) pe_int) (pe_ix ix_seq (pv 3) pe_int (fun _ _ => rfl))) pe_int) pa_nil))))
      (pss_cons (ps_ret (pe_tup (pa_cons (pv 2) (pa_cons (pv 3) (pa_cons (pe_op op_addU (pv 4) (pe_ix ix_seq (pe_lst (pa_cons (pe_call (ok__law_pick T) (hr.mono (by decide)) rfl T.m__law_pick T.F__law_pick.kp T.b__law_pick .nil pass0 (pa_cons (pv 0) (pa_cons pe_int pa_nil))) (pa_cons (pe_op op_addU pe_int (pe_call (ok__law_pick T) (hr.mono (by decide)) rfl T.m__law_pick T.F__law_pick.kp T.b__law_pick .nil pass0 (pa_cons (pv 0) (pa_cons pe_int pa_nil)))) (pa_cons (pe_call (ok__law_pick T) (hr.mono (by decide)) rfl T.m__law_pick T.F__law_pick.kp T.b__law_pick .nil pass0 (pa_cons (pv 0) (pa_cons pe_int pa_nil))) pa_nil)))) (pe_call (ok__law_pick T) (hr.mono (by decide)) rfl T.m__law_pick T.F__law_pick.kp T.b__law_pick .nil pass0 (pa_cons (pv 0) (pa_cons pe_int pa_nil))) (fun _ _ => rfl))) pa_nil)))))
      pss_nil)))), body_D h fun a us ds O hv hl => ?_⟩
  have h1 := h.1
  subst hv
  obtain rfl := ls0 (l := us) (by first | exact h1 | exact Nat.succ.inj h1)
  obtain rfl := ls0 (l := ds) (by first | exact hl.symm | exact hl)
  refine ⟨_, rfl, ?_⟩
  refine sv_st (σ' := [some (.ref a), none, none, none, none]) rfl ?_
  refine sv_asg sub1 (ev_lst (av_cons (ev_tup (av_cons (ev_tup (av_cons ev_int (av_cons ev_int av_nil))) (av_cons (ev_tup (av_cons ev_int (av_cons ev_int av_nil))) av_nil))) (av_cons (ev_tup (av_cons (ev_tup (av_cons ev_int (av_cons ev_int av_nil))) (av_cons (ev_tup (av_cons ev_int (av_cons ev_int av_nil))) av_nil))) (av_cons (ev_tup (av_cons (ev_tup (av_cons ev_int (av_cons ev_int av_nil))) (av_cons (ev_tup (av_cons ev_int (av_cons ev_int av_nil))) av_nil))) (av_cons (ev_tup (av_cons (ev_tup (av_cons ev_int (av_cons ev_int av_nil))) (av_cons (ev_tup (av_cons ev_int (av_cons ev_int av_nil))) av_nil))) (av_cons (ev_tup (av_cons (ev_tup (av_cons ev_int (av_cons ev_int av_nil))) (av_cons (ev_tup (av_cons ev_int (av_cons ev_int av_nil))) av_nil))) (av_cons (ev_tup (av_cons (ev_tup (av_cons ev_int (av_cons ev_int av_nil))) (av_cons (ev_tup (av_cons ev_int (av_cons ev_int av_nil))) av_nil))) av_nil))))))) (σ' := (fun v1 => [some (.ref a), some v1, none, none, none])) (fun _ => rfl) fun v1 x11 => ?_
  refine sv_asgT sub1 (ev_op os_idx (ev_op os_add (ev_var rfl (.head _)) (ev_lst (av_cons (ev_tup (av_cons (ev_tup (av_cons ev_int (av_cons ev_int av_nil))) (av_cons (ev_tup (av_cons ev_int (av_cons ev_int av_nil))) av_nil))) (av_cons (ev_tup (av_cons (ev_tup (av_cons ev_int (av_cons ev_int av_nil))) (av_cons (ev_tup (av_cons ev_int (av_cons ev_int av_nil))) av_nil))) av_nil)))) (ev_cD rfl (fun _ _ => u1_len) (av_cons ev_int av_nil))) fun v2 x10 => tg_tup2 (.head _) fun v4 v5 x6 x7 => tgs_cons (tg_name (σ' := [some (.ref a), some v1, some v4, none, none]) rfl (tgs_cons (tg_name (σ' := [some (.ref a), some v1, some v4, some v5, none]) rfl (tgs_nil (?_)))))
  refine sv_asg sub1 (ev_cb cs_max (av_cons ev_int (av_cons (ev_op os_sub (ev_op os_add (ev_op os_sub (ev_bits (ev_op os_idx (ev_var rfl (.head _)) ev_int)) ev_int) (ev_op os_idx (ev_var rfl (.tail _ (.head _))) ev_int)) ev_int) av_nil))) (σ' := (fun v8 => [some (.ref a), some v1, some v4, some v5, some v8])) (fun _ => rfl) fun v8 x9 => ?_
  exact sv_ret sub1 (ev_tup (av_cons (ev_var rfl (.tail _ (.head _))) (av_cons (ev_var rfl (.tail _ (.tail _ (.head _)))) (av_cons (ev_op os_add (ev_var rfl (.head _)) (ev_op os_idx (ev_lst (av_cons (ev_cD rfl (fun _ _ => u1_len) (av_cons ev_int av_nil)) (av_cons (ev_op os_add ev_int (ev_cD rfl (fun _ _ => u1_len) (av_cons ev_int av_nil))) (av_cons (ev_cD rfl (fun _ _ => u1_len) (av_cons ev_int av_nil)) av_nil)))) (ev_cD rfl (fun _ _ => u1_len) (av_cons ev_int av_nil)))) av_nil))))
set_option maxHeartbeats 0 in
theorem ok__law_root_table (T : Txt K mg) : FnOk P w K mg base CX0 4 T.a__law_root_table T.fd__law_root_table ["deck", "kind", "looks", "fresh", "way"] (SpD K 4 (u4 m__law_root_table)) := by
  refine T.F__law_root_table.ok sc__law_root_table (fun vs H Q E h => h.1) (fun cdv A outer s H vs Q E hr h => ?_)
  refine ⟨_, (pss_cons (ps_set (i := 5) sc__law_root_table.nd rfl (Or.inl rfl) (pe_call (ok__law_half T) (hr.mono (by decide)) rfl T.m__law_half T.F__law_half.kp T.b__law_half .nil pass0 (pa_cons (pv 1) (pa_cons (pv 2) pa_nil))))
      (pss_cons (ps_set (i := 6) sc__law_root_table.nd rfl (Or.inl rfl) (pe_lst pa_nil))
      (pss_cons (ps_set (i := 7) sc__law_root_table.nd rfl (Or.inl rfl) pe_non)
      (pss_cons (ps_for PassesOwn.never rfl (pi_range2 (by rfl) T.z_range (pa_cons (pe_op op_shlW pe_int (pe_op op_sub (pe_ix ix_seq (pv 2) pe_int (fun _ _ => rfl)) pe_int)) (pa_cons (pe_op op_shlW pe_int (pe_ix ix_seq (pv 2) pe_int (fun _ _ => rfl))) pa_nil))) (pg_name (i := 8) sc__law_root_table.nd rfl (Or.inl rfl)) (pss_cons (ps_set (i := 9) sc__law_root_table.nd rfl (Or.inl rfl) (pe_lst pa_nil))
      (pss_cons (ps_for PassesOwn.never rfl (pi_range2 (by rfl) T.z_range (pa_cons (pe_op op_sub pe_int (pv 5)) (pa_cons (pv 5) pa_nil))) (pg_name (i := 10) sc__law_root_table.nd rfl (Or.inl rfl)) (pss_cons (ps_set (i := 11) sc__law_root_table.nd rfl (Or.inl rfl) (pe_call (ok__law_root_good T) (hr.mono (by decide)) rfl T.m__law_root_good T.F__law_root_good.kp T.b__law_root_good .nil pass0 (pa_cons (pv 1) (pa_cons (pv 2) (pa_cons (pv 3) (pa_cons (pe_tup (pa_cons (pv 8) (pa_cons (pv 10) pa_nil))) pa_nil))))))
      (pss_cons (ps_set (i := 12) sc__law_root_table.nd rfl (Or.inl rfl) pe_non)
      (pss_cons (ps_if (pt_cmpR (op_eqD hr.units) (pv 11) (pe_lst pa_nil) (nomark _)) (pss_cons (ps_set (i := 7) sc__law_root_table.nd rfl (Or.inl rfl) (pe_ifExp (pt_cmpR op_isntU (pv 7) pe_non (nomark _)) (pv 7) (pe_tup (pa_cons (pv 8) (pa_cons (pv 10) pa_nil)))))
      pss_nil) (pss_cons (ps_if (pt_cmpR op_isntU (pv 11) pe_non (nomark _)) (pss_cons (ps_set (i := 12) sc__law_root_table.nd rfl (Or.inl rfl) (pe_ix ix_seq (pe_lst (pa_cons (pe_minA rfl (by rfl) T.z_min (by rfl) T.z_abs (pa_cons (pv 11) pa_nil)) (pa_cons (pe_ix ix_seq (pv 11) (pe_call (ok__law_pick T) (hr.mono (by decide)) rfl T.m__law_pick T.F__law_pick.kp T.b__law_pick .nil pass0 (pa_cons (pv 0) (pa_cons (pe_callB call_len (by rfl) T.z_len (by decide +kernel) (pa_cons (pv 11) pa_nil)) pa_nil))) (fun _ _ => rfl)) (pa_cons (pe_ix ix_seq (pv 11) (pe_un un_neg pe_int) (fun _ _ => rfl)) pa_nil)))) (pv 4) (fun _ _ => rfl)))
      pss_nil) pss_nil)
      pss_nil))
      (pss_cons (ps_expr (pe_bm PySem.F.plainAttrs_list PySem.F.slot_list_append PySem.F.type_list_append mt_append (pv 9) (pa_cons (pv 12) pa_nil)))
      pss_nil)))))
      (pss_cons (ps_expr (pe_bm PySem.F.plainAttrs_list PySem.F.slot_list_append PySem.F.type_list_append mt_append (pv 6) (pa_cons (pv 9) pa_nil)))
      pss_nil))))
      (pss_cons (ps_ret (pe_tup (pa_cons (pv 6) (pa_cons (pv 7) pa_nil))))
      pss_nil))))), body_D h fun a us ds O hv hl => ?_⟩
  have h1 := h.1
  subst hv
  obtain ⟨v_1, v_2, v_3, v_4, rfl⟩ := ls4 (l := us) (by first | exact h1 | exact Nat.succ.inj h1)
  obtain ⟨x_1, x_2, x_3, x_4, rfl⟩ := ls4 (l := ds) (by first | exact hl.symm | exact hl)
  refine ⟨_, rfl, ?_⟩
  refine sv_st (σ' := [some (.ref a), some v_1, some v_2, some v_3, some v_4, none, none, none, none, none, none, none, none]) rfl ?_
  refine sv_asg sub1 (ev_cP (fun _ => u2_len) (av_cons (ev_var rfl (.head _)) (av_cons (ev_var rfl (.tail _ (.head _))) av_nil))) (σ' := (fun v1 => [some (.ref a), some v_1, some v_2, some v_3, some v_4, some v1, none, none, none, none, none, none, none])) (fun _ => rfl) fun v1 x35 => ?_
  refine sv_new sub1 av_nil (σ' := fun v3 => [some (.ref a), some v_1, some v_2, some v_3, some v_4, some v1, some v3, none, none, none, none, none, none]) (fun _ => rfl) (C' := fun p2 table m => [rootL K a m, rootL K p2 table]) (fun p2 table m => (List.perm_append_singleton _ [rootL K a m]).symm) fun p2 table hp2 => ?_
  refine sv_asg sub1 ev_non (σ' := (fun v4 => [some (.ref a), some v_1, some v_2, some v_3, some v_4, some v1, some (.ref p2), some v4, none, none, none, none, none])) (fun _ => rfl) fun v4 x34 => ?_
  refine sv_seq (J1 := (fun (s5 : D × D) σ' L2 C2 => ∃ (o6 : Option V) (o7 : Option V) (o8 : Option V) (o9 : Option V) (v10 : V) (o11 : Option V), σ' = [some (.ref a), some v_1, some v_2, some v_3, some v_4, some v1, some (.ref p2), some v10, o11, o6, o7, o8, o9] ∧ L2 = ([(v10, s5.1)] : List (V × D)) ∧ C2 = (fun m => rootL K a m :: [rootL K p2 s5.2]))) (sv_for sub1 (iv_rng2 (av_cons (ev_op os_shl ev_int (ev_op os_sub (ev_op os_idx (ev_var rfl (.tail _ (.tail _ (.tail _ (.head _))))) ev_int) ev_int)) (av_cons (ev_op os_shl ev_int (ev_op os_idx (ev_var rfl (.tail _ (.tail _ (.tail _ (.head _))))) ev_int)) av_nil))) ⟨none, none, none, none, v4, none, rfl, rfl, rfl⟩ (lcons (.head _) lnil) (by intro s5 _ _ _ hJ; obtain ⟨o6, o7, o8, o9, v10, o11, rfl, rfl, rfl⟩ := hJ; exact sub1) ?_) ?_
  · intro s5 _ _ _ hJ v12 x13
    obtain ⟨o6, o7, o8, o9, v10, o11, rfl, rfl, rfl⟩ := hJ
    refine tg_name (σ' := [some (.ref a), some v_1, some v_2, some v_3, some v_4, some v1, some (.ref p2), some v10, some v12, o6, o7, o8, o9]) rfl (?_)
    refine sv_new sub1 av_nil (σ' := fun v15 => [some (.ref a), some v_1, some v_2, some v_3, some v_4, some v1, some (.ref p2), some v10, some v12, some v15, o7, o8, o9]) (fun _ => rfl) (C' := fun p14 row m => [rootL K a m, rootL K p2 s5.2, rootL K p14 row]) (fun p14 row m => (List.perm_append_singleton _ [rootL K a m, rootL K p2 s5.2]).symm) fun p14 row hp14 => ?_
    refine sv_seq (J1 := (fun (s16 : D × D) σ' L2 C2 => ∃ (o17 : Option V) (o18 : Option V) (v19 : V) (o20 : Option V), σ' = [some (.ref a), some v_1, some v_2, some v_3, some v_4, some v1, some (.ref p2), some v19, some v12, some (.ref p14), o20, o17, o18] ∧ L2 = ([(v19, s16.1)] : List (V × D)) ∧ C2 = (fun m => rootL K a m :: [rootL K p2 s5.2, rootL K p14 s16.2]))) (sv_for sub1 (iv_rng2 (av_cons (ev_op os_sub ev_int (ev_var rfl (.tail _ (.tail _ (.tail _ (.head _)))))) (av_cons (ev_var rfl (.tail _ (.tail _ (.tail _ (.head _))))) av_nil))) ⟨o8, o9, v10, o7, rfl, rfl, rfl⟩ (lcons (.tail _ (.head _)) lnil) (by intro s16 _ _ _ hJ; obtain ⟨o17, o18, v19, o20, rfl, rfl, rfl⟩ := hJ; exact sub1) ?_) ?_
    · intro s16 _ _ _ hJ v21 x22
      obtain ⟨o17, o18, v19, o20, rfl, rfl, rfl⟩ := hJ
      refine tg_name (σ' := [some (.ref a), some v_1, some v_2, some v_3, some v_4, some v1, some (.ref p2), some v19, some v12, some (.ref p14), some v21, o17, o18]) rfl (?_)
      refine sv_asg sub1 (ev_cP (fun _ => u4_len) (av_cons (ev_var rfl (.tail _ (.tail _ (.tail _ (.tail _ (.tail _ (.tail _ (.head _)))))))) (av_cons (ev_var rfl (.tail _ (.tail _ (.tail _ (.tail _ (.tail _ (.tail _ (.tail _ (.head _))))))))) (av_cons (ev_var rfl (.tail _ (.tail _ (.tail _ (.tail _ (.tail _ (.tail _ (.tail _ (.tail _ (.head _)))))))))) (av_cons (ev_tup (av_cons (ev_var rfl (.tail _ (.tail _ (.head _)))) (av_cons (ev_var rfl (.head _)) av_nil))) av_nil))))) (σ' := (fun v23 => [some (.ref a), some v_1, some v_2, some v_3, some v_4, some v1, some (.ref p2), some v19, some v12, some (.ref p14), some v21, some v23, o18])) (fun _ => rfl) fun v23 x33 => ?_
      refine sv_asg sub1 ev_non (σ' := (fun v24 => [some (.ref a), some v_1, some v_2, some v_3, some v_4, some v1, some (.ref p2), some v19, some v12, some (.ref p14), some v21, some v23, some v24])) (fun _ => rfl) fun v24 x32 => ?_
      refine sv_seq (J1 := (fun (s25 : D × D) σ' L2 C2 => ∃ (v26 : V) (v27 : V), σ' = [some (.ref a), some v_1, some v_2, some v_3, some v_4, some v1, some (.ref p2), some v26, some v12, some (.ref p14), some v21, some v23, some v27] ∧ L2 = ([(v26, s25.1), (v27, s25.2)] : List (V × D)) ∧ C2 = (fun m => rootL K a m :: [rootL K p2 s5.2, rootL K p14 s16.2]))) (sv_if1 sub1 (tv_test (ev_op os_eq (ev_var rfl (.tail _ (.head _))) (ev_lst av_nil))) ?_ ?_) ?_
      · refine sv_asg sub1 (ev_if (tv_test (ev_op os_isnt (ev_var rfl (.tail _ (.tail _ (.tail _ (.head _))))) ev_non)) (ev_var rfl (.tail _ (.tail _ (.tail _ (.head _))))) (ev_tup (av_cons (ev_var rfl (.tail _ (.tail _ (.tail _ (.tail _ (.head _)))))) (av_cons (ev_var rfl (.tail _ (.tail _ (.head _)))) av_nil)))) (σ' := (fun v28 => [some (.ref a), some v_1, some v_2, some v_3, some v_4, some v1, some (.ref p2), some v28, some v12, some (.ref p14), some v21, some v23, some v24])) (fun _ => rfl) fun v28 x29 => ?_
        exact sv_nil ⟨v28, v24, rfl, rfl, rfl⟩ (lcons (.head _) (lcons (.tail _ (.head _)) lnil))
      · refine sv_if sub1 (tv_test (ev_op os_isnt (ev_var rfl (.tail _ (.head _))) ev_non)) ?_ ?_
        · refine sv_assoc ?_
          refine sv_asg sub1 (ev_op os_idx (ev_lst (av_cons (ev_minA (av_cons (ev_var rfl (.tail _ (.head _))) av_nil)) (av_cons (ev_op os_idx (ev_var rfl (.tail _ (.head _))) (ev_cD rfl (fun _ _ => u1_len) (av_cons (ev_cb cs_len (av_cons (ev_var rfl (.tail _ (.head _))) av_nil)) av_nil))) (av_cons (ev_op os_idx (ev_var rfl (.tail _ (.head _))) (ev_un us_neg ev_int)) av_nil)))) (ev_var rfl (.tail _ (.tail _ (.tail _ (.tail _ (.tail _ (.tail _ (.tail _ (.tail _ (.tail _ (.tail _ (.tail _ (.head _)))))))))))))) (σ' := (fun v30 => [some (.ref a), some v_1, some v_2, some v_3, some v_4, some v1, some (.ref p2), some v19, some v12, some (.ref p14), some v21, some v23, some v30])) (fun _ => rfl) fun v30 x31 => ?_
          refine sv_skip ?_
          exact sv_nil ⟨v19, v30, rfl, rfl, rfl⟩ (lcons (.tail _ (.tail _ (.tail _ (.tail _ (.head _))))) (lcons (.head _) lnil))
        · refine sv_skip ?_
          exact sv_nil ⟨v19, v24, rfl, rfl, rfl⟩ (lcons (.tail _ (.tail _ (.tail _ (.head _)))) (lcons (.head _) lnil))
      · intro s25 _ _ _ hJ
        obtain ⟨v26, v27, rfl, rfl, rfl⟩ := hJ
        refine sv_app sub1 rfl (ev_var rfl (.tail _ (.head _))) (Z := fun m => [rootL K a m, rootL K p2 s5.2]) (fun m => List.perm_middle (l₁ := [rootL K a m, rootL K p2 s5.2]) (l₂ := [])) (C' := fun d m => [rootL K a m, rootL K p2 s5.2, rootL K p14 d]) (fun d m => (List.perm_middle (l₁ := [rootL K a m, rootL K p2 s5.2]) (l₂ := [])).symm) fun row1 => ?_
        exact sv_nil ⟨(some v23), (some v27), v26, (some v21), rfl, rfl, rfl⟩ (lcons (.head _) lnil)
    · intro s16 _ _ _ hJ
      obtain ⟨o17, o18, v19, o20, rfl, rfl, rfl⟩ := hJ
      refine sv_freeze (C' := fun m => [rootL K a m, rootL K p2 s5.2]) (fun m => List.perm_middle (l₁ := [rootL K a m, rootL K p2 s5.2]) (l₂ := [])) hp14 ?_
      refine sv_app sub1 rfl (ev_var rfl (.head _)) (Z := fun m => [rootL K a m]) (fun m => List.perm_middle (l₁ := [rootL K a m]) (l₂ := [])) (C' := fun d m => [rootL K a m, rootL K p2 d]) (fun d m => (List.perm_middle (l₁ := [rootL K a m]) (l₂ := [])).symm) fun table1 => ?_
      exact sv_nil ⟨(some (.ref p14)), o20, o17, o18, v19, (some v12), rfl, rfl, rfl⟩ (lcons (.tail _ (.head _)) lnil)
  · intro s5 _ _ _ hJ
    obtain ⟨o6, o7, o8, o9, v10, o11, rfl, rfl, rfl⟩ := hJ
    refine sv_freeze (C' := fun m => [rootL K a m]) (fun m => List.perm_middle (l₁ := [rootL K a m]) (l₂ := [])) hp2 ?_
    exact sv_ret sub1 (ev_tup (av_cons (ev_var rfl (.head _)) (av_cons (ev_var rfl (.tail _ (.head _))) av_nil)))
set_option maxHeartbeats 0 in
theorem ok__law_spoilt (T : Txt K mg) : FnOk P w K mg base CX0 2 T.a__law_spoilt T.fd__law_spoilt ["deck", "kind", "looks", "table"] (SpD K 3 (u3 m__law_spoilt)) := by
  refine T.F__law_spoilt.ok sc__law_spoilt (fun vs H Q E h => h.1) (fun cdv A outer s H vs Q E hr h => ?_)
  refine ⟨_, (pss_cons (ps_setLc (i := 4) (own := [("row", 9)]) (g := (gName 9)) (tt := tYes) rfl sc__law_spoilt.nd rfl rfl (sw_true rfl rfl rfl (by decide +kernel)) (pi_seq (pv 3)) (blkOk_by (own := [("row", 9)]) (N := ["deck", "kind", "looks", "table", "told", "turn", "top", "look", "figure", "row"]) (sc := defScope s__law_spoilt) (by decide +kernel)) (fun _ _ _ _ _ => (pg_name (i := 9) sc__law_spoilt.nd rfl (Or.inl rfl))) (fun _ _ _ _ _ => pts_nil) (fun _ _ _ _ _ => (pe_callTy (show CallR _ (.type "list") (fun xs H Q => ∃ p ys, xs = [.ref p] ∧ (SqL K H p ys ∨ SqT K H p ys) ∧ ∀ l, H l = none → Q (.ref l) (upd H l (.lst ys))) from call_list_of) (by rfl) T.z_list (by decide +kernel) (pa_cons (pv 9) pa_nil))))
      (pss_cons (ps_for PassesOwn.never rfl (pi_range1 (by rfl) T.z_range (pa_cons (pe_call (ok__law_pick T) (hr.mono (by decide)) rfl T.m__law_pick T.F__law_pick.kp T.b__law_pick .nil pass0 (pa_cons (pv 0) (pa_cons pe_int pa_nil))) pa_nil)) (pg_name (i := 5) sc__law_spoilt.nd rfl (Or.inl rfl)) (pss_cons (ps_set (i := 6) sc__law_spoilt.nd rfl (Or.inl rfl) (pe_call (ok__law_pick T) (hr.mono (by decide)) rfl T.m__law_pick T.F__law_pick.kp T.b__law_pick .nil pass0 (pa_cons (pv 0) (pa_cons (pe_callB call_len (by rfl) T.z_len (by decide +kernel) (pa_cons (pv 4) pa_nil)) pa_nil))))
      (pss_cons (ps_set (i := 7) sc__law_spoilt.nd rfl (Or.inl rfl) (pe_call (ok__law_pick T) (hr.mono (by decide)) rfl T.m__law_pick T.F__law_pick.kp T.b__law_pick .nil pass0 (pa_cons (pv 0) (pa_cons (pe_callB call_len (by rfl) T.z_len (by decide +kernel) (pa_cons (pe_ix ix_seq (pv 4) pe_int (fun _ _ => rfl)) pa_nil)) pa_nil))))
      (pss_cons (ps_set (i := 8) sc__law_spoilt.nd rfl (Or.inl rfl) (pe_lst (pa_cons pe_non (pa_cons (pe_op op_sub (pe_call (ok__law_pick T) (hr.mono (by decide)) rfl T.m__law_pick T.F__law_pick.kp T.b__law_pick .nil pass0 (pa_cons (pv 0) (pa_cons (pe_op op_addU (pe_op op_mulU pe_int (pe_ix ix_seq (pv 1) pe_int (fun _ _ => rfl))) pe_int) pa_nil))) (pe_ix ix_seq (pv 1) pe_int (fun _ _ => rfl))) pa_nil))))
      (pss_cons (ps_set (i := 8) sc__law_spoilt.nd rfl (Or.inl rfl) (pe_ix ix_seq (pv 8) (pe_callTy call_int1 (by rfl) T.z_int (by decide +kernel) (pa_cons (pe_cmpR op_gt (pe_call (ok__law_pick T) (hr.mono (by decide)) rfl T.m__law_pick T.F__law_pick.kp T.b__law_pick .nil pass0 (pa_cons (pv 0) (pa_cons pe_int pa_nil))) pe_int (nomark _)) pa_nil)) (fun _ _ => rfl)))
      (pss_cons (ps_asg (pv 8) (pg_sub (pe_ix ix_seq (pv 4) (pv 6) (fun _ _ => rfl)) (pv 7) set_list))
      (pss_cons (ps_if (pt_cmpR (op_eqD hr.units) (pe_call (ok__law_pick T) (hr.mono (by decide)) rfl T.m__law_pick T.F__law_pick.kp T.b__law_pick .nil pass0 (pa_cons (pv 0) (pa_cons pe_int pa_nil))) pe_int (nomark _)) (pss_cons (ps_asg (pe_op op_mulU (pe_lst (pa_cons (pv 8) pa_nil)) (pe_callB call_len (by rfl) T.z_len (by decide +kernel) (pa_cons (pe_ix ix_seq (pv 4) pe_int (fun _ _ => rfl)) pa_nil))) (pg_sub (pv 4) (pv 6) set_list))
      pss_nil) pss_nil)
      pss_nil)))))))
      (pss_cons (ps_ret (pv 4))
      pss_nil))), body_D h fun a us ds O hv hl => ?_⟩
  have h1 := h.1
  subst hv
  obtain ⟨v_1, v_2, v_3, rfl⟩ := ls3 (l := us) (by first | exact h1 | exact Nat.succ.inj h1)
  obtain ⟨x_1, x_2, x_3, rfl⟩ := ls3 (l := ds) (by first | exact hl.symm | exact hl)
  refine ⟨_, rfl, ?_⟩
  refine sv_st (σ' := [some (.ref a), some v_1, some v_2, some v_3, none, none, none, none, none, none]) rfl ?_
  refine sv_copies sub1 (iv_seq (ev_var rfl (.tail _ (.tail _ (.head _))))) (σ2 := fun v5 => [some (.ref a), some v_1, some v_2, some v_3, none, none, none, none, none, some v5]) (fun _ => rfl) (fun _ => rfl) (fun _ => rfl) (σ' := fun v5 => [some (.ref a), some v_1, some v_2, some v_3, some v5, none, none, none, none, none]) (fun _ => rfl) (C' := fun p3 ps4 told m => [rootL K a m, rootLL K p3 ps4 told]) (fun p3 ps4 told m => (List.perm_append_singleton _ [rootL K a m]).symm) fun p3 ps4 told hp3 hps4 => ?_
  refine sv_seq (J1 := (fun (s6 : D) σ' L2 C2 => ∃ ps10 : List Addr, (∀ q ∈ ps10, q ∉ O.fp) ∧ ∃ (o7 : Option V) (o8 : Option V) (o9 : Option V) (o11 : Option V), σ' = [some (.ref a), some v_1, some v_2, some v_3, some (.ref p3), o11, o7, o8, o9, none] ∧ L2 = ([] : List (V × D)) ∧ C2 = (fun m => rootL K a m :: [rootLL K p3 ps10 s6]))) (sv_for sub1 (iv_rng1 (av_cons (ev_cD rfl (fun _ _ => u1_len) (av_cons ev_int av_nil)) av_nil)) ⟨ps4, hps4, none, none, none, none, rfl, rfl, rfl⟩ lnil (by intro s6 _ _ _ hJ; obtain ⟨ps10, hps10, o7, o8, o9, o11, rfl, rfl, rfl⟩ := hJ; exact sub1) ?_) ?_
  · intro s6 _ _ _ hJ v12 x13
    obtain ⟨ps10, hps10, o7, o8, o9, o11, rfl, rfl, rfl⟩ := hJ
    refine tg_name (σ' := [some (.ref a), some v_1, some v_2, some v_3, some (.ref p3), some v12, o7, o8, o9, none]) rfl (?_)
    refine sv_asg sub1 (ev_cD rfl (fun _ _ => u1_len) (av_cons (ev_rlenLL rfl (fun m => List.perm_middle (l₁ := [rootL K a m]) (l₂ := []))) av_nil)) (σ' := (fun v14 => [some (.ref a), some v_1, some v_2, some v_3, some (.ref p3), some v12, some v14, o8, o9, none])) (fun _ => rfl) fun v14 x22 => ?_
    refine sv_asg sub1 (ev_cD rfl (fun _ _ => u1_len) (av_cons (ev_llen rfl ev_int (fun m => List.perm_middle (l₁ := [rootL K a m]) (l₂ := []))) av_nil)) (σ' := (fun v15 => [some (.ref a), some v_1, some v_2, some v_3, some (.ref p3), some v12, some v14, some v15, o9, none])) (fun _ => rfl) fun v15 x21 => ?_
    refine sv_asg sub1 (ev_lst (av_cons ev_non (av_cons (ev_op os_sub (ev_cD rfl (fun _ _ => u1_len) (av_cons (ev_op os_add (ev_op os_mul ev_int (ev_op os_idx (ev_var rfl (.tail _ (.tail _ (.tail _ (.head _))))) ev_int)) ev_int) av_nil)) (ev_op os_idx (ev_var rfl (.tail _ (.tail _ (.tail _ (.head _))))) ev_int)) av_nil))) (σ' := (fun v16 => [some (.ref a), some v_1, some v_2, some v_3, some (.ref p3), some v12, some v14, some v15, some v16, none])) (fun _ => rfl) fun v16 x20 => ?_
    refine sv_asg sub1 (ev_op os_idx (ev_var rfl (.head _)) (ev_cb cs_int (av_cons (ev_op os_gt (ev_cD rfl (fun _ _ => u1_len) (av_cons ev_int av_nil)) ev_int) av_nil))) (σ' := (fun v17 => [some (.ref a), some v_1, some v_2, some v_3, some (.ref p3), some v12, some v14, some v15, some v17, none])) (fun _ => rfl) fun v17 x19 => ?_
    refine sv_set2 sub1 rfl (ev_var rfl (.head _)) (ev_var rfl (.tail _ (.tail _ (.tail _ (.head _))))) (ev_var rfl (.tail _ (.tail _ (.head _)))) (Z := fun m => [rootL K a m]) (fun m => List.perm_middle (l₁ := [rootL K a m]) (l₂ := [])) (C' := fun d m => [rootL K a m, rootLL K p3 ps10 d]) (fun d m => (List.perm_middle (l₁ := [rootL K a m]) (l₂ := [])).symm) fun told1 => ?_
    refine sv_if sub1 (tv_test (ev_op os_eq (ev_cD rfl (fun _ _ => u1_len) (av_cons ev_int av_nil)) ev_int)) ?_ ?_
    · refine sv_assoc ?_
      refine sv_rowset sub1 hps10 rfl (fv_rep (ev_lst (av_cons (ev_var rfl (.head _)) av_nil)) (ev_llen rfl ev_int (fun m => List.perm_middle (l₁ := [rootL K a m]) (l₂ := [])))) (ev_var rfl (.tail _ (.tail _ (.tail _ (.head _))))) (Z := fun m => [rootL K a m]) (fun m => List.perm_middle (l₁ := [rootL K a m]) (l₂ := [])) (C' := fun ps d m => [rootL K a m, rootLL K p3 ps d]) (fun ps d m => (List.perm_middle (l₁ := [rootL K a m]) (l₂ := [])).symm) fun ps18 told2 hps18 => ?_
      refine sv_skip ?_
      exact sv_nil ⟨ps18, hps18, (some v14), (some v15), (some v17), (some v12), rfl, rfl, rfl⟩ lnil
    · refine sv_skip ?_
      exact sv_nil ⟨ps10, hps10, (some v14), (some v15), (some v17), (some v12), rfl, rfl, rfl⟩ lnil
  · intro s6 _ _ _ hJ
    obtain ⟨ps10, hps10, o7, o8, o9, o11, rfl, rfl, rfl⟩ := hJ
    refine sv_half (Z := fun m => [rootL K a m]) (fun m => List.perm_middle (l₁ := [rootL K a m]) (l₂ := [])) (C' := fun m => [rootL K a m, rootL K p3 s6]) (fun m => (List.perm_middle (l₁ := [rootL K a m]) (l₂ := [])).symm) hps10 ?_
    refine sv_freeze (C' := fun m => [rootL K a m]) (fun m => List.perm_middle (l₁ := [rootL K a m]) (l₂ := [])) hp3 ?_
    exact sv_ret sub1 (ev_var rfl (.head _))
set_option maxHeartbeats 0 in
theorem ok__law_name_of (T : Txt K mg) : FnX P w K mg base CX0 1 T.a__law_name_of T.fd__law_name_of ["e"] (SpE K (rootX T.exs) m__law_name_of) := by
  refine okFX T.F__law_name_of sc__law_name_of (fun a cls d vs H Q E h => h.1) (fun cdv A outer s H vs Q E p cls d hot hz hr h => ?_)
  have hf : ∃ vs, p.2.data = .fields vs := hot.2.imp fun _ h => h.1
  refine ⟨_, (pss_cons (ps_set (i := 1) sc__law_name_of.nd rfl (Or.inl rfl) (pe_lst (pa_cons (pe_callB (show CallR _ (.builtin "isinstance") (rIsX K cls d p.1) from call_isX (pa := p.1) (po := p.2) (.head _) hz hf) (by rfl) T.z_isinstance (by decide +kernel) (pa_cons (pv 0) (pa_cons (pe_glob (v := .ref T.C_NoFigure) (by exact rfl) T.g_NoFigure (by exact rfl)) pa_nil))) (pa_cons (pe_callB (show CallR _ (.builtin "isinstance") (rIsX K cls d p.1) from call_isX (pa := p.1) (po := p.2) (.head _) hz hf) (by rfl) T.z_isinstance (by decide +kernel) (pa_cons (pv 0) (pa_cons (pe_glob (v := .ref T.C_NoLooks) (by exact rfl) T.g_NoLooks (by exact rfl)) pa_nil))) (pa_cons (pe_callB (show CallR _ (.builtin "isinstance") (rIsX K cls d p.1) from call_isX (pa := p.1) (po := p.2) (.head _) hz hf) (by rfl) T.z_isinstance (by decide +kernel) (pa_cons (pv 0) (pa_cons (pe_glob (v := .ref T.C_NoRoom) (by exact rfl) T.g_NoRoom (by exact rfl)) pa_nil))) (pa_cons (pe_callB (show CallR _ (.builtin "isinstance") (rIsX K cls d p.1) from call_isX (pa := p.1) (po := p.2) (.head _) hz hf) (by rfl) T.z_isinstance (by decide +kernel) (pa_cons (pv 0) (pa_cons (pe_glob (v := .ref T.C_NoRow) (by exact rfl) T.g_NoRow (by exact rfl)) pa_nil))) pa_nil))))))
      (pss_cons (ps_set (i := 1) sc__law_name_of.nd rfl (Or.inl rfl) (pe_op op_addU (pv 1) (pe_lst (pa_cons (pe_callB (show CallR _ (.builtin "isinstance") (rIsX K cls d p.1) from call_isX (pa := p.1) (po := p.2) (.head _) hz hf) (by rfl) T.z_isinstance (by decide +kernel) (pa_cons (pv 0) (pa_cons (pe_glob (v := .ref T.C_NoTable) (by exact rfl) T.g_NoTable (by exact rfl)) pa_nil))) (pa_cons (pe_callB (show CallR _ (.builtin "isinstance") (rIsX K cls d p.1) from call_isX (pa := p.1) (po := p.2) (.head _) hz hf) (by rfl) T.z_isinstance (by decide +kernel) (pa_cons (pv 0) (pa_cons (pe_glob (v := .ref T.C_NoText) (by exact rfl) T.g_NoText (by exact rfl)) pa_nil))) (pa_cons (pe_callB (show CallR _ (.builtin "isinstance") (rIsX K cls d p.1) from call_isX (pa := p.1) (po := p.2) (.head _) hz hf) (by rfl) T.z_isinstance (by decide +kernel) (pa_cons (pv 0) (pa_cons (pe_glob (v := .ref T.C_Spoilt) (by exact rfl) T.g_Spoilt (by exact rfl)) pa_nil))) (pa_cons (pe_callB (show CallR _ (.builtin "isinstance") (rIsX K cls d p.1) from call_isX (pa := p.1) (po := p.2) (.head _) hz hf) (by rfl) T.z_isinstance (by decide +kernel) (pa_cons (pv 0) (pa_cons (pe_bltn (v := .ty "ValueError") (u := .type "ValueError") (by rfl) T.z_ValueError (by decide +kernel) (by exact rfl)) pa_nil))) pa_nil)))))))
      (pss_cons (ps_set (i := 2) sc__law_name_of.nd rfl (Or.inl rfl) (pe_lst (pa_cons pe_str (pa_cons pe_str (pa_cons pe_str (pa_cons pe_str (pa_cons pe_str (pa_cons pe_str (pa_cons pe_str (pa_cons pe_str pa_nil))))))))))
      (pss_cons (ps_ret (pe_join pe_str (pe_lcS (own := [("name", 3), ("kind", 4)]) (g := (gTup K 2 (gCons (gName 3) (gCons (gName 4) gNil)))) ⟨p, hot, .head _⟩ sc__law_name_of.nd (pi_zipS (by rfl) T.z_zip (pa_cons (pv 2) (pa_cons (pv 1) pa_nil))) (blkOk_by (own := [("name", 3), ("kind", 4)]) (N := ["e", "kinds", "names", "name", "kind"]) (sc := defScope s__law_name_of) (by decide +kernel)) (fun _ _ _ _ _ hS => (pg_tupS hS (pgs_cons (pg_name (i := 3) sc__law_name_of.nd rfl (Or.inl rfl)) (pgs_cons (pg_name (i := 4) sc__law_name_of.nd rfl (Or.inl rfl)) pgs_nil)))) (fun _ _ _ _ _ => (pts_one (show PT _ _ (tTru K _) from pt_truth (pv 4) (by intro _; rfl)))) (fun _ _ _ _ _ => (pv 3)))))
      pss_nil)))), body_E h fun e O => ?_⟩
  refine ⟨_, rfl, ?_⟩
  refine sv_st (σ' := [some (.ref p.1), none, none, none, none]) rfl ?_
  refine sv_asg sub1 (ev_lst (av_cons (ev_isX rfl (fun _ h => h) T.isx_NoFigure) (av_cons (ev_isX rfl (fun _ h => h) T.isx_NoLooks) (av_cons (ev_isX rfl (fun _ h => h) T.isx_NoRoom) (av_cons (ev_isX rfl (fun _ h => h) T.isx_NoRow) av_nil))))) (σ' := (fun v1 => [some (.ref p.1), some v1, none, none, none])) (fun _ => rfl) fun v1 x10 => ?_
  refine sv_asg sub1 (ev_op os_add (ev_var rfl (.head _)) (ev_lst (av_cons (ev_isX rfl (fun _ h => h) T.isx_NoTable) (av_cons (ev_isX rfl (fun _ h => h) T.isx_NoText) (av_cons (ev_isX rfl (fun _ h => h) T.isx_Spoilt) (av_cons (ev_isX rfl (fun _ h => h) T.isx_ValueError) av_nil)))))) (σ' := (fun v2 => [some (.ref p.1), some v2, none, none, none])) (fun _ => rfl) fun v2 x9 => ?_
  refine sv_asg sub1 (ev_lst (av_cons ev_str (av_cons ev_str (av_cons ev_str (av_cons ev_str (av_cons ev_str (av_cons ev_str (av_cons ev_str (av_cons ev_str av_nil))))))))) (σ' := (fun v3 => [some (.ref p.1), some v2, some v3, none, none])) (fun _ => rfl) fun v3 x8 => ?_
  exact sv_ret sub1 (ev_join ev_str (ev_lc2 (σ2 := fun v4 v5 => [some (.ref p.1), some v2, some v3, some v4, some v5]) (iv_zipL (av_cons (ev_var rfl (.head _)) (av_cons (ev_var rfl (.tail _ (.head _))) av_nil))) (fun _ _ => rfl) (fun _ _ => rfl) (fun v4 v5 x6 x7 => (tv_tr (ev_var rfl (.tail _ (.head _))))) (fun v4 v5 x6 x7 => (ev_var rfl (.head _)))))
set_option maxHeartbeats 0 in
theorem ok__law_told (T : Txt K mg) : FnOk P w K mg base CX0 6 T.a__law_told T.fd__law_told ["kind", "looks", "fresh"] (SpP K 3 (u3 m__law_told)) := by
  refine T.F__law_told.ok sc__law_told (fun vs H Q E h => h.1) (fun cdv A outer s H vs Q E hr h => ?_)
  refine ⟨_, (pss_cons (ps_set (i := 3) sc__law_told.nd rfl (Or.inl rfl) pe_non)
      (pss_cons (ps_set (i := 4) sc__law_told.nd rfl (Or.inl rfl) pe_non)
      (pss_cons (ps_tryA (i := 5) rfl rfl sc__law_told.nd rfl rfl ⟨rfl, by decide, .inl T.g_SlackError⟩ takes0N (fun W pn xe tk pa => (pss_cons (ps_set (i := 3) sc__law_told.nd rfl (Or.inl rfl) (pe_callS (ok_root_table T) (hr.mono (by decide)) (by exact rfl) T.m_root_table T.F_root_table.kp T.b_root_table (fun σ => passAtN tk σ) (pa_cons (pv 0) (pa_cons (pv 1) (pa_cons (pv 2) pa_nil)))))
      pss_nil)) (fun a oe cls d pn hz hf => (pss_cons (ps_set (i := 4) sc__law_told.nd rfl (Or.inl rfl) (pe_tup (pa_cons (pe_callX (pa := a) (po := oe) ⟨by exact rfl, hf.imp fun _ h => ⟨h, hz.2.2 _ h⟩⟩ (.head _) hz.zc (ok__law_name_of T) (roomH_mk hr (by decide)) (by exact rfl) T.m__law_name_of T.F__law_name_of.kp T.b__law_name_of passS0 (pa_cons (pv 5) pa_nil)) (pa_cons (pe_ifExp (show PT _ _ (tTru K _) from pt_truth (pe_callB (show CallR _ (.builtin "isinstance") (rIsX K cls d a) from call_isX (pa := a) (po := oe) (.head _) hz.zc hf) (by rfl) T.z_isinstance (by decide +kernel) (pa_cons (pv 5) (pa_cons (pe_glob (v := .ref T.C_NoTable) (by exact rfl) T.g_NoTable (by exact rfl)) pa_nil))) (by intro _; rfl)) (pe_lst (pa_cons (pe_tup (pa_cons (pe_xfX (pa := a) (po := oe) (.head _) T.xf_NoTable T.nf_NoTable_top hz.zc hf (pv 5)) (pa_cons (pe_xfX (pa := a) (po := oe) (.head _) T.xf_NoTable T.nf_NoTable_look hz.zc hf (pv 5)) pa_nil))) pa_nil)) (pe_lst pa_nil)) pa_nil))))
      pss_nil)))
      (pss_cons (ps_ret (pe_tup (pa_cons (pv 3) (pa_cons (pv 4) pa_nil))))
      pss_nil)))), body_P h fun ds O hl => ?_⟩
  have h1 := h.1
  obtain ⟨v_0, v_1, v_2, rfl⟩ := ls3 (l := vs) (by first | exact h1 | exact Nat.succ.inj h1)
  obtain ⟨x_0, x_1, x_2, rfl⟩ := ls3 (l := ds) (by first | exact hl.symm | exact hl)
  refine ⟨_, rfl, ?_⟩
  refine sv_st (σ' := [some v_0, some v_1, some v_2, none, none, none]) rfl ?_
  refine sv_asg sub0 ev_non (σ' := (fun v1 => [some v_0, some v_1, some v_2, some v1, none, none])) (fun _ => rfl) fun v1 x11 => ?_
  refine sv_asg sub0 ev_non (σ' := (fun v2 => [some v_0, some v_1, some v_2, some v1, some v2, none])) (fun _ => rfl) fun v2 x10 => ?_
  refine sv_seq (J1 := (fun (s3 : D × D) σ' L2 C2 => ∃ (v4 : V) (v5 : V), σ' = [some v_0, some v_1, some v_2, some v4, some v5, none] ∧ L2 = ([(v4, s3.1), (v5, s3.2)] : List (V × D)) ∧ C2 = (fun _ => []))) (sv_try (i := 5) (cl := T.exs) (mt := fun e => isa (nmX e)) sub0 (.inr rfl) T.exm_SlackError (fun W => ?_) (fun a cls d e he => ?_)) ?_
  · refine sv_asg (fun _ => List.Sublist.refl _) (ev_cPXS (fun _ _ _ h => h) (fun _ => u3_len) (av_cons (ev_var rfl (.tail _ (.tail _ (.head _)))) (av_cons (ev_var rfl (.tail _ (.tail _ (.tail _ (.head _))))) (av_cons (ev_var rfl (.tail _ (.tail _ (.tail _ (.tail _ (.head _)))))) av_nil)))) (σ' := (fun v6 => [some v_0, some v_1, some v_2, some v6, some v2, none])) (fun _ => rfl) fun v6 x7 => ?_
    exact sv_nil ⟨v6, v2, rfl, rfl, rfl⟩ (lcons (.head _) (lcons (.tail _ (.head _)) lnil))
  · refine sv_st (σ' := [some v_0, some v_1, some v_2, some v1, some v2, some (.ref a)]) rfl ?_
    refine sv_asg (fun _ => List.nil_sublist _) (ev_tup (av_cons (ev_cE rfl) (av_cons (ev_if (tv_tr (ev_isX rfl (fun _ h => h) T.isx_NoTable)) (ev_lst (av_cons (ev_tup (av_cons (ev_fldX rfl T.own_NoTable_top) (av_cons (ev_fldX rfl T.own_NoTable_look) av_nil))) av_nil)) (ev_lst av_nil)) av_nil))) (σ' := (fun v8 => [some v_0, some v_1, some v_2, some v1, some v8, some (.ref a)])) (fun _ => rfl) fun v8 x9 => ?_
    refine sv_drop (C' := (fun _ => [])) (fun _ => List.sublist_cons_self _ _) ?_
    exact sv_nil ⟨v1, v8, rfl, rfl, rfl⟩ (lcons (.tail _ (.tail _ (.head _))) (lcons (.head _) lnil))
  · intro s3 _ _ _ hJ
    obtain ⟨v4, v5, rfl, rfl, rfl⟩ := hJ
    exact sv_ret sub0 (ev_tup (av_cons (ev_var rfl (.head _)) (av_cons (ev_var rfl (.tail _ (.head _))) av_nil)))
set_option maxHeartbeats 0 in
theorem ok__law_first (T : Txt K mg) : FnOk P w K mg base CX0 4 T.a__law_first T.fd__law_first ["kind", "looks", "fresh", "table"] (SpP K 4 (u4 m__law_first)) := by
  refine T.F__law_first.ok sc__law_first (fun vs H Q E h => h.1) (fun cdv A outer s H vs Q E hr h => ?_)
  refine ⟨_, (pss_cons (ps_set (i := 4) sc__law_first.nd rfl (Or.inl rfl) (pe_call (ok__law_half T) (hr.mono (by decide)) rfl T.m__law_half T.F__law_half.kp T.b__law_half .nil pass0 (pa_cons (pv 0) (pa_cons (pv 1) pa_nil))))
      (pss_cons (ps_for PassesOwn.never rfl (pi_range1 (by rfl) T.z_range (pa_cons (pe_callB call_len (by rfl) T.z_len (by decide +kernel) (pa_cons (pv 3) pa_nil)) pa_nil)) (pg_name (i := 5) sc__law_first.nd rfl (Or.inl rfl)) (pss_cons (ps_for PassesOwn.never rfl (pi_range1 (by rfl) T.z_range (pa_cons (pe_op op_mulU pe_int (pv 4)) pa_nil)) (pg_name (i := 6) sc__law_first.nd rfl (Or.inl rfl)) (pss_cons (ps_set (i := 7) sc__law_first.nd rfl (Or.inl rfl) (pe_tup (pa_cons (pe_op op_addU (pe_op op_shlW pe_int (pe_op op_sub (pe_ix ix_seq (pv 1) pe_int (fun _ _ => rfl)) pe_int)) (pv 5)) (pa_cons (pe_op op_sub (pv 6) (pv 4)) pa_nil))))
      (pss_cons (ps_set (i := 8) sc__law_first.nd rfl (Or.inl rfl) (pe_call (ok__law_root_good T) (hr.mono (by decide)) rfl T.m__law_root_good T.F__law_root_good.kp T.b__law_root_good .nil pass0 (pa_cons (pv 0) (pa_cons (pv 1) (pa_cons (pv 2) (pa_cons (pv 7) pa_nil))))))
      (pss_cons (ps_if (PW.pt (pw_and (pt_cmpR op_isntU (pv 8) pe_non (nomark _)) (pw_and1 (PW.pt (pw_or (pt_cmpR op_isU (pe_ix ix_seq (pe_ix ix_seq (pv 3) (pv 5) (fun _ _ => rfl)) (pv 6) (fun _ _ => rfl)) pe_non (nomark _)) (pw_or1 (pt_cmpR op_notIn_seq (pe_ix ix_seq (pe_ix ix_seq (pv 3) (pv 5) (fun _ _ => rfl)) (pv 6) (fun _ _ => rfl)) (pv 8) (by rfl)))))))) (pss_cons (ps_ret (pv 7))
      pss_nil) pss_nil)
      pss_nil))))
      pss_nil))
      (pss_cons (ps_ret pe_non)
      pss_nil))), body_P h fun ds O hl => ?_⟩
  have h1 := h.1
  obtain ⟨v_0, v_1, v_2, v_3, rfl⟩ := ls4 (l := vs) (by first | exact h1 | exact Nat.succ.inj h1)
  obtain ⟨x_0, x_1, x_2, x_3, rfl⟩ := ls4 (l := ds) (by first | exact hl.symm | exact hl)
  refine ⟨_, rfl, ?_⟩
  refine sv_st (σ' := [some v_0, some v_1, some v_2, some v_3, none, none, none, none, none]) rfl ?_
  refine sv_asg sub0 (ev_cP (fun _ => u2_len) (av_cons (ev_var rfl (.head _)) (av_cons (ev_var rfl (.tail _ (.head _))) av_nil))) (σ' := (fun v1 => [some v_0, some v_1, some v_2, some v_3, some v1, none, none, none, none])) (fun _ => rfl) fun v1 x19 => ?_
  refine sv_seq (J1 := (fun (s2 : Unit) σ' L2 C2 => ∃ (o3 : Option V) (o4 : Option V) (o5 : Option V) (o6 : Option V), σ' = [some v_0, some v_1, some v_2, some v_3, some v1, o6, o3, o4, o5] ∧ L2 = ([] : List (V × D)) ∧ C2 = (fun _ => []))) (sv_for sub0 (iv_rng1 (av_cons (ev_cb cs_len (av_cons (ev_var rfl (.tail _ (.tail _ (.tail _ (.tail _ (.head _)))))) av_nil)) av_nil)) ⟨none, none, none, none, rfl, rfl, rfl⟩ lnil (by intro s2 _ _ _ hJ; obtain ⟨o3, o4, o5, o6, rfl, rfl, rfl⟩ := hJ; exact sub0) ?_) ?_
  · intro s2 _ _ _ hJ v7 x8
    obtain ⟨o3, o4, o5, o6, rfl, rfl, rfl⟩ := hJ
    refine tg_name (σ' := [some v_0, some v_1, some v_2, some v_3, some v1, some v7, o3, o4, o5]) rfl (?_)
    refine sv_seq (J1 := (fun (s9 : Unit) σ' L2 C2 => ∃ (o10 : Option V) (o11 : Option V) (o12 : Option V), σ' = [some v_0, some v_1, some v_2, some v_3, some v1, some v7, o12, o10, o11] ∧ L2 = ([] : List (V × D)) ∧ C2 = (fun _ => []))) (sv_for sub0 (iv_rng1 (av_cons (ev_op os_mul ev_int (ev_var rfl (.tail _ (.head _)))) av_nil)) ⟨o4, o5, o3, rfl, rfl, rfl⟩ lnil (by intro s9 _ _ _ hJ; obtain ⟨o10, o11, o12, rfl, rfl, rfl⟩ := hJ; exact sub0) ?_) ?_
    · intro s9 _ _ _ hJ v13 x14
      obtain ⟨o10, o11, o12, rfl, rfl, rfl⟩ := hJ
      refine tg_name (σ' := [some v_0, some v_1, some v_2, some v_3, some v1, some v7, some v13, o10, o11]) rfl (?_)
      refine sv_asg sub0 (ev_tup (av_cons (ev_op os_add (ev_op os_shl ev_int (ev_op os_sub (ev_op os_idx (ev_var rfl (.tail _ (.tail _ (.tail _ (.tail _ (.head _)))))) ev_int) ev_int)) (ev_var rfl (.tail _ (.head _)))) (av_cons (ev_op os_sub (ev_var rfl (.head _)) (ev_var rfl (.tail _ (.tail _ (.head _))))) av_nil))) (σ' := (fun v15 => [some v_0, some v_1, some v_2, some v_3, some v1, some v7, some v13, some v15, o11])) (fun _ => rfl) fun v15 x18 => ?_
      refine sv_asg sub0 (ev_cP (fun _ => u4_len) (av_cons (ev_var rfl (.tail _ (.tail _ (.tail _ (.tail _ (.head _)))))) (av_cons (ev_var rfl (.tail _ (.tail _ (.tail _ (.tail _ (.tail _ (.head _))))))) (av_cons (ev_var rfl (.tail _ (.tail _ (.tail _ (.tail _ (.tail _ (.tail _ (.head _)))))))) (av_cons (ev_var rfl (.head _)) av_nil))))) (σ' := (fun v16 => [some v_0, some v_1, some v_2, some v_3, some v1, some v7, some v13, some v15, some v16])) (fun _ => rfl) fun v16 x17 => ?_
      refine sv_if sub0 (tv_and (tv_test (ev_op os_isnt (ev_var rfl (.head _)) ev_non)) (tv_or (tv_test (ev_op os_is (ev_op os_idx (ev_op os_idx (ev_var rfl (.tail _ (.tail _ (.tail _ (.tail _ (.tail _ (.tail _ (.tail _ (.tail _ (.head _)))))))))) (ev_var rfl (.tail _ (.tail _ (.tail _ (.head _)))))) (ev_var rfl (.tail _ (.tail _ (.head _))))) ev_non)) (tv_test (ev_op os_in (ev_op os_idx (ev_op os_idx (ev_var rfl (.tail _ (.tail _ (.tail _ (.tail _ (.tail _ (.tail _ (.tail _ (.tail _ (.head _)))))))))) (ev_var rfl (.tail _ (.tail _ (.tail _ (.head _)))))) (ev_var rfl (.tail _ (.tail _ (.head _))))) (ev_var rfl (.head _)))))) ?_ ?_
      · refine sv_assoc ?_
        exact sv_ret sub0 (ev_var rfl (.tail _ (.head _)))
      · refine sv_skip ?_
        exact sv_nil ⟨(some v15), (some v16), (some v13), rfl, rfl, rfl⟩ lnil
    · intro s9 _ _ _ hJ
      obtain ⟨o10, o11, o12, rfl, rfl, rfl⟩ := hJ
      exact sv_nil ⟨o12, o10, o11, (some v7), rfl, rfl, rfl⟩ lnil
  · intro s2 _ _ _ hJ
    obtain ⟨o3, o4, o5, o6, rfl, rfl, rfl⟩ := hJ
    exact sv_ret sub0 ev_non
set_option maxHeartbeats 0 in
theorem ok_law_of (T : Txt K mg) (hm : ∀ ns : List Int, ns.length ≤ 63 → (∀ z ∈ ns, Builtin.Int.intBits z ≤ 1048576) → ∃ m', m_law (scrD (ns.map .int)) .none = .ok (.bool true) m') : FnOk P w K mg base CX0 7 T.a_law T.fd_law ["script"] (sp_law K) := by
  refine T.F_law.ok sc_law (fun vs H Q E h => by obtain ⟨a, ns, rfl, _⟩ := h; rfl) (fun cdv A outer s H vs Q E hr h => ?_)
  refine ⟨_, (pss_cons (ps_set (i := 1) sc_law.nd rfl (Or.inl rfl) (pe_call (ok__law_deck T) (hr.mono (by decide)) rfl T.m__law_deck T.F__law_deck.kp T.b__law_deck .nil pass0 (pa_cons (pe_ix ix_seq (pe_op op_addU (pv 0) (pe_lst (pa_cons pe_int pa_nil))) pe_int (fun _ _ => rfl)) (pa_cons pe_int pa_nil))))
      (pss_cons (ps_asg (pe_call (ok__law_root_set T) (hr.mono (by decide)) rfl T.m__law_root_set T.F__law_root_set.kp T.b__law_root_set .nil pass0 (pa_cons (pv 1) pa_nil)) (pg_tup rfl (pgs_cons (pg_name (i := 2) sc_law.nd rfl (Or.inl rfl)) (pgs_cons (pg_name (i := 3) sc_law.nd rfl (Or.inl rfl)) (pgs_cons (pg_name (i := 4) sc_law.nd rfl (Or.inl rfl)) pgs_nil)))))
      (pss_cons (ps_asg (pe_call (ok__law_root_table T) (hr.mono (by decide)) rfl T.m__law_root_table T.F__law_root_table.kp T.b__law_root_table .nil pass0 (pa_cons (pv 1) (pa_cons (pv 2) (pa_cons (pv 3) (pa_cons (pv 4) (pa_cons pe_int pa_nil)))))) (pg_tup rfl (pgs_cons (pg_name (i := 5) sc_law.nd rfl (Or.inl rfl)) (pgs_cons (pg_name (i := 6) sc_law.nd rfl (Or.inl rfl)) pgs_nil))))
      (pss_cons (ps_asg (pe_call (ok__law_told T) (hr.mono (by decide)) rfl T.m__law_told T.F__law_told.kp T.b__law_told .nil pass0 (pa_cons (pv 2) (pa_cons (pv 3) (pa_cons (pv 4) pa_nil)))) (pg_tup rfl (pgs_cons (pg_name (i := 7) sc_law.nd rfl (Or.inl rfl)) (pgs_cons (pg_name (i := 8) sc_law.nd rfl (Or.inl rfl)) pgs_nil))))
      (pss_cons (ps_if (pt_cmpR op_isntU (pv 6) pe_non (nomark _)) (pss_cons (ps_if (PW.pt (pw_or (pt_cmpR op_isntU (pv 7) pe_non (nomark _)) (pw_or1 (pt_cmpR (op_neD hr.units) (pv 8) (pe_tup (pa_cons pe_str (pa_cons (pe_lst (pa_cons (pv 6) pa_nil)) pa_nil))) (nomark _))))) (pss_cons (ps_ret pe_bl)
      pss_nil) pss_nil)
      pss_nil) (pss_cons (ps_if (PW.pt (pw_or (pt_cmpR op_isntU (pv 8) pe_non (nomark _)) (pw_or (pt_not (pt_truth (pe_callB call_isi (by rfl) T.z_isinstance (by decide +kernel) (pa_cons (pv 7) (pa_cons (pe_bltn (v := .ty "list") (u := .type "list") (by rfl) T.z_list (by decide +kernel) rfl) pa_nil))) (by intro _; rfl))) (pw_or1 (pt_cmpR (op_neD hr.units) (pv 7) (pv 5) (nomark _)))))) (pss_cons (ps_ret pe_bl)
      pss_nil) pss_nil)
      pss_nil))
      (pss_cons (ps_asg (pe_call (ok__law_root_table T) (hr.mono (by decide)) rfl T.m__law_root_table T.F__law_root_table.kp T.b__law_root_table .nil pass0 (pa_cons (pv 1) (pa_cons (pv 2) (pa_cons (pv 3) (pa_cons (pv 4) (pa_cons (pe_call (ok__law_pick T) (hr.mono (by decide)) rfl T.m__law_pick T.F__law_pick.kp T.b__law_pick .nil pass0 (pa_cons (pv 1) (pa_cons pe_int pa_nil))) pa_nil)))))) (pg_tup rfl (pgs_cons (pg_name (i := 9) sc_law.nd rfl (Or.inl rfl)) (pgs_cons (pg_name (i := 6) sc_law.nd rfl (Or.inl rfl)) pgs_nil))))
      (pss_cons (ps_for PassesOwn.never rfl (pi_seq (pe_op op_addU (pe_slice sl_u (pv 0) (po_some pe_int) (po_some pe_int)) (pe_lst (pa_cons pe_int pa_nil)))) (pg_name (i := 10) sc_law.nd rfl (Or.inl rfl)) (pss_cons (ps_set (i := 11) sc_law.nd rfl (Or.inl rfl) (pe_call (ok__law_spoilt T) (hr.mono (by decide)) rfl T.m__law_spoilt T.F__law_spoilt.kp T.b__law_spoilt .nil pass0 (pa_cons (pe_call (ok__law_deck T) (hr.mono (by decide)) rfl T.m__law_deck T.F__law_deck.kp T.b__law_deck .nil pass0 (pa_cons (pv 10) (pa_cons pe_int pa_nil))) (pa_cons (pv 2) (pa_cons (pv 3) (pa_cons (pv 9) pa_nil))))))
      (pss_cons (ps_setLc (i := 12) (own := [("row", 14)]) (g := (gName 14)) (tt := tYes) rfl sc_law.nd rfl rfl (sw_true rfl rfl rfl (by decide +kernel)) (pi_seq (pv 11)) (blkOk_by (own := [("row", 14)]) (N := ["script", "deck", "kind", "looks", "fresh", "due", "lacks", "told", "fault", "table", "cell", "some", "handed", "first", "row"]) (sc := defScope s_law) (by decide +kernel)) (fun _ _ _ _ _ => (pg_name (i := 14) sc_law.nd rfl (Or.inl rfl))) (fun _ _ _ _ _ => pts_nil) (fun _ _ _ _ _ => (pe_callTy (show CallR _ (.type "list") (fun xs H Q => ∃ p ys, xs = [.ref p] ∧ (SqL K H p ys ∨ SqT K H p ys) ∧ ∀ l, H l = none → Q (.ref l) (upd H l (.lst ys))) from call_list_of) (by rfl) T.z_list (by decide +kernel) (pa_cons (pv 14) pa_nil))))
      (pss_cons (ps_set (i := 13) sc_law.nd rfl (Or.inl rfl) (pe_call (ok__law_first T) (hr.mono (by decide)) rfl T.m__law_first T.F__law_first.kp T.b__law_first .nil pass0 (pa_cons (pv 2) (pa_cons (pv 3) (pa_cons (pv 4) (pa_cons (pv 11) pa_nil))))))
      (pss_cons (ps_if (PW.pt (pw_or (pt_cmpR (op_neD hr.units) (pe_call (ok_first_root_fault T) (hr.mono (by decide)) rfl T.m_first_root_fault T.F_first_root_fault.kp T.b_first_root_fault .nil pass0 (pa_cons (pv 2) (pa_cons (pv 3) (pa_cons (pv 4) (pa_cons (pv 12) pa_nil))))) (pv 13) (nomark _)) (pw_or1 (pt_cmpR (op_neD hr.units) (pv 12) (pv 11) (nomark _))))) (pss_cons (ps_ret pe_bl)
      pss_nil) pss_nil)
      pss_nil)))))
      (pss_cons (ps_ret pe_bl)
      pss_nil)))))))), body_law m_law h hm fun v_0 x_0 O hv => ?_⟩
  subst hv
  refine ⟨_, rfl, ?_⟩
  refine sv_st (σ' := [some v_0, none, none, none, none, none, none, none, none, none, none, none, none, none, none]) rfl ?_
  refine sv_newD (Z := []) sub0 (fun _ => List.nil_sublist _) (fun _ => u2_len) (av_cons (ev_op os_idx (ev_op os_add (ev_var rfl (.head _)) (ev_lst (av_cons ev_int av_nil))) ev_int) (av_cons ev_int av_nil)) (σ' := fun v2 => [some v_0, some v2, none, none, none, none, none, none, none, none, none, none, none, none, none]) (fun _ => rfl) fun a1 ha1 => ?_
  refine sv_asgT sub0 (ev_cD rfl (fun _ _ => u0_len) av_nil) fun v3 x48 => tg_tup3 (.head _) fun v5 v6 v7 x8 x9 x10 => tgs_cons (tg_name (σ' := [some v_0, some (.ref a1), some v5, none, none, none, none, none, none, none, none, none, none, none, none]) rfl (tgs_cons (tg_name (σ' := [some v_0, some (.ref a1), some v5, some v6, none, none, none, none, none, none, none, none, none, none, none]) rfl (tgs_cons (tg_name (σ' := [some v_0, some (.ref a1), some v5, some v6, some v7, none, none, none, none, none, none, none, none, none, none]) rfl (tgs_nil (?_)))))))
  refine sv_asgT sub0 (ev_cD rfl (fun _ _ => u4_len) (av_cons (ev_var rfl (.head _)) (av_cons (ev_var rfl (.tail _ (.head _))) (av_cons (ev_var rfl (.tail _ (.tail _ (.head _)))) (av_cons ev_int av_nil))))) fun v11 x47 => tg_tup2 (.head _) fun v13 v14 x15 x16 => tgs_cons (tg_name (σ' := [some v_0, some (.ref a1), some v5, some v6, some v7, some v13, none, none, none, none, none, none, none, none, none]) rfl (tgs_cons (tg_name (σ' := [some v_0, some (.ref a1), some v5, some v6, some v7, some v13, some v14, none, none, none, none, none, none, none, none]) rfl (tgs_nil (?_)))))
  refine sv_asgT sub0 (ev_cP (fun _ => u3_len) (av_cons (ev_var rfl (.tail _ (.tail _ (.tail _ (.head _))))) (av_cons (ev_var rfl (.tail _ (.tail _ (.tail _ (.tail _ (.head _)))))) (av_cons (ev_var rfl (.tail _ (.tail _ (.tail _ (.tail _ (.tail _ (.head _))))))) av_nil)))) fun v17 x46 => tg_tup2 (.head _) fun v19 v20 x21 x22 => tgs_cons (tg_name (σ' := [some v_0, some (.ref a1), some v5, some v6, some v7, some v13, some v14, some v19, none, none, none, none, none, none, none]) rfl (tgs_cons (tg_name (σ' := [some v_0, some (.ref a1), some v5, some v6, some v7, some v13, some v14, some v19, some v20, none, none, none, none, none, none]) rfl (tgs_nil (?_)))))
  refine sv_seq (J1 := (fun (s23 : Unit) σ' L2 C2 => σ' = [some v_0, some (.ref a1), some v5, some v6, some v7, some v13, some v14, some v19, some v20, none, none, none, none, none, none] ∧ L2 = ([] : List (V × D)) ∧ C2 = (fun m => rootL K a1 m :: []))) (sv_if1 sub0 (tv_test (ev_op os_isnt (ev_var rfl (.tail _ (.tail _ (.tail _ (.tail _ (.head _)))))) ev_non)) ?_ ?_) ?_
  · refine sv_if sub0 (tv_or (tv_test (ev_op os_isnt (ev_var rfl (.head _)) ev_non)) (tv_test (ev_op os_ne (ev_var rfl (.tail _ (.head _))) (ev_tup (av_cons ev_str (av_cons (ev_lst (av_cons (ev_var rfl (.tail _ (.tail _ (.tail _ (.tail _ (.head _)))))) av_nil)) av_nil)))))) ?_ ?_
    · refine sv_assoc ?_
      exact sv_ret sub0 ev_bl
    · refine sv_skip ?_
      exact sv_nil ⟨rfl, rfl, rfl⟩ lnil
  · refine sv_if sub0 (tv_or (tv_test (ev_op os_isnt (ev_var rfl (.tail _ (.head _))) ev_non)) (tv_or (tv_not (tv_tr (ev_isi (ev_var rfl (.head _))))) (tv_test (ev_op os_ne (ev_var rfl (.head _)) (ev_var rfl (.tail _ (.tail _ (.tail _ (.head _))))))))) ?_ ?_
    · refine sv_assoc ?_
      exact sv_ret sub0 ev_bl
    · refine sv_skip ?_
      exact sv_nil ⟨rfl, rfl, rfl⟩ lnil
  · intro s23 _ _ _ hJ
    obtain ⟨rfl, rfl, rfl⟩ := hJ
    refine sv_asgT sub0 (ev_cD rfl (fun _ _ => u4_len) (av_cons (ev_var rfl (.tail _ (.tail _ (.tail _ (.tail _ (.tail _ (.tail _ (.head _)))))))) (av_cons (ev_var rfl (.tail _ (.tail _ (.tail _ (.tail _ (.tail _ (.tail _ (.tail _ (.head _))))))))) (av_cons (ev_var rfl (.tail _ (.tail _ (.tail _ (.tail _ (.tail _ (.tail _ (.tail _ (.tail _ (.head _)))))))))) (av_cons (ev_cD rfl (fun _ _ => u1_len) (av_cons ev_int av_nil)) av_nil))))) fun v24 x45 => tg_tup2 (.head _) fun v26 v27 x28 x29 => tgs_cons (tg_name (σ' := [some v_0, some (.ref a1), some v5, some v6, some v7, some v13, some v14, some v19, some v20, some v26, none, none, none, none, none]) rfl (tgs_cons (tg_name (σ' := [some v_0, some (.ref a1), some v5, some v6, some v7, some v13, some v27, some v19, some v20, some v26, none, none, none, none, none]) rfl (tgs_nil (?_)))))
    refine sv_seq (J1 := (fun (s30 : Unit) σ' L2 C2 => ∃ (o31 : Option V) (o32 : Option V) (o33 : Option V) (o34 : Option V), σ' = [some v_0, some (.ref a1), some v5, some v6, some v7, some v13, some v27, some v19, some v20, some v26, o34, o31, o32, o33, none] ∧ L2 = ([] : List (V × D)) ∧ C2 = (fun m => rootL K a1 m :: []))) (sv_for sub0 (iv_seq (ev_op os_add (ev_slice (ev_var rfl (.tail _ (.tail _ (.tail _ (.tail _ (.tail _ (.tail _ (.tail _ (.tail _ (.tail _ (.tail _ (.tail _ (.tail _ (.tail _ (.head _))))))))))))))) (pv_some ev_int) (pv_some ev_int)) (ev_lst (av_cons ev_int av_nil)))) ⟨none, none, none, none, rfl, rfl, rfl⟩ lnil (by intro s30 _ _ _ hJ; obtain ⟨o31, o32, o33, o34, rfl, rfl, rfl⟩ := hJ; exact sub0) ?_) ?_
    · intro s30 _ _ _ hJ v35 x36
      obtain ⟨o31, o32, o33, o34, rfl, rfl, rfl⟩ := hJ
      refine tg_name (σ' := [some v_0, some (.ref a1), some v5, some v6, some v7, some v13, some v27, some v19, some v20, some v26, some v35, o31, o32, o33, none]) rfl (?_)
      refine sv_asg sub0 (ev_cDN (fun _ => u2_len) (fun _ _ => u3_len) (av_cons (ev_var rfl (.head _)) (av_cons ev_int av_nil)) (av_cons (ev_var rfl (.tail _ (.tail _ (.tail _ (.tail _ (.tail _ (.tail _ (.tail _ (.tail _ (.tail _ (.tail _ (.head _)))))))))))) (av_cons (ev_var rfl (.tail _ (.tail _ (.tail _ (.tail _ (.tail _ (.tail _ (.tail _ (.tail _ (.tail _ (.tail _ (.tail _ (.head _))))))))))))) (av_cons (ev_var rfl (.tail _ (.head _))) av_nil)))) (σ' := (fun v37 => [some v_0, some (.ref a1), some v5, some v6, some v7, some v13, some v27, some v19, some v20, some v26, some v35, some v37, o32, o33, none])) (fun _ => rfl) fun v37 x44 => ?_
      refine sv_asg sub0 (ev_lc1 (σ2 := fun v38 => [some v_0, some (.ref a1), some v5, some v6, some v7, some v13, some v27, some v19, some v20, some v26, some v35, some v37, o32, o33, some v38]) (iv_seq (ev_var rfl (.head _))) (fun _ => rfl) (fun _ => rfl) (fun v38 x39 => tv_yes) (fun v38 x39 => (ev_cb cs_list (av_cons (ev_var rfl (.head _)) av_nil)))) (σ' := (fun v40 => [some v_0, some (.ref a1), some v5, some v6, some v7, some v13, some v27, some v19, some v20, some v26, some v35, some v37, some v40, o33, none])) (fun _ => rfl) fun v40 x43 => ?_
      refine sv_asg sub0 (ev_cP (fun _ => u4_len) (av_cons (ev_var rfl (.tail _ (.tail _ (.tail _ (.tail _ (.tail _ (.tail _ (.tail _ (.tail _ (.tail _ (.tail _ (.tail _ (.tail _ (.head _)))))))))))))) (av_cons (ev_var rfl (.tail _ (.tail _ (.tail _ (.tail _ (.tail _ (.tail _ (.tail _ (.tail _ (.tail _ (.tail _ (.tail _ (.tail _ (.tail _ (.head _))))))))))))))) (av_cons (ev_var rfl (.tail _ (.tail _ (.tail _ (.tail _ (.tail _ (.tail _ (.tail _ (.tail _ (.tail _ (.tail _ (.tail _ (.tail _ (.tail _ (.tail _ (.head _)))))))))))))))) (av_cons (ev_var rfl (.tail _ (.head _))) av_nil))))) (σ' := (fun v41 => [some v_0, some (.ref a1), some v5, some v6, some v7, some v13, some v27, some v19, some v20, some v26, some v35, some v37, some v40, some v41, none])) (fun _ => rfl) fun v41 x42 => ?_
      refine sv_if sub0 (tv_or (tv_test (ev_op os_ne (ev_cP (fun _ => u4_len) (av_cons (ev_var rfl (.tail _ (.tail _ (.tail _ (.tail _ (.tail _ (.tail _ (.tail _ (.tail _ (.tail _ (.tail _ (.tail _ (.tail _ (.tail _ (.head _))))))))))))))) (av_cons (ev_var rfl (.tail _ (.tail _ (.tail _ (.tail _ (.tail _ (.tail _ (.tail _ (.tail _ (.tail _ (.tail _ (.tail _ (.tail _ (.tail _ (.tail _ (.head _)))))))))))))))) (av_cons (ev_var rfl (.tail _ (.tail _ (.tail _ (.tail _ (.tail _ (.tail _ (.tail _ (.tail _ (.tail _ (.tail _ (.tail _ (.tail _ (.tail _ (.tail _ (.tail _ (.head _))))))))))))))))) (av_cons (ev_var rfl (.tail _ (.head _))) av_nil))))) (ev_var rfl (.head _)))) (tv_test (ev_op os_ne (ev_var rfl (.tail _ (.head _))) (ev_var rfl (.tail _ (.tail _ (.head _))))))) ?_ ?_
      · refine sv_assoc ?_
        exact sv_ret sub0 ev_bl
      · refine sv_skip ?_
        exact sv_nil ⟨(some v37), (some v40), (some v41), (some v35), rfl, rfl, rfl⟩ lnil
    · intro s30 _ _ _ hJ
      obtain ⟨o31, o32, o33, o34, rfl, rfl, rfl⟩ := hJ
      exact sv_ret sub0 ev_bl
end
/-- a proof that simp does not take for rfl -/
theorem nr {α : Type} {a b : α} (h : a = b) : a = b := h
theorem r_bd {μ α β : Type} (a : α) (f : α → SM μ β) : bd (pu a) f = f a := nr rfl
theorem r_as {μ α β γ : Type} (x : SM μ α) (f : α → SM μ β) (g : β → SM μ γ) : bd (bd x f) g = bd x fun a => bd (f a) g := bd_assoc x f g
theorem r_op2 {μ : Type} {f : D → D → Option D} (a b : D) : (op2 f (pu a) (pu b) : SM μ D) = of (f a b) := nr rfl
theorem r_op1 {μ : Type} {f : D → Option D} (a : D) : (op1 f (pu a) : SM μ D) = of (f a) := nr rfl
theorem r_opL {μ : Type} {f : List D → Option D} (l : List D) : (opL f (pu l) : SM μ D) = of (f l) := nr rfl
theorem r_ac {μ : Type} (a : D) (l : List D) : (ac (pu a) (pu l) : SM μ (List D)) = pu (a :: l) := nr rfl
theorem r_a0 {μ : Type} : (a0 : SM μ (List D)) = pu [] := nr rfl
theorem r_of {μ α : Type} (a : α) : (of (some a) : SM μ α) = pu a := nr rfl
theorem r_cP {μ : Type} {mf : List D → SM Unit D} (l : List D) : (cP mf (pu l) : SM μ D) = px (mf l) := nr rfl
theorem r_cPX {μ : Type} {mf : List D → SM Unit D} (l : List D) : (cPX mf (pu l) : SM μ D) = p0 (mf l) := nr rfl
theorem r_p0 {μ α : Type} (a : α) : (p0 (pu a) : SM μ α) = pu a := nr rfl
theorem r_p0r {μ α : Type} (e : D) : (p0 (raise e) : SM μ α) = raise e := nr rfl
theorem r_rbd {μ α β : Type} (e : D) (f : α → SM μ β) : bd (raise e : SM μ α) f = raise e := nr rfl
theorem r_cD {μ : Type} {mf : List D → SM μ D} (l : List D) : cD mf (pu l) = qx (mf l) := nr rfl
theorem r_px {μ α : Type} (a : α) : (px (pu a) : SM μ α) = pu a := nr rfl
theorem r_qx {μ α : Type} (a : α) : (qx (pu a) : SM μ α) = pu a := nr rfl
theorem r_tb {μ : Type} (b : Bool) : (SM.tb (pu (.bool b)) : SM μ Bool) = pu b := nr rfl
theorem r_tr {μ : Type} (a : D) : (SM.tr (pu a) : SM μ Bool) = of (truD a) := nr rfl
theorem r_tand {μ : Type} (b : Bool) (x : SM μ Bool) : tand (pu b) x = if b then x else pu false := nr rfl
theorem r_tor {μ : Type} (b : Bool) (x : SM μ Bool) : tor (pu b) x = if b then pu true else x := nr rfl
theorem r_tnot {μ : Type} (b : Bool) : (tnot (pu b) : SM μ Bool) = pu (!b) := nr rfl
theorem r_eand {μ : Type} (b : Bool) (x : SM μ D) : eand (pu (.bool b)) x = if b then x else pu (.bool false) := nr rfl
theorem r_eor {μ : Type} (b : Bool) (x : SM μ D) : eor (pu (.bool b)) x = if b then pu (.bool true) else x := nr rfl
theorem r_enot {μ : Type} (b : Bool) : (enot (pu (.bool b)) : SM μ D) = pu (.bool (!b)) := nr rfl
theorem r_eif {μ : Type} (b : Bool) (x y : SM μ D) : eif (pu b) x y = if b then x else y := nr rfl
theorem r_chain {μ : Type} {f g : D → D → Option D} (a b : D) (z : SM μ D) : SM.chain f g (pu a) (pu b) z = bd (SM.tb (of (f a b))) fun c => if c then bd z fun z => of (g b z) else pu (.bool false) := nr rfl
theorem r_fin {μ α ρ : Type} (x : SM μ α) (k : α → SM μ (Fl Unit ρ)) : fin (bd x k) = bd x fun a => fin (k a) := bd_assoc _ _ _
theorem r_rt {μ ρ : Type} (d : D) : fin (pu (.rt d) : SM μ (Fl Unit ρ)) = pu d := nr rfl
theorem r_nx {μ ρ : Type} : fin (pu (.nx ()) : SM μ (Fl Unit ρ)) = pu .none := nr rfl
theorem r_sq {μ τ ρ ρ' : Type} (s : τ) (k : τ → SM μ (Fl ρ' ρ)) : sq (pu (.nx s)) k = k s := nr rfl
theorem r_sqr {μ τ ρ ρ' : Type} (d : D) (k : τ → SM μ (Fl ρ' ρ)) : sq (pu (.rt d)) k = pu (.rt d) := nr rfl
theorem r_sqb {μ τ ρ ρ' α : Type} (x : SM μ α) (f : α → SM μ (Fl τ ρ)) (k : τ → SM μ (Fl ρ' ρ)) : sq (bd x f) k = bd x fun a => sq (f a) k := bd_assoc _ _ _
theorem r_unp2 {μ β : Type} (a b : D) (k : D → D → SM μ β) : unp2 (.tuple [a, b]) k = k a b := nr rfl
theorem r_unp3 {μ β : Type} (a b c : D) (k : D → D → D → SM μ β) : unp3 (.tuple [a, b, c]) k = k a b c := nr rfl
theorem r_unp4 {μ β : Type} (a b c d : D) (k : D → D → D → D → SM μ β) : unp4 (.tuple [a, b, c, d]) k = k a b c d := nr rfl
theorem r_par2 {μ β : Type} (a b : D) (k : D → D → SM μ β) : par2 [a, b] k = k a b := nr rfl
theorem r_part0 {μ : Type} : (part0 : SM μ (Option Int)) = pu none := nr rfl
theorem r_part {μ : Type} (i : Int) : (SM.part (pu (.int i)) : SM μ (Option Int)) = pu (some i) := nr rfl
theorem r_slice {μ : Type} (a : D) (l h : Option Int) : (SM.slice (pu a) (pu l) (pu h) : SM μ D) = of (sliD a l h) := nr rfl
theorem r_itS {μ : Type} (a : D) : (itS (pu a) : SM μ (List D)) = of (seqD a) := nr rfl
theorem r_itR {μ : Type} (l : List D) : (itR (pu l) : SM μ (List D)) = of (rngD l) := nr rfl
theorem r_u0 {μ : Type} {f : SM μ D} : u0 f [] = f := nr rfl
theorem r_u1 {μ : Type} {f : D → SM μ D} {a : D} : u1 f [a] = f a := nr rfl
theorem r_u2 {μ : Type} {f : D → D → SM μ D} {a b : D} : u2 f [a, b] = f a b := nr rfl
theorem r_u3 {μ : Type} {f : D → D → D → SM μ D} {a b c : D} : u3 f [a, b, c] = f a b c := nr rfl
theorem r_u4 {μ : Type} {f : D → D → D → D → SM μ D} {a b c d : D} : u4 f [a, b, c, d] = f a b c d := nr rfl
theorem r_u5 {μ : Type} {f : D → D → D → D → D → SM μ D} {a b c d e : D} : u5 f [a, b, c, d, e] = f a b c d e := nr rfl
theorem r_u6 {μ : Type} {f : D → D → D → D → D → D → SM μ D} {a b c d e g : D} : u6 f [a, b, c, d, e, g] = f a b c d e g := nr rfl
theorem r_u7 {μ : Type} {f : D → D → D → D → D → D → D → SM μ D} {a b c d e g h : D} : u7 f [a, b, c, d, e, g, h] = f a b c d e g h := nr rfl
theorem r_ift {α : Type} (x y : α) : (if true = true then x else y) = x := nr rfl
theorem r_iff {α : Type} (x y : α) : (if false = true then x else y) = y := nr rfl
theorem d_add (a b : Int) : addD (.int a) (.int b) = some (.int (a + b)) := rfl
theorem d_addI (a b : Int) : addI (.int a) (.int b) = some (.int (a + b)) := rfl
theorem d_subI (a b : Int) : subI (.int a) (.int b) = some (.int (a - b)) := rfl
theorem d_sub (a b : Int) : subD (.int a) (.int b) = some (.int (a - b)) := rfl
theorem d_neg (a : Int) : negD (.int a) = some (.int (-a)) := rfl
theorem d_lt (a b : Int) : ltD (.int a) (.int b) = some (.bool (decide (a < b))) := rfl
theorem d_le (a b : Int) : leD (.int a) (.int b) = some (.bool (decide (a ≤ b))) := rfl
theorem d_gt (a b : Int) : gtD (.int a) (.int b) = some (.bool (decide (b < a))) := rfl
theorem d_ge (a b : Int) : geD (.int a) (.int b) = some (.bool (decide (b ≤ a))) := rfl
theorem d_isN (d : D) : isD d .none = some (.bool (isNone d)) := by cases d <;> rfl
theorem d_isntN (d : D) : isntD d .none = some (.bool (!isNone d)) := by cases d <;> rfl
theorem d_isB (a b : Bool) : isD (.bool a) (.bool b) = some (.bool (decide (a = b))) := rfl
theorem d_isntB (a b : Bool) : isntD (.bool a) (.bool b) = some (.bool (!decide (a = b))) := rfl
theorem d_nn : isNone .none = true := rfl
theorem d_ni (i : Int) : isNone (.int i) = false := rfl
theorem d_nt (l : List D) : isNone (.tuple l) = false := rfl
theorem d_nl (l : List D) : isNone (.list l) = false := rfl
theorem d_nb (b : Bool) : isNone (.bool b) = false := rfl
theorem d_abs (a : Int) : absD [.int a] = some (.int (if a < 0 then -a else a)) := rfl
theorem d_max (a b : Int) : maxD [.int a, .int b] = some (.int (if b > a then b else a)) := rfl
theorem d_maxT (a b : Int) : maxD [.tuple [.int a, .int b]] = some (.int (if b > a then b else a)) := rfl
theorem d_min (a b : Int) : minD [.int a, .int b] = some (.int (if b < a then b else a)) := rfl
theorem d_int (a : Int) : intD [.int a] = some (.int a) := rfl
theorem d_intB (b : Bool) : intD [.bool b] = some (.int (if b then 1 else 0)) := rfl
theorem d_len (l : List D) : lenD [.list l] = some (.int l.length) := rfl
theorem d_lenT (l : List D) : lenD [.tuple l] = some (.int l.length) := rfl
theorem d_list (l : List D) : listD [.list l] = some (.list l) := rfl
theorem d_listT (l : List D) : listD [.tuple l] = some (.list l) := rfl
theorem d_tuple (l : List D) : tupleD [.list l] = some (.tuple l) := rfl
theorem d_tupleT (l : List D) : tupleD [.tuple l] = some (.tuple l) := rfl
theorem d_seq (l : List D) : seqD (.list l) = some l := rfl
theorem d_seqT (l : List D) : seqD (.tuple l) = some l := rfl
theorem d_bits (a : Int) : bitsD (.int a) = some (.int (Builtin.Int.intBits a)) := rfl
theorem d_and (a b : Int) : andD (.int a) (.int b) = some (.int (Builtin.bitAnd a b)) := rfl
theorem d_or (a b : Int) : orD (.int a) (.int b) = some (.int (Builtin.bitOr a b)) := rfl
theorem d_xor (a b : Int) : xorD (.int a) (.int b) = some (.int (Builtin.bitXor a b)) := rfl
theorem d_truB (b : Bool) : truD (.bool b) = some b := rfl
theorem d_truL (l : List D) : truD (.list l) = some (!l.isEmpty) := rfl
theorem d_isi (n : String) (d : D) : isiD n d = (kitB (tyN d) n).map .bool := rfl
theorem d_cat {a b : List D} (h : a.length + b.length ≤ sizeLine) : addD (.list a) (.list b) = some (.list (a ++ b)) := if_pos h
theorem d_catS {a b : List D} (h : a.length + b.length ≤ sizeLine) : addD (scrD a) (.list b) = some (.list (a ++ b)) := if_pos h
theorem d_lst {l : List D} (h : l.length ≤ sizeLine) : lstD l = some (.list l) := if_pos h
theorem d_tup {l : List D} (h : l.length ≤ sizeLine) : tupD l = some (.tuple l) := if_pos h
theorem line_le {n : Nat} (h : n ≤ 1000000) : n ≤ sizeLine := Nat.le_trans h (by decide)
theorem d_lst0 : lstD [] = some (.list []) := rfl
theorem d_lst1 (a : D) : lstD [a] = some (.list [a]) := d_lst (by show 1 ≤ sizeLine; decide)
theorem d_lst2 (a b : D) : lstD [a, b] = some (.list [a, b]) := d_lst (by show 2 ≤ sizeLine; decide)
theorem d_lst3 (a b c : D) : lstD [a, b, c] = some (.list [a, b, c]) := d_lst (by show 3 ≤ sizeLine; decide)
theorem d_lst4 (a b c d : D) : lstD [a, b, c, d] = some (.list [a, b, c, d]) := d_lst (by show 4 ≤ sizeLine; decide)
theorem d_lst5 (a b c d e : D) : lstD [a, b, c, d, e] = some (.list [a, b, c, d, e]) := d_lst (by show 5 ≤ sizeLine; decide)
theorem d_lst6 (a b c d e f : D) : lstD [a, b, c, d, e, f] = some (.list [a, b, c, d, e, f]) := d_lst (by show 6 ≤ sizeLine; decide)
theorem d_tup1 (a : D) : tupD [a] = some (.tuple [a]) := d_tup (by show 1 ≤ sizeLine; decide)
theorem d_tup2 (a b : D) : tupD [a, b] = some (.tuple [a, b]) := d_tup (by show 2 ≤ sizeLine; decide)
theorem d_tup3 (a b c : D) : tupD [a, b, c] = some (.tuple [a, b, c]) := d_tup (by show 3 ≤ sizeLine; decide)
theorem d_tup4 (a b c d : D) : tupD [a, b, c, d] = some (.tuple [a, b, c, d]) := d_tup (by show 4 ≤ sizeLine; decide)
theorem d_ix0 (a : D) (l : List D) : idxD (.tuple (a :: l)) (.int 0) = some a := by
  show atI (a :: l) 0 = some a
  exact atI_nat (j := 0) rfl
theorem d_ix1 (a b : D) (l : List D) : idxD (.tuple (a :: b :: l)) (.int 1) = some b := by
  show atI (a :: b :: l) 1 = some b
  exact atI_nat (j := 1) rfl
theorem d_ix2 (a b c : D) (l : List D) : idxD (.tuple (a :: b :: c :: l)) (.int 2) = some c := by
  show atI (a :: b :: c :: l) 2 = some c
  exact atI_nat (j := 2) rfl
theorem d_ixl0 (a : D) (l : List D) : idxD (.list (a :: l)) (.int 0) = some a := by
  show atI (a :: l) 0 = some a
  exact atI_nat (j := 0) rfl
theorem d_ixl1 (a b : D) (l : List D) : idxD (.list (a :: b :: l)) (.int 1) = some b := by
  show atI (a :: b :: l) 1 = some b
  exact atI_nat (j := 1) rfl
theorem d_ixl2 (a b c : D) (l : List D) : idxD (.list (a :: b :: c :: l)) (.int 2) = some c := by
  show atI (a :: b :: c :: l) 2 = some c
  exact atI_nat (j := 2) rfl
theorem sh_int (a : Int) : SeqAt.shaped (.int a) = true := by
  unfold SeqAt.shaped
  simp [PyData.canLay0, PyData.depth]
theorem sh_bool (a : Bool) : SeqAt.shaped (.bool a) = true := by
  unfold SeqAt.shaped
  simp [PyData.canLay0, PyData.depth]
theorem d_eqI (a b : Int) : eqD (.int a) (.int b) = some (.bool (decide (a = b))) := by
  unfold eqD
  rw [sh_int, sh_int]
  simp [PyData.eqv, Bool.beq_eq_decide_eq]
theorem d_neI (a b : Int) : neD (.int a) (.int b) = some (.bool (!decide (a = b))) := by
  unfold neD
  rw [sh_int, sh_int]
  simp [PyData.eqv, Bool.beq_eq_decide_eq]
theorem d_eqB (a b : Bool) : eqD (.bool a) (.bool b) = some (.bool (decide (a = b))) := by
  unfold eqD
  rw [sh_bool, sh_bool]
  simp [PyData.eqv, Bool.beq_eq_decide_eq]
theorem d_neB (a b : Bool) : neD (.bool a) (.bool b) = some (.bool (!decide (a = b))) := by
  unfold neD
  rw [sh_bool, sh_bool]
  simp [PyData.eqv, Bool.beq_eq_decide_eq]
theorem d_neS {d : D} (h : SeqAt.shaped d = true) : neD d d = some (.bool false) := by
  unfold neD
  rw [h, SeqAt.eqv_refl d (SeqAt.canLay_of_shaped h)]; rfl
class Sz (a : Int) (n : outParam Nat) : Prop where
  lt : a.natAbs < 2 ^ n
theorem sz_mul {a b : Int} {n k : Nat} (ha : a.natAbs < 2 ^ n) (hb : b.natAbs < 2 ^ k) : (a * b).natAbs < 2 ^ (n + k) := wide_lt ha hb
theorem sz_add {a b : Int} {n k : Nat} (ha : a.natAbs < 2 ^ n) (hb : b.natAbs < 2 ^ k) : (a + b).natAbs < 2 ^ (n + k + 1) := by
  have h1 : 2 ^ n ≤ 2 ^ (n + k) := Nat.pow_le_pow_right (by decide) (by omega)
  have h2 : 2 ^ k ≤ 2 ^ (n + k) := Nat.pow_le_pow_right (by decide) (by omega)
  rw [Nat.pow_succ]
  omega
theorem sz_sub {a b : Int} {n k : Nat} (ha : a.natAbs < 2 ^ n) (hb : b.natAbs < 2 ^ k) : (a - b).natAbs < 2 ^ (n + k + 1) := by
  have := sz_add ha (b := -b) (k := k) (by omega)
  omega
theorem sz_neg {a : Int} {n : Nat} (ha : a.natAbs < 2 ^ n) : (-a).natAbs < 2 ^ n := by omega
theorem sz_div {a b : Int} {n : Nat} (ha : a.natAbs < 2 ^ n) : (a / b).natAbs < 2 ^ n := by
  by_cases hb : b = 0
  · subst hb; rw [Int.ediv_zero]; exact Nat.lt_of_le_of_lt (Nat.zero_le _) ha
  · have := Int.natAbs_ediv_le_natAbs a b
    omega
theorem sz_two {k : Nat} : ((2 : Int) ^ k).natAbs < 2 ^ (k + 1) := by
  rw [Int.natAbs_pow]
  exact Nat.pow_lt_pow_right (by decide) (by omega)
theorem sz_le {a : Int} {n k : Nat} (ha : a.natAbs < 2 ^ n) (h : n ≤ k) : a.natAbs < 2 ^ k := Nat.lt_of_lt_of_le ha (Nat.pow_le_pow_right (by decide) h)
section
variable {a b : Int} {n k : Nat}
instance [x : Sz a n] [y : Sz b k] : Sz (a * b) (n + k) := ⟨sz_mul x.lt y.lt⟩
instance [x : Sz a n] [y : Sz b k] : Sz (a + b) (n + k + 1) := ⟨sz_add x.lt y.lt⟩
instance [x : Sz a n] [y : Sz b k] : Sz (a - b) (n + k + 1) := ⟨sz_sub x.lt y.lt⟩
instance [x : Sz a n] : Sz (-a) n := ⟨sz_neg x.lt⟩
instance [x : Sz a n] : Sz (a / b) n := ⟨sz_div x.lt⟩
instance : Sz ((2 : Int) ^ k) (k + 1) := ⟨sz_two⟩
instance : Sz (0 : Int) 1 := ⟨by decide⟩
instance : Sz (1 : Int) 1 := ⟨by decide⟩
instance : Sz (2 : Int) 2 := ⟨by decide⟩
instance : Sz (3 : Int) 2 := ⟨by decide⟩
instance : Sz (4 : Int) 3 := ⟨by decide⟩
instance : Sz (5 : Int) 3 := ⟨by decide⟩
instance : Sz (6 : Int) 3 := ⟨by decide⟩
instance : Sz (7 : Int) 3 := ⟨by decide⟩
instance : Sz (8 : Int) 4 := ⟨by decide⟩
instance : Sz (9 : Int) 4 := ⟨by decide⟩
instance : Sz (10 : Int) 4 := ⟨by decide⟩
instance : Sz (11 : Int) 4 := ⟨by decide⟩
instance : Sz (12 : Int) 4 := ⟨by decide⟩
instance : Sz (13 : Int) 4 := ⟨by decide⟩
instance : Sz (14 : Int) 4 := ⟨by decide⟩
instance : Sz (15 : Int) 4 := ⟨by decide⟩
instance : Sz (16 : Int) 5 := ⟨by decide⟩
instance : Sz (20 : Int) 5 := ⟨by decide⟩
instance : Sz (32 : Int) 6 := ⟨by decide⟩
instance : Sz (60 : Int) 6 := ⟨by decide⟩
instance : Sz (64 : Int) 7 := ⟨by decide⟩
instance : Sz (100 : Int) 7 := ⟨by decide⟩
instance : Sz (128 : Int) 8 := ⟨by decide⟩
instance : Sz (250 : Int) 8 := ⟨by decide⟩
instance : Sz (256 : Int) 9 := ⟨by decide⟩
instance : Sz (512 : Int) 10 := ⟨by decide⟩
instance : Sz (1000 : Int) 10 := ⟨by decide⟩
instance : Sz (1024 : Int) 11 := ⟨by decide⟩
instance : Sz (20000 : Int) 15 := ⟨by decide⟩
instance : Sz (1000000 : Int) 20 := ⟨by decide⟩
instance : Sz (2147483579 : Int) 31 := ⟨by decide⟩
instance : Sz (2147483563 : Int) 31 := ⟨by decide⟩
instance : Sz (2147483629 : Int) 31 := ⟨by decide⟩
instance : Sz (2147483647 : Int) 31 := ⟨by decide⟩
instance : Sz (15485867 : Int) 24 := ⟨by decide⟩
instance : Sz (7919 : Int) 13 := ⟨by decide⟩
instance {c : Prop} [Decidable c] [x : Sz a n] [y : Sz b k] : Sz (if c then a else b) (n + k) := ⟨by
  split
  · exact sz_le x.lt (by omega)
  · exact sz_le y.lt (by omega)⟩
theorem Sz.le {a : Int} {n k : Nat} (h : Sz a n) (e : n ≤ k) : Sz a k := ⟨sz_le h.lt e⟩
theorem fit_sz [x : Sz a n] (h : n ≤ 50000000) : fit a = true := fit_of x.lt h
end
theorem d_mul {a b : Int} (ha : fit a = true) (hb : fit b = true) : mulD (.int a) (.int b) = some (.int (a * b)) := by
  show (if fit a && fit b then _ else _) = _
  rw [ha, hb]; rfl
theorem d_shl {a : Int} {k : Nat} (ha : fit a = true) (hk : k ≤ 50000000) : shlD (.int a) (.int (k : Int)) = some (.int (a * 2 ^ k)) := by
  show (if _ then some (PyData.int (a * 2 ^ (k : Int).toNat)) else none) = _
  rw [if_pos ⟨by omega, by omega, ha⟩, Int.toNat_natCast]
theorem d_shr {a : Int} {k : Nat} : shrD (.int a) (.int (k : Int)) = some (.int (a / 2 ^ k)) := by
  show (if 0 ≤ (k : Int) then some (PyData.int (a / 2 ^ (k : Int).toNat)) else none) = _
  rw [if_pos (by omega), Int.toNat_natCast]
theorem d_fdiv {a b : Int} (h : 0 < b) (hb : b.natAbs.log2 < 9000) : fdivD (.int a) (.int b) = some (.int (a / b)) := if_pos ⟨h, hb⟩
theorem log_of {b : Int} {k : Nat} (hb : b.natAbs < 2 ^ k) (h : 0 < b) (hk : k ≤ 9000) : b.natAbs.log2 < 9000 := by
  have := (Nat.log2_lt (by omega)).mpr hb
  omega
theorem log_sz {b : Int} {k : Nat} [x : Sz b k] (h : 0 < b) (hk : k ≤ 9000) : b.natAbs.log2 < 9000 := log_of x.lt h hk
theorem d_mod {a b : Int} (h : 0 < b) : modD (.int a) (.int b) = some (.int (a % b)) := if_pos h
theorem d_pow {a : Int} {k : Nat} (h : a.natAbs < 2 ^ 64) (hk : k ≤ 1000000) : powD (.int a) (.int (k : Int)) = some (.int (a ^ k)) := by
  show (if _ then some (PyData.int (a ^ (k : Int).toNat)) else none) = _
  rw [if_pos ⟨by omega, by omega, h⟩, Int.toNat_natCast]
theorem d_rng1 {b : Int} (h1 : -(2 ^ 62) ≤ b) (h2 : b < 2 ^ 62) : rngD [.int b] = some (rgL 0 b) := by
  simp only [rngD]
  rw [if_pos ⟨h1, h2⟩]
theorem d_rng2 {a b : Int} (h1 : -(2 ^ 62) ≤ a) (h2 : a < 2 ^ 62) (h3 : -(2 ^ 62) ≤ b) (h4 : b < 2 ^ 62) : rngD [.int a, .int b] = some (rgL a b) := by
  simp only [rngD]
  rw [if_pos ⟨h1, h2, h3, h4⟩]
theorem rgL_len (a b : Int) : (rgL a b).length = (b - a).toNat := by
  unfold rgL
  rw [List.length_map, List.length_range]
def Ok {μ α : Type} (x : SM μ α) (m : μ) (P : α → μ → Prop) : Prop := ∃ a m', x m = .ok a m' ∧ P a m'
section
variable {μ α β τ ρ : Type} {x : SM μ α} {m : μ} {P Q : α → μ → Prop}
theorem Ok.mono (h : Ok x m P) (i : ∀ a m', P a m' → Q a m') : Ok x m Q := by
  obtain ⟨a, m', e, p⟩ := h
  exact ⟨a, m', e, i a m' p⟩
theorem ok_pu {a : α} (h : P a m) : Ok (pu a) m P := ⟨a, m, rfl, h⟩
theorem ok_bd {f : α → SM μ β} {P : β → μ → Prop} (h : Ok x m fun a m' => Ok (f a) m' P) : Ok (bd x f) m P := by
  obtain ⟨a, m', e, b, m2, e2, p⟩ := h
  exact ⟨b, m2, (bd_ok e).trans e2, p⟩
theorem ok_qx (h : Ok x m P) : Ok (qx x) m P := by
  obtain ⟨a, m', e, p⟩ := h
  exact ⟨a, m', qx_ok e, p⟩
theorem ok_fin {R : SM μ (Fl Unit ρ)} {P : D → μ → Prop} (h : Ok R m fun o m' => ∃ d, (o = .rt d ∨ (o = .nx () ∧ d = .none)) ∧ P d m') : Ok (fin R) m P := by
  obtain ⟨o, m', e, d, c, p⟩ := h
  rcases c with rfl | ⟨rfl, rfl⟩
  · exact ⟨d, m', bd_ok e, p⟩
  · exact ⟨.none, m', bd_ok e, p⟩
theorem ok_sq {ρ' : Type} {R : SM μ (Fl τ ρ)} {k : τ → SM μ (Fl ρ' ρ)} {P : Fl ρ' ρ → μ → Prop} (h : Ok R m fun o m' => ∃ s, o = .nx s ∧ Ok (k s) m' P) : Ok (sq R k) m P := by
  obtain ⟨o, m', e, s, rfl, b, m2, e2, p⟩ := h
  exact ⟨b, m2, (bd_ok e).trans e2, p⟩
/-- a loop that goes through -/
theorem ok_for {xs : List D} {b : D → τ → SM μ (Fl τ τ)} {s0 : τ} (I : Nat → τ → μ → Prop) (h0 : I 0 s0 m)
    (hs : ∀ i x s m, xs[i]? = some x → I i s m → Ok (b x s) m fun o m' => ∃ s', (o = .nx s' ∨ o = .ct s') ∧ I (i + 1) s' m') : Ok (forS xs s0 b : SM μ (Fl τ ρ)) m fun o m' => ∃ s, o = .nx s ∧ I xs.length s m' := by
  induction xs generalizing m s0 I with
  | nil => exact ⟨_, _, rfl, s0, rfl, h0⟩
  | cons x xs ih =>
    obtain ⟨o, m1, e1, s1, c, h1⟩ := hs 0 x s0 m rfl h0
    have h2 := ih (m := m1) (s0 := s1) (fun i => I (i + 1)) h1 fun i y s m hy h => hs (i + 1) y s m hy h
    obtain ⟨o2, m2, e2, s2, rfl, h3⟩ := h2
    refine ⟨_, m2, ?_, s2, rfl, h3⟩
    show bd (b x s0) _ m = _
    rw [bd_ok e1]
    rcases c with rfl | rfl
    · exact e2
    · exact e2
end
local macro_rules | `(tactic| walk_at "ev1") => `(tactic| simp only [r_bd, r_as, r_op2, r_op1, r_opL, r_ac, r_a0, r_of, r_cP, r_cPX, r_p0, r_p0r, r_rbd, r_cD, r_px, r_qx, r_tb, r_tr, r_tand, r_tor, r_tnot, r_eand, r_eor, r_enot, r_eif, r_chain, r_fin, r_rt, r_nx, r_sq, r_sqr, r_sqb, r_unp2, r_unp3, r_unp4, r_par2, r_part0, r_part, r_slice, r_itS, r_itR, r_u0, r_u1, r_u2, r_u3, r_u4, r_u5, r_u6, r_u7, r_ift, r_iff, d_add, d_addI, d_subI, d_sub, d_neg, d_lt, d_le, d_gt, d_ge, d_eqI, d_neI, d_eqB, d_neB, d_isN, d_isntN, d_isB, d_isntB, d_nn, d_ni, d_nt, d_nl, d_nb, d_abs, d_max, d_maxT, d_min, d_int, d_intB, d_len, d_lenT, d_list, d_listT, d_tuple, d_tupleT, d_seq, d_seqT, d_bits, d_and, d_or, d_xor, d_truB, d_truL, d_lst0, d_lst1, d_lst2, d_lst3, d_lst4, d_lst5, d_lst6, d_tup1, d_tup2, d_tup3, d_tup4, d_ix0, d_ix1, d_ix2, d_ixl0, d_ixl1, d_ixl2, if_true, if_false, Bool.false_eq_true, Bool.not_true, Bool.not_false])
local macro_rules | `(tactic| walk_at "fl1") => `(tactic| simp only [op2, op1, opL, ac, a0, cP, cPX, cD, SM.tb, SM.tr, tand, tor, tnot, eand, eor, enot, eif, SM.chain, part0, SM.part, SM.slice, itS, itR, boolD, intO, r_bd, r_as, r_of, r_px, r_p0, r_p0r, r_rbd, r_qx, r_fin, r_rt, r_nx, r_sq, r_sqr, r_sqb, r_unp2, r_unp3, r_unp4, r_par2, r_u0, r_u1, r_u2, r_u3, r_u4, r_u5, r_u6, r_u7, r_ift, r_iff, d_add, d_addI, d_subI, d_sub, d_neg, d_lt, d_le, d_gt, d_ge, d_eqI, d_neI, d_eqB, d_neB, d_isN, d_isntN, d_isB, d_isntB, d_nn, d_ni, d_nt, d_nl, d_nb, d_abs, d_max, d_maxT, d_min, d_int, d_intB, d_len, d_lenT, d_list, d_listT, d_tuple, d_tupleT, d_seq, d_seqT, d_bits, d_and, d_or, d_xor, d_truB, d_truL, d_lst0, d_lst1, d_lst2, d_lst3, d_lst4, d_lst5, d_lst6, d_tup1, d_tup2, d_tup3, d_tup4, d_ix0, d_ix1, d_ix2, d_ixl0, d_ixl1, d_ixl2, if_true, if_false, Bool.false_eq_true, Bool.not_true, Bool.not_false])
local macro_rules | `(tactic| walk_at "fj1") => `(tactic| simp only [op2, op1, opL, ac, a0, cP, cPX, cD, SM.tb, SM.tr, tand, tor, tnot, eand, eor, enot, eif, SM.chain, part0, SM.part, SM.slice, itS, itR, boolD, intO, r_bd, r_as, r_of, r_px, r_p0, r_p0r, r_rbd, r_qx, r_rt, r_nx, r_sq, r_sqr, r_unp2, r_unp3, r_unp4, r_par2, r_u0, r_u1, r_u2, r_u3, r_u4, r_u5, r_u6, r_u7, r_ift, r_iff, d_add, d_addI, d_subI, d_sub, d_neg, d_lt, d_le, d_gt, d_ge, d_eqI, d_neI, d_eqB, d_neB, d_isN, d_isntN, d_isB, d_isntB, d_nn, d_ni, d_nt, d_nl, d_nb, d_abs, d_max, d_maxT, d_min, d_int, d_intB, d_len, d_lenT, d_list, d_listT, d_tuple, d_tupleT, d_seq, d_seqT, d_bits, d_and, d_or, d_xor, d_truB, d_truL, d_lst0, d_lst1, d_lst2, d_lst3, d_lst4, d_lst5, d_lst6, d_tup1, d_tup2, d_tup3, d_tup4, d_ix0, d_ix1, d_ix2, d_ixl0, d_ixl1, d_ixl2, if_true, if_false, Bool.false_eq_true, Bool.not_true, Bool.not_false])
local macro_rules | `(tactic| walk_at "fj") => `(tactic| try walk_at "fj1")
local macro_rules | `(tactic| walk_at "ps") => `(tactic| first | assumption | omega | exact tw_pos _ | (refine Int.mul_pos ?_ ?_ <;> walk_at "ps"))
local macro_rules | `(tactic| walk_at "r1") => `(tactic| first
  | (rw [d_mul]; rotate_left; exact fit_sz (by omega); exact fit_sz (by omega))
  | (rw [d_shl]; rotate_left; exact fit_sz (by omega); omega)
  | rw [d_shr]
  | (rw [d_mod]; rotate_left; walk_at "ps")
  | (rw [d_fdiv]; rotate_left; walk_at "ps"; exact log_sz (by walk_at "ps") (by omega)))
local macro_rules | `(tactic| walk_at "ev") => `(tactic| try walk_at "ev1")
local macro_rules | `(tactic| walk_at "fl") => `(tactic| try walk_at "fl1")
local macro_rules | `(tactic| walk_at "run") => `(tactic| (repeat (first | walk_at "ev1" | walk_at "r1")))
def dkD (d0 d1 d2 : Int) : D := .list [.int d0, .int d1, .int d2]
def Dk (d : D) (n : Nat) : Prop := ∃ d0 d1 d2 : Int, d = dkD d0 d1 d2 ∧ 0 ≤ d0 ∧ 0 ≤ d1 ∧ d1 < 2147483648 ∧ 0 ≤ d2 ∧ d2 ≤ n
theorem Dk.le {d : D} {n k : Nat} (h : Dk d n) (e : n ≤ k) : Dk d k := by
  obtain ⟨d0, d1, d2, h1, h2, h3, h4, h5, h6⟩ := h
  exact ⟨d0, d1, d2, h1, h2, h3, h4, h5, by omega⟩
theorem c18 : powD (.int 10) (.int 18) = some (.int 1000000000000000000) := by
  have := d_pow (a := 10) (k := 18) (by decide) (by decide)
  exact this
theorem c12 : powD (.int 10) (.int 12) = some (.int 1000000000000) := by
  have := d_pow (a := 10) (k := 12) (by decide) (by decide)
  exact this
theorem ok_deck {c t : Int} {n : Nat} (h0 : 0 ≤ t) (h1 : t ≤ n) : ∃ d, m__law_deck (.int c) (.int t) = pu d ∧ Dk d n := by
  unfold m__law_deck
  walk_at "ev"
  rw [c18]
  walk_at "ev"
  by_cases h : 1000000000000000000 ≤ c
  · rw [decide_eq_true h]
    walk_at "ev"
    rw [d_mod (by decide)]
    walk_at "ev"
    refine ⟨_, rfl, _, _, _, rfl, by omega, by omega, by omega, h0, h1⟩
  · rw [decide_eq_false h]
    walk_at "ev"
    rw [d_mod (by decide)]
    walk_at "ev"
    refine ⟨_, rfl, _, _, _, rfl, by omega, by omega, by omega, h0, h1⟩
theorem gets_bd {μ β : Type} (f : μ → SM μ β) (m : μ) : bd gets f m = f m m := rfl
theorem puts_bd {μ β : Type} (x : μ) (f : Unit → SM μ β) (m : μ) : bd (puts x) f m = f () x := rfl
theorem set0 (a b c x : D) : setD (.list [a, b, c]) (.int 0) x = some (.list [x, b, c]) := rfl
theorem set2 (a b c x : D) : setD (.list [a, b, c]) (.int 2) x = some (.list [a, b, x]) := rfl
theorem dk_ix0 (a b c : Int) : idxD (dkD a b c) (.int 0) = some (.int a) := d_ixl0 _ _
theorem dk_ix2 (a b c : Int) : idxD (dkD a b c) (.int 2) = some (.int c) := d_ixl2 _ _ _ _
theorem ok_pick {k : Int} {d : D} {n : Nat} (hd : Dk d n) (hn : n ≤ 1000000000) (hk : 0 < k) (hk2 : k.natAbs.log2 < 9000) : Ok (m__law_pick (.int k)) d fun x d' => ∃ v, x = .int v ∧ 0 ≤ v ∧ v < k ∧ Dk d' (n + 1) := by
  obtain ⟨d0, d1, d2, rfl, h0, h1, h2, h3, h4⟩ := hd
  have e1 : (m__law_pick (.int k)) (dkD d0 d1 d2) = (if 1 < d0 then Rs.ok (.int (d0 % k)) (dkD (d0 / k) d1 d2) else
      if 1000000 < k then Rs.ok (.int ((((d1 + 15485867 * (d2 + 1)) ^ 5 % 2147483647 + 7919 * (d2 + 1)) ^ 3 % 2147483629 / 32 * 2147483563 + (d1 + 15485867 * (d2 + 1)) ^ 5 % 2147483647) % k)) (dkD d0 d1 (d2 + 1))
      else Rs.ok (.int (((d1 + 15485867 * (d2 + 1)) ^ 5 % 2147483647 + 7919 * (d2 + 1)) ^ 3 % 2147483629 / 32 % k)) (dkD d0 d1 (d2 + 1))) := by
    have p5 : ∀ x : Int, x.natAbs < 2 ^ 64 → powD (.int x) (.int 5) = some (.int (x ^ 5)) := fun x h => d_pow (k := 5) h (by decide)
    have p3 : ∀ x : Int, x.natAbs < 2 ^ 64 → powD (.int x) (.int 3) = some (.int (x ^ 3)) := fun x h => d_pow (k := 3) h (by decide)
    have m1 : ∀ x : Int, -(2 ^ 60) < x → x < 2 ^ 60 → mulD (.int 15485867) (.int x) = some (.int (15485867 * x)) := fun x g1 g2 => d_mul (fit_of (n := 64) (by decide) (by decide)) (fit_of (n := 64) (by omega) (by decide))
    have m2 : ∀ x : Int, -(2 ^ 60) < x → x < 2 ^ 60 → mulD (.int 7919) (.int x) = some (.int (7919 * x)) := fun x g1 g2 => d_mul (fit_of (n := 64) (by decide) (by decide)) (fit_of (n := 64) (by omega) (by decide))
    have m3 : ∀ x : Int, -(2 ^ 60) < x → x < 2 ^ 60 → mulD (.int x) (.int 2147483563) = some (.int (x * 2147483563)) := fun x g1 g2 => d_mul (fit_of (n := 64) (by omega) (by decide)) (fit_of (n := 64) (by decide) (by decide))
    unfold m__law_pick
    walk_at "fl"
    rw [gets_bd, dk_ix0]
    walk_at "fl"
    by_cases c : 1 < d0
    · rw [decide_eq_true c, if_pos c]
      walk_at "fl"
      rw [gets_bd, dk_ix0]
      walk_at "fl"
      rw [d_mod hk]
      walk_at "fl"
      rw [gets_bd, dk_ix0]
      walk_at "fl"
      rw [d_fdiv hk hk2]
      walk_at "fl"
      rw [gets_bd, dkD, set0]
      rfl
    · rw [decide_eq_false c, if_neg c]
      walk_at "fl"
      rw [gets_bd, dk_ix2]
      walk_at "fl"
      rw [gets_bd, dkD, set2]
      walk_at "fl"
      rw [puts_bd, gets_bd, d_ixl1]
      walk_at "fl"
      rw [gets_bd, d_ixl2]
      walk_at "fl"
      rw [m1 _ (by omega) (by omega)]
      walk_at "fl"
      rw [p5 _ (by omega)]
      walk_at "fl"
      rw [d_mod (by decide)]
      walk_at "fl"
      rw [gets_bd, d_ixl2]
      walk_at "fl"
      rw [m2 _ (by omega) (by omega)]
      walk_at "fl"
      rw [p3 _ (by omega)]
      walk_at "fl"
      rw [d_mod (by decide)]
      walk_at "fl"
      rw [d_fdiv (by decide) (by decide)]
      walk_at "fl"
      by_cases c2 : 1000000 < k
      · rw [decide_eq_true c2, if_pos c2]
        walk_at "fl"
        rw [m3 _ (by omega) (by omega)]
        walk_at "fl"
        rw [d_mod hk]
        rfl
      · rw [decide_eq_false c2, if_neg c2]
        walk_at "fl"
        rw [d_mod hk]
        rfl
  by_cases c : 1 < d0
  · rw [if_pos c] at e1
    exact ⟨_, _, e1, _, rfl, Int.emod_nonneg _ (by omega), Int.emod_lt_of_pos _ hk, _, _, _, rfl, Int.ediv_nonneg h0 (by omega), h1, h2, h3, by omega⟩
  · rw [if_neg c] at e1
    by_cases c2 : 1000000 < k
    · rw [if_pos c2] at e1
      exact ⟨_, _, e1, _, rfl, Int.emod_nonneg _ (by omega), Int.emod_lt_of_pos _ hk, _, _, _, rfl, h0, h1, h2, by omega, by omega⟩
    · rw [if_neg c2] at e1
      exact ⟨_, _, e1, _, rfl, Int.emod_nonneg _ (by omega), Int.emod_lt_of_pos _ hk, _, _, _, rfl, h0, h1, h2, by omega, by omega⟩
local macro_rules | `(tactic| walk_at "pk") => `(tactic| refine ok_bd (ok_qx ((ok_pick (by assumption) (by omega) (by first | decide | omega) (by first | decide | exact log_sz (by omega) (by omega))).mono ?_)))
theorem ix_some {xs : List D} {v : Int} (h0 : 0 ≤ v) (h1 : v < xs.length) : ∃ y, y ∈ xs ∧ idxD (.list xs) (.int v) = some y := by
  obtain ⟨k, rfl⟩ := Int.eq_ofNat_of_zero_le h0
  have hk : k < xs.length := by omega
  exact ⟨xs[k], List.getElem_mem hk, atI_nat (List.getElem?_eq_getElem hk)⟩
def figs (m : Int) : List Int := (List.range (2 * m + 1).toNat).map fun (i : Nat) => -m + (i : Int)
theorem tw_pos (k : Nat) : (0 : Int) < 2 ^ k := by
  have h := Nat.two_pow_pos k
  have e : (2 : Int) ^ k = ((2 ^ k : Nat) : Int) := by rw [Int.natCast_pow]; rfl
  rw [e]; omega
def intsR (a b : Int) : List Int := (List.range (b - a).toNat).map fun (i : Nat) => a + (i : Int)
theorem figs_rng (m : Int) : figs m = intsR (-m) (m + 1) := by
  unfold figs intsR
  rw [show (m + 1 - -m).toNat = (2 * m + 1).toNat by omega]
abbrev t2 (a b : Int) : D := .tuple [.int a, .int b]
abbrev t3 (a b c : Int) : D := .tuple [.int a, .int b, .int c]
def Kd (b m : Int) : Prop := (b = 2 ∨ b = 4 ∨ b = 8 ∨ b = 16) ∧ b / 2 ≤ m ∧ m ≤ b - 1
theorem Kd.bd {b m : Int} (h : Kd b m) : 2 ≤ b ∧ b ≤ 16 ∧ 1 ≤ m ∧ m ≤ 15 ∧ m < b ∧ b ≤ 2 * m ∧ 2 ≤ b * m ∧ b * m ≤ 240 := by
  obtain ⟨h1, h2, h3⟩ := h
  have hb : 2 ≤ b ∧ b ≤ 16 ∧ b % 2 = 0 := by rcases h1 with e | e | e | e <;> rw [e] <;> decide
  have h4 : b ≤ 2 * m := by omega
  have h5 : 1 ≤ m := by omega
  have h6 : m ≤ 15 := by omega
  exact ⟨hb.1, hb.2.1, h5, h6, by omega, h4, Int.mul_le_mul hb.1 h5 (by decide) (Int.le_trans (by decide) hb.1), Int.mul_le_mul hb.2.1 h6 (Int.le_trans (by decide) h5) (by decide)⟩
theorem Kd.sb {b m : Int} (h : Kd b m) : Sz b 5 := ⟨by have := h.bd; omega⟩
theorem Kd.sm {b m : Int} (h : Kd b m) : Sz m 5 := ⟨by have := h.bd; omega⟩
def rgI (a b : Int) : D := .list ((intsR a b).map .int)
theorem d_lrg {a b : Int} (h1 : -(2 ^ 62) ≤ a ∧ a < 2 ^ 62 ∧ -(2 ^ 62) ≤ b ∧ b < 2 ^ 62 ∧ (b - a).toNat ≤ 2 ^ 24) : lrg [.int a, .int b] = some (rgI a b) := by
  show (if _ then some (rgD a b) else none) = _
  rw [if_pos h1]
  unfold rgD rgI intsR
  rw [List.map_map]; rfl
def flat : PyData → Bool
  | .int _ => true
  | .bool _ => true
  | .none => true
  | _ => false
theorem flat_ok {d : PyData} (h : flat d = true) : d.canLay0 = true ∧ d.depth = 0 := by
  cases d with
  | int i => exact ⟨by simp only [PyData.canLay0], by simp only [PyData.depth]⟩
  | bool i => exact ⟨by simp only [PyData.canLay0], by simp only [PyData.depth]⟩
  | none => exact ⟨by simp only [PyData.canLay0], by simp only [PyData.depth]⟩
  | str x => cases h
  | list x => cases h
  | tuple x => cases h
  | dict x => cases h
theorem flats_ok : ∀ {ds : List PyData}, (∀ d ∈ ds, flat d = true) → PyData.canLayAll0 ds = true ∧ PyData.depthAll ds = 0
  | [], _ => ⟨by simp only [PyData.canLayAll0], by simp only [PyData.depthAll]⟩
  | d :: ds, h => by
    obtain ⟨h1, h2⟩ := flat_ok (h d (.head _))
    obtain ⟨h3, h4⟩ := flats_ok (ds := ds) fun x m => h x (.tail _ m)
    exact ⟨by simp only [PyData.canLayAll0]; rw [h1, h3]; rfl, by simp only [PyData.depthAll]; rw [h2, h4]; rfl⟩
theorem flats_ints {ns : List Int} : ∀ d ∈ ns.map PyData.int, flat d = true := fun d m => by
  obtain ⟨n, _, rfl⟩ := List.mem_map.mp m
  rfl
theorem shaped_of {d : PyData} (h1 : d.canLay0 = true) (h2 : d.depth ≤ 64) : SeqAt.shaped d = true := by
  unfold SeqAt.shaped
  rw [h1, decide_eq_true h2]; rfl
theorem shaped_flats {ds : List PyData} (h : ∀ d ∈ ds, flat d = true) : SeqAt.shaped (.list ds) = true := by
  obtain ⟨h1, h2⟩ := flats_ok h
  refine shaped_of ?_ ?_
  · simp only [PyData.canLay0]; exact h1
  · simp only [PyData.depth]; omega
theorem shaped_ints (ns : List Int) : SeqAt.shaped (.list (ns.map PyData.int)) = true := shaped_flats flats_ints
theorem eqv_ints : ∀ (ns ms : List Int), PyData.eqvAll (ns.map PyData.int) (ms.map PyData.int) = decide (ns = ms)
  | [], [] => by simp [PyData.eqvAll]
  | [], _ :: _ => by simp [PyData.eqvAll]
  | _ :: _, [] => by simp [PyData.eqvAll]
  | n :: ns, m :: ms => by
    simp only [List.map_cons, PyData.eqvAll, PyData.eqv]
    rw [eqv_ints ns ms]
    by_cases h : n = m
    · subst h; simp
    · simp [h]
theorem d_eqL (ns ms : List Int) : eqD (.list (ns.map .int)) (.list (ms.map .int)) = some (.bool (decide (ns = ms))) := by
  unfold eqD
  rw [shaped_ints, shaped_ints, PyData.eqv, eqv_ints]; rfl
theorem r_lc {μ : Type} {T : D → SM μ Bool} {E : D → SM μ D} (xs : List D) : SM.lc (pu xs) T E = bd (lcS T E xs []) fun ys => pu (.list ys) := rfl
theorem lc_map {μ : Type} {T : D → SM μ Bool} {E : D → SM μ D} {g : D → D} : ∀ (xs acc : List D), (∀ x ∈ xs, T x = pu true) → (∀ x ∈ xs, E x = pu (g x)) → acc.length + xs.length ≤ sizeLine → lcS T E xs acc = pu (acc ++ xs.map g)
  | [], acc, _, _, _ => by rw [List.map_nil, List.append_nil]; rfl
  | x :: xs, acc, hT, hE, h => by
    rw [List.length_cons] at h
    show bd (T x) _ = _
    rw [hT x (.head _), pu_bd, if_pos rfl, hE x (.head _), pu_bd, if_pos (by omega), lc_map xs _ (fun y hy => hT y (.tail _ hy)) (fun y hy => hE y (.tail _ hy)) (by rw [List.length_append, List.length_singleton]; omega), List.append_assoc]
    rfl
theorem cut_ints (ns : List Int) (lo hi : Option Int) : ∃ ms : List Int, ms.length ≤ ns.length ∧ cutD (ns.map PyData.int) lo hi = ms.map .int := by
  unfold cutD
  refine ⟨(ns.drop (HT.sIx (ns.map PyData.int).length 0 lo)).take (HT.sIx (ns.map PyData.int).length (ns.map PyData.int).length hi - HT.sIx (ns.map PyData.int).length 0 lo), ?_, ?_⟩
  · rw [List.length_take, List.length_drop]; omega
  · rw [List.map_take, List.map_drop]
theorem sli_scr {ns : List Int} {lo hi : Option Int} (h : ns.length ≤ 63) : ∃ ms : List Int, ms.length ≤ 63 ∧ sliD (scrD (ns.map .int)) lo hi = some (.list (ms.map .int)) := by
  obtain ⟨ms, h1, h2⟩ := cut_ints ns lo hi
  exact ⟨ms, by omega, by show some (PyData.list (cutD _ _ _)) = _; rw [h2]⟩
theorem figs_len (m : Int) : (figs m).length = (2 * m + 1).toNat := by unfold figs; rw [List.length_map, List.length_range]
theorem mem_figs {m f : Int} (h : f ∈ figs m) : -m ≤ f ∧ f ≤ m := by
  unfold figs at h
  obtain ⟨i, hi, rfl⟩ := List.mem_map.mp h
  have := List.mem_range.mp hi
  omega
theorem figs_mem {m f : Int} (h1 : -m ≤ f) (h2 : f ≤ m) : f ∈ figs m := by
  unfold figs
  exact List.mem_map.mpr ⟨(f + m).toNat, List.mem_range.mpr (by omega), by omega⟩
theorem d_app {ds : List D} {x : D} (h : ds.length ≤ 1000000) : appD (.list ds) x = some (.list (ds ++ [x])) := if_pos (Nat.lt_of_le_of_lt h (by decide))
/-- the last upper end of looks for which the figure is not too small -/
def upE (b m L G : Int) (o p : Nat) (f : Int) : Int := ((f * (b - 1) + m) * (if f * (b - 1) + m > 0 then L else G) * 2 ^ p) / ((b - 1) * 2 ^ o)
/-- where the looks of a figure start and stop -/
def stF (m first : Int) (E : Int → Int) (f : Int) : Int := if f = -m then first else E f
def spF (m last : Int) (E : Int → Int) (f : Int) : Int := if f = m then last else E f
theorem figs_ln (m : Int) : (figs m).length = (2 * m + 1).toNat := by unfold figs; rw [List.length_map, List.length_range]
theorem sum_ite {P : Int → Bool} : ∀ {fs : List Int}, fs.Nodup → (∀ f ∈ fs, ∀ g ∈ fs, P f = true → P g = true → f = g) → (fs.map fun f => if P f = true then 1 else 0).sum = if fs.any P = true then 1 else 0
  | [], _, _ => rfl
  | f :: fs, hn, h => by
    have hn' := List.nodup_cons.mp hn
    rw [List.map_cons, List.sum_cons, List.any_cons, sum_ite hn'.2 fun a ha b hb => h a (.tail _ ha) b (.tail _ hb)]
    cases hf : P f with
    | true =>
      have : fs.any P = false := by
        rw [List.any_eq_false]
        intro g hg hp
        exact hn'.1 (by rw [h f (.head _) g (.tail _ hg) hf hp]; exact hg)
      rw [this]; rfl
    | false => simp
theorem sum_add (fs : List Int) (g k : Int → Nat) : (fs.map fun f => g f + k f).sum = (fs.map g).sum + (fs.map k).sum := by
  induction fs with
  | nil => rfl
  | cons f fs ih => rw [List.map_cons, List.map_cons, List.map_cons, List.sum_cons, List.sum_cons, List.sum_cons, ih]; omega
theorem sum_zero : ∀ fs : List Int, (fs.map fun _ => 0).sum = 0
  | [] => rfl
  | f :: fs => by rw [List.map_cons, List.sum_cons, sum_zero fs]
theorem sum_count {P : Int → Int → Bool} {fs : List Int} (hn : fs.Nodup) : ∀ {ls : List Int}, (∀ l ∈ ls, ∀ f ∈ fs, ∀ g ∈ fs, P f l = true → P g l = true → f = g) → (fs.map fun f => ls.countP (P f)).sum = ls.countP fun l => fs.any fun f => P f l
  | [], _ => sum_zero fs
  | l :: ls, h => by
    rw [List.countP_cons, ← sum_count hn fun a ha => h a (.tail _ ha)]
    have e : (fun f => (l :: ls).countP (P f)) = fun f => ls.countP (P f) + if P f l = true then 1 else 0 := by
      funext f
      rw [List.countP_cons]
    rw [e, sum_add, sum_ite hn (h l (.head _))]
theorem figs_nodup (m : Int) : (figs m).Nodup := by
  unfold figs
  rw [List.nodup_iff_pairwise_ne, List.pairwise_map]
  exact List.nodup_range.imp fun h e => h (by omega)
theorem countP_all {α : Type} {P : α → Bool} : ∀ {ls : List α}, ls.countP P = ls.length ↔ ls.all P = true
  | [] => by simp
  | l :: ls => by
    rw [List.countP_cons, List.all_cons, List.length_cons, Bool.and_eq_true, ← countP_all (ls := ls)]
    have := List.countP_le_length (p := P) (l := ls)
    cases P l with
    | true => simp
    | false => simp; omega
/-- a part of a range of looks -/
def lk (a b : Int) : List Int := (List.range (b - a).toNat).map fun (i : Nat) => a + (i : Int)
theorem lk_len (a b : Int) : (lk a b).length = (b - a).toNat := by unfold lk; rw [List.length_map, List.length_range]
theorem mem_lk {a b l : Int} : l ∈ lk a b ↔ a ≤ l ∧ l < b := by
  unfold lk
  rw [List.mem_map]
  constructor
  · rintro ⟨i, hi, rfl⟩
    have := List.mem_range.mp hi
    omega
  · intro h
    exact ⟨(l - a).toNat, List.mem_range.mpr (by omega), by omega⟩
theorem lk_nil {a b : Int} (h : b ≤ a) : lk a b = [] := by
  unfold lk
  rw [show (b - a).toNat = 0 by omega]; rfl
theorem lk_app {a b c : Int} (h1 : a ≤ b) (h2 : b ≤ c) : lk a c = lk a b ++ lk b c := by
  unfold lk
  have e : (c - a).toNat = (b - a).toNat + (c - b).toNat := by omega
  rw [e, List.range_add, List.map_append, List.map_map]
  congr 1
  refine List.map_congr_left fun i _ => ?_
  show a + (((b - a).toNat + i : Nat) : Int) = b + (i : Int)
  omega
theorem filter_part {a b c d : Int} {P Q : Int → Bool} (h1 : a ≤ b) (h2 : b ≤ c) (h3 : c ≤ d) (hin : ∀ l, b ≤ l → l < c → P l = Q l) (hout : ∀ l, (l < b ∨ c ≤ l) → P l = false) : (lk a d).filter P = (lk b c).filter Q := by
  rw [lk_app h1 (Int.le_trans h2 h3), lk_app h2 h3, List.filter_append, List.filter_append]
  have e1 : (lk a b).filter P = [] := List.filter_eq_nil_iff.mpr fun l hl => by rw [hout l (.inl (mem_lk.mp hl).2)]; decide
  have e2 : (lk c d).filter P = [] := List.filter_eq_nil_iff.mpr fun l hl => by rw [hout l (.inr (mem_lk.mp hl).1)]; decide
  have e3 : (lk b c).filter P = (lk b c).filter Q := List.filter_congr fun l hl => hin l (mem_lk.mp hl).1 (mem_lk.mp hl).2
  rw [e1, e2, e3]; simp
theorem count_part {a b c d : Int} {P : Int → Bool} (h1 : a ≤ b) (h2 : b ≤ c) (h3 : c ≤ d) (hout : ∀ l, (l < b ∨ c ≤ l) → P l = false) : (lk a d).countP P = (lk b c).countP P := by
  rw [List.countP_eq_length_filter, List.countP_eq_length_filter, filter_part h1 h2 h3 (fun _ _ _ => rfl) hout]
theorem r_lcB {μ : Type} (I : SM μ (List D)) (T : D → SM μ Bool) (E : D → SM μ D) (xs : List D) (h : I = pu xs) : SM.lc I T E = bd (lcS T E xs []) fun ys => pu (.list ys) := by rw [h]; rfl
theorem r_itR3 {μ : Type} (l : List D) : (itR3 (pu l) : SM μ (List D)) = of (rng3D l) := rfl
theorem r_itZ {μ : Type} (l : List D) : (itZ (pu l) : SM μ (List D)) = of (zip2D l) := rfl
theorem r_itES {μ : Type} (l k : List D) : (itES (pu l) (pu k) : SM μ (List D)) = of (enSD l k) := rfl
theorem r_itE {μ : Type} (l : List D) : (itE (pu l) : SM μ (List D)) = of (enD l) := rfl
theorem r_cnt2 {μ : Type} (l : List D) (y : D) : (cnt2 (pu (.list l)) (pu y) : SM μ D) = of (countD (.list l) y) := rfl
theorem r_lz {μ : Type} (l : List D) (x y : D) : (lz (pu l) (pu x) (pu y) : SM μ D) = bd (of (rg2D l)) fun p => of (lzD p x y) := rfl
/-- the slopes of all figures but the greatest -/
theorem sl_rng {b m : Int} (hk : Kd b m) : rng3D [.int (m - m * (b - 1)), .int (m - m * (b - 1) + 2 * m * (b - 1)), .int (b - 1)] = some ((lk (-m) m).map fun f => .int (f * (b - 1) + m)) := by
  have kb := hk.bd
  have h : ∀ (b m : Int), (b = 2 ∨ b = 4 ∨ b = 8 ∨ b = 16) → 1 ≤ m → m ≤ 15 → Builtin.Range.small (m - m * (b - 1)) (m - m * (b - 1) + 2 * m * (b - 1)) (b - 1) = true ∧ Builtin.Range.rangeSize (m - m * (b - 1)) (m - m * (b - 1) + 2 * m * (b - 1)) (b - 1) = 2 * m := by
    intro b m hb h1 h2
    have hm : m = 1 ∨ m = 2 ∨ m = 3 ∨ m = 4 ∨ m = 5 ∨ m = 6 ∨ m = 7 ∨ m = 8 ∨ m = 9 ∨ m = 10 ∨ m = 11 ∨ m = 12 ∨ m = 13 ∨ m = 14 ∨ m = 15 := by omega
    rcases hb with e | e | e | e <;> subst e <;> rcases hm with e | e | e | e | e | e | e | e | e | e | e | e | e | e | e <;> subst e <;> exact ⟨by decide +kernel, by decide +kernel⟩
  obtain ⟨q1, q2⟩ := h b m hk.1 (by omega) (by omega)
  simp only [rng3D]
  rw [if_pos ⟨by omega, by omega, q1, by omega⟩, q2]
  unfold lk
  rw [List.map_map, show (m - -m).toNat = (2 * m).toNat by omega]
  refine congrArg some (List.map_congr_left fun i _ => ?_)
  show PyData.int _ = .int ((-m + (i : Int)) * (b - 1) + m)
  rw [Int.add_mul, Int.neg_mul]
  congr 1
  omega
theorem lc_ints {μ : Type} {T : D → SM μ Bool} {E : D → SM μ D} {g : Int → D} (ls : List Int) (k : Int → D) (hT : ∀ x, T x = pu true) (hE : ∀ l ∈ ls, E (k l) = pu (g l)) (hl : ls.length ≤ 1000000) : lcS T E (ls.map k) [] = pu (ls.map g) := by
  have : ∀ (ls : List Int) (acc : List D), (∀ l ∈ ls, E (k l) = pu (g l)) → acc.length + ls.length ≤ 1000000 → lcS T E (ls.map k) acc = pu (acc ++ ls.map g) := by
    intro ls
    induction ls with
    | nil => intro acc _ _; rw [List.map_nil, List.map_nil, List.append_nil]; rfl
    | cons l ls ih =>
      intro acc hE hl
      rw [List.length_cons] at hl
      show bd (T (k l)) _ = _
      rw [hT, pu_bd, if_pos rfl, hE l (.head _), pu_bd, if_pos (Nat.lt_of_lt_of_le (show acc.length < 1000000 by omega) (by decide)), ih _ (fun a ha => hE a (.tail _ ha)) (by rw [List.length_append, List.length_singleton]; omega), List.append_assoc]
      rfl
  have := this ls [] hE (by rw [List.length_nil]; omega)
  rw [List.nil_append] at this
  exact this
theorem e_upper_ends {b m L G : Int} {o p : Nat} (hk : Kd b m) (ho : o ≤ 200) (hp : p ≤ 100) (hL : Sz L 300) (hG : Sz G 300) : m_upper_ends (t2 b m) (.int L) (.int G) (.int o) (.int p) = pu (.list ((lk (-m) m).map fun f => .int (upE b m L G o p f))) := by
  have kb := hk.bd
  have i1 := hk.sb
  have i2 := hk.sm
  have hN : 0 < (b - 1) * 2 ^ o := Int.mul_pos (by omega) (tw_pos o)
  unfold m_upper_ends
  walk_at "run"
  rw [r_lcB _ _ _ _ (by rw [r_itR3, sl_rng hk, r_of]), lc_ints (g := fun f => .int (upE b m L G o p f)) _ _ (fun _ => rfl) (fun f hf => ?_) (by rw [lk_len]; omega)]
  · walk_at "ev"
  · have hf' := mem_lk.mp hf
    have i4 : Sz f 5 := ⟨by omega⟩
    unfold upE
    by_cases c : 0 < f * (b - 1) + m
    · rw [if_pos (show f * (b - 1) + m > 0 from c)]
      walk_at "ev"
      rw [decide_eq_true c]
      walk_at "run"
    · rw [if_neg (show ¬ f * (b - 1) + m > 0 from c)]
      walk_at "ev"
      rw [decide_eq_false c]
      walk_at "run"
def spansD (m first last : Int) (A Z : Int → Int) : List D := (figs m).map fun f => t3 f (stF m first A f) (spF m last Z f)
theorem z3_map (m : Int) (g k : Int → D) : ∀ (n : Nat) (a : Int), z3L a ((List.range' 0 n).map fun i => g (a + (i : Nat))) ((List.range' 0 n).map fun i => k (a + (i : Nat))) = (List.range' 0 n).map fun i => .tuple [.int (a + (i : Nat)), g (a + (i : Nat)), k (a + (i : Nat))] := by
  have key : ∀ (n s : Nat) (a : Int), z3L (a + s) ((List.range' s n).map fun i => g (a + (i : Nat))) ((List.range' s n).map fun i => k (a + (i : Nat))) = (List.range' s n).map fun i => .tuple [.int (a + (i : Nat)), g (a + (i : Nat)), k (a + (i : Nat))] := by
    intro n
    induction n with
    | zero => intro s a; rfl
    | succ n ih =>
      intro s a
      rw [List.range'_succ, List.map_cons, List.map_cons, List.map_cons]
      show PyData.tuple _ :: z3L (a + s + 1) _ _ = _
      have := ih (s + 1) a
      rw [show a + ((s + 1 : Nat) : Int) = a + s + 1 by omega] at this
      rw [this]
  intro n a
  have := key n 0 a
  rw [show a + ((0 : Nat) : Int) = a by omega] at this
  exact this
theorem figs_cons {m : Int} (hm : 1 ≤ m) : figs m = -m :: lk (-m + 1) (m + 1) := by
  have e : figs m = lk (-m) (m + 1) := by
    unfold figs lk
    rw [show (m + 1 - -m).toNat = (2 * m + 1).toNat by omega]
  rw [e, lk_app (a := -m) (b := -m + 1) (c := m + 1) (by omega) (by omega)]
  have : lk (-m) (-m + 1) = [-m] := by
    unfold lk
    rw [show (-m + 1 - -m).toNat = 1 by omega]
    simp
  rw [this]; rfl
theorem figs_snoc {m : Int} (hm : 1 ≤ m) : figs m = lk (-m) m ++ [m] := by
  have e : figs m = lk (-m) (m + 1) := by
    unfold figs lk
    rw [show (m + 1 - -m).toNat = (2 * m + 1).toNat by omega]
  rw [e, lk_app (a := -m) (b := m) (c := m + 1) (by omega) (by omega)]
  have : lk m (m + 1) = [m] := by
    unfold lk
    rw [show (m + 1 - m).toNat = 1 by omega]
    simp
  rw [this]
theorem st_list {m first : Int} {A : Int → Int} (hm : 1 ≤ m) : .int first :: (lk (-m + 1) (m + 1)).map (fun f => PyData.int (A f)) = (figs m).map fun f => .int (stF m first A f) := by
  rw [figs_cons hm, List.map_cons]
  congr 1
  · unfold stF; rw [if_pos rfl]
  · refine List.map_congr_left fun f hf => ?_
    have := mem_lk.mp hf
    unfold stF
    rw [if_neg (by omega)]
theorem sp_list {m last : Int} {Z : Int → Int} (hm : 1 ≤ m) : (lk (-m) m).map (fun f => PyData.int (Z f)) ++ [.int last] = (figs m).map fun f => .int (spF m last Z f) := by
  rw [figs_snoc hm, List.map_append]
  congr 1
  · refine List.map_congr_left fun f hf => ?_
    have := mem_lk.mp hf
    unfold spF
    rw [if_neg (by omega)]
  · rw [List.map_singleton]
    unfold spF
    rw [if_pos rfl]
theorem e_spans_between {b m first last : Int} {A Z : Int → Int} (hk : Kd b m) : m_spans_between (t2 b m) (.list ((figs m).map fun f => .int (stF m first A f))) (.list ((figs m).map fun f => .int (spF m last Z f))) = pu (.list (spansD m first last A Z)) := by
  have kb := hk.bd
  unfold m_spans_between
  walk_at "ev"
  rw [r_lz]
  have e1 : rg2D [.int (-m), .int (m + 1)] = some (-m, m + 1) := if_pos (by omega)
  rw [e1]
  walk_at "ev"
  have hlen := figs_ln m
  have e2 : lzD (-m, m + 1) (.list ((figs m).map fun f => .int (stF m first A f))) (.list ((figs m).map fun f => .int (spF m last Z f))) = some (.list (spansD m first last A Z)) := by
    show (if _ then some (PyData.list (z3L (-m) ((figs m).map fun f => .int (stF m first A f)) ((figs m).map fun f => .int (spF m last Z f)))) else none) = _
    rw [if_pos (show ((((figs m).map fun f => PyData.int (stF m first A f)).length : Nat) : Int) = (m + 1) - (-m) ∧ ((figs m).map fun f => PyData.int (spF m last Z f)).length = ((figs m).map fun f => PyData.int (stF m first A f)).length ∧ 0 < ((figs m).map fun f => PyData.int (stF m first A f)).length by rw [List.length_map, List.length_map]; omega)]
    have := z3_map m (fun f => .int (stF m first A f)) (fun f => .int (spF m last Z f)) (2 * m + 1).toNat (-m)
    rw [← List.range_eq_range'] at this
    unfold spansD figs
    rw [List.map_map, List.map_map, List.map_map]
    exact congrArg (fun l => some (PyData.list l)) this
  rw [e2]
  walk_at "ev"
def halfI (b : Int) (p : Nat) : Int := b * 2 ^ p + 2
def figB (m : Int) : D → Bool
  | .int i => decide (-m ≤ i) && decide (i ≤ m)
  | _ => false
def entB (m : Int) (d : D) : Bool := isNone d || figB m d
def NN (b : Int) (p : Nat) : Nat := (2 * halfI b p).toNat
def MM (t : Nat) : Nat := 2 ^ (t - 1)
theorem mm_cast (t : Nat) : ((MM t : Nat) : Int) = 2 ^ (t - 1) := by unfold MM; rw [Int.natCast_pow]; rfl
theorem e_half_of {b m : Int} {t : Int} {p : Nat} (hk : Kd b m) (hp : p ≤ 10) : m_half_of (t2 b m) (t2 t p) = pu (.int (halfI b p)) := by
  have i1 := hk.sb
  unfold m_half_of
  walk_at "run"
  rfl
theorem e_first_top {t : Nat} {p : Int} (h1 : 1 ≤ t) (h : t ≤ 100) : m_first_top (t2 t p) = pu (.int (MM t)) := by
  have e : (t : Int) - 1 = ((t - 1 : Nat) : Int) := by omega
  unfold m_first_top
  walk_at "ev"
  rw [e, d_shl (fit_sz (n := 1) (by omega)) (by omega), Int.one_mul, ← mm_cast]
  walk_at "ev"
theorem e_law_halfI {b m : Int} {t : Int} {p : Nat} (hk : Kd b m) (hp : p ≤ 10) : m__law_half (t2 b m) (t2 t p) = pu (.int (halfI b p)) := by
  have i1 := hk.sb
  unfold m__law_half halfI
  walk_at "ev"
  rw [d_lst (by show 11 ≤ sizeLine; decide)]
  walk_at "ev"
  have e : idxD (.list [PyData.int 1, .int 2, .int 4, .int 8, .int 16, .int 32, .int 64, .int 128, .int 256, .int 512, .int 1024]) (.int (p : Int)) = some (.int (2 ^ p)) := by
    have hp9 : p = 0 ∨ p = 1 ∨ p = 2 ∨ p = 3 ∨ p = 4 ∨ p = 5 ∨ p = 6 ∨ p = 7 ∨ p = 8 ∨ p = 9 ∨ p = 10 := (by decide : ∀ q : Fin 11, q.1 = 0 ∨ q.1 = 1 ∨ q.1 = 2 ∨ q.1 = 3 ∨ q.1 = 4 ∨ q.1 = 5 ∨ q.1 = 6 ∨ q.1 = 7 ∨ q.1 = 8 ∨ q.1 = 9 ∨ q.1 = 10) ⟨p, Nat.lt_succ_of_le hp⟩
    rcases hp9 with h | h | h | h | h | h | h | h | h | h | h <;> subst h <;> rfl
  rw [e]
  walk_at "run"
theorem dep_list (xs : List D) : (PyData.list xs).depth = PyData.depthAll xs + 1 := by simp only [PyData.depth]
theorem dep_tup (xs : List D) : (PyData.tuple xs).depth = PyData.depthAll xs + 1 := by simp only [PyData.depth]
/-- data that can be held against data, at most n deep -/
def Lay (n : Nat) (d : D) : Prop := d.canLay0 = true ∧ d.depth ≤ n
theorem lay_all {n : Nat} : ∀ {xs : List D}, (∀ x ∈ xs, Lay n x) → PyData.canLayAll0 xs = true ∧ PyData.depthAll xs ≤ n
  | [], _ => ⟨by simp only [PyData.canLayAll0], by simp only [PyData.depthAll]; omega⟩
  | x :: xs, h => by
    obtain ⟨h1, h2⟩ := h x (.head _)
    obtain ⟨h3, h4⟩ := lay_all (xs := xs) fun y hy => h y (.tail _ hy)
    exact ⟨by simp only [PyData.canLayAll0]; rw [h1, h3]; rfl, by simp only [PyData.depthAll]; omega⟩
theorem lay_list {n : Nat} {xs : List D} (h : ∀ x ∈ xs, Lay n x) : Lay (n + 1) (.list xs) := by
  obtain ⟨h1, h2⟩ := lay_all h
  exact ⟨by simp only [PyData.canLay0]; exact h1, by rw [dep_list]; omega⟩
theorem lay_tup {n : Nat} {xs : List D} (h : ∀ x ∈ xs, Lay n x) : Lay (n + 1) (.tuple xs) := by
  obtain ⟨h1, h2⟩ := lay_all h
  exact ⟨by simp only [PyData.canLay0]; exact h1, by rw [dep_tup]; omega⟩
theorem Lay.le {n k : Nat} {d : D} (h : Lay n d) (e : n ≤ k) : Lay k d := ⟨h.1, Nat.le_trans h.2 e⟩
theorem Lay.shaped {n : Nat} {d : D} (h : Lay n d) (e : n ≤ 64) : SeqAt.shaped d = true := shaped_of h.1 (Nat.le_trans h.2 e)
theorem lay_int (i : Int) {n : Nat} : Lay n (.int i) := ⟨by simp only [PyData.canLay0], by simp only [PyData.depth]; omega⟩
theorem lay_none {n : Nat} : Lay n .none := ⟨by simp only [PyData.canLay0], by simp only [PyData.depth]; omega⟩
theorem lay_str {x : Str} (h : (PyData.str x).canLay0 = true) {n : Nat} : Lay n (.str x) := ⟨h, by simp only [PyData.depth]; omega⟩
/-- the sizes of a table, any -/
structure Lg (b m : Int) (t p : Nat) : Prop where
  kd : Kd b m
  t1 : 1 ≤ t
  t10 : t ≤ 10
  p10 : p ≤ 10
theorem pow_le10 {p : Nat} (h : p ≤ 10) : (1 : Int) ≤ 2 ^ p ∧ (2 : Int) ^ p ≤ 1024 := by
  have h1 : 2 ^ p ≤ 2 ^ 10 := Nat.pow_le_pow_right (by decide) h
  have h2 := Nat.two_pow_pos p
  have e : (2 : Int) ^ p = ((2 ^ p : Nat) : Int) := by rw [Int.natCast_pow]; rfl
  rw [e]
  omega
theorem Lg.hb {b m : Int} {t p : Nat} (h : Lg b m t p) : 4 ≤ halfI b p ∧ halfI b p ≤ 16386 := by
  have kb := h.kd.bd
  have h3 := pow_le10 h.p10
  unfold halfI
  have h1 : b * 2 ^ p ≤ 16 * 1024 := Int.mul_le_mul (by omega) h3.2 (by omega) (by omega)
  have h2 : 2 * 1 ≤ b * 2 ^ p := Int.mul_le_mul (by omega) h3.1 (by omega) (by omega)
  omega
theorem Lg.mb {b m : Int} {t p : Nat} (h : Lg b m t p) : 1 ≤ MM t ∧ MM t ≤ 512 ∧ 2 * MM t = 2 ^ t := by
  have h1 := h.t1
  unfold MM
  have h2 : 2 ^ (t - 1) ≤ 2 ^ 9 := Nat.pow_le_pow_right (by decide) (by have := h.t10; omega)
  have h3 := Nat.two_pow_pos (t - 1)
  have h4 : 2 ^ t = 2 ^ (t - 1) * 2 := by rw [← Nat.pow_succ]; congr 1; omega
  omega
theorem Lg.nb {b m : Int} {t p : Nat} (h : Lg b m t p) : ((NN b p : Nat) : Int) = 2 * halfI b p ∧ NN b p ≤ 32772 := by
  have := h.hb
  unfold NN
  omega
/-- a top of these looks -/
structure Tp (t : Nat) (u : Int) : Prop where
  lo : 1 ≤ u
  hi : u + 1 ≤ 2 ^ t
theorem Lg.tp {b m : Int} {t p i : Nat} (h : Lg b m t p) (hi : i < MM t) : Tp t ((MM t : Int) + i) := by
  have hm := h.mb
  refine ⟨by omega, ?_⟩
  have e : (2 : Int) ^ t = ((2 ^ t : Nat) : Int) := by rw [Int.natCast_pow]; rfl
  rw [e, ← hm.2.2]
  omega
theorem Tp.sz {t : Nat} {u : Int} (h : Tp t u) (ht : t ≤ 10) : Sz u 60 := ⟨by
  have h1 := h.lo
  have h2 := h.hi
  have h3 := pow_le10 ht
  omega⟩
def entA (r : List D) (half l : Int) : D := r.getD (l + half).toNat .none
/-- a row of figures and None -/
structure RowE (m : Int) (N : Nat) (r : List D) : Prop where
  len : r.length = N
  ent : ∀ x ∈ r, entB m x = true
theorem entB_cases {m : Int} {x : D} (h : entB m x = true) : x = .none ∨ ∃ f, x = .int f ∧ -m ≤ f ∧ f ≤ m := by
  cases x with
  | none => exact .inl rfl
  | int f =>
    refine .inr ⟨f, rfl, ?_⟩
    have : (false || (decide (-m ≤ f) && decide (f ≤ m))) = true := h
    rw [Bool.false_or, Bool.and_eq_true, decide_eq_true_iff, decide_eq_true_iff] at this
    exact this
  | _ => cases h
theorem entA_ok {m : Int} {N : Nat} {r : List D} (h : RowE m N r) (half l : Int) : entB m (entA r half l) = true := by
  unfold entA
  rw [List.getD_eq_getElem?_getD]
  cases e : r[(l + half).toNat]? with
  | none => rfl
  | some x => exact h.ent x (List.mem_of_getElem? e)
theorem entA_get {r : List D} {half l : Int} (h1 : -half ≤ l) (h2 : (l + half).toNat < r.length) : idxD (.list r) (.int (l + half)) = some (entA r half l) := by
  obtain ⟨k, hk⟩ := Int.eq_ofNat_of_zero_le (show 0 ≤ l + half by omega)
  rw [hk]
  have hk2 : k < r.length := by omega
  show atI r _ = _
  unfold entA
  rw [hk, Int.toNat_natCast, List.getD_eq_getElem?_getD, List.getElem?_eq_getElem hk2]
  exact atI_nat (List.getElem?_eq_getElem hk2)
theorem cut_lk {r : List D} {half a z : Int} (hl : (r.length : Int) = 2 * half) (h1 : -half ≤ a) (h2 : a ≤ z + 1) (h3 : z + 1 ≤ half) : sliD (.list r) (some (a + half)) (some (z + half + 1)) = some (.list ((lk a (z + 1)).map (entA r half))) := by
  obtain ⟨k, hk⟩ := Int.eq_ofNat_of_zero_le (show 0 ≤ a + half by omega)
  obtain ⟨j, hj⟩ := Int.eq_ofNat_of_zero_le (show 0 ≤ z + half + 1 by omega)
  show some (PyData.list (cutD r (some (a + half)) (some (z + half + 1)))) = _
  unfold cutD
  rw [hk, hj, HT.sIx_nat, HT.sIx_nat, Nat.min_eq_left (show k ≤ r.length by omega), Nat.min_eq_left (show j ≤ r.length by omega)]
  refine congrArg (fun l => some (PyData.list l)) (List.ext_getElem ?_ fun i g1 g2 => ?_)
  · rw [List.length_take, List.length_drop, List.length_map, lk_len]
    omega
  · rw [List.length_take, List.length_drop] at g1
    rw [List.getElem_take, List.getElem_drop, List.getElem_map]
    have e : (lk a (z + 1))[i]'(by rw [List.length_map] at g2; exact g2) = a + (i : Int) := by
      unfold lk
      rw [List.getElem_map, List.getElem_range]
    rw [e]
    unfold entA
    rw [show (a + (i : Int) + half).toNat = k + i by omega, List.getD_eq_getElem?_getD, List.getElem?_eq_getElem (by omega)]; rfl
theorem for_sum {μ ρ : Type} {k : Int → D} {c : Int → Nat} {b : D → D → SM μ (Fl D D)} : ∀ (fs : List Int) (a : Int), (∀ f ∈ fs, ∀ a : Int, b (k f) (.int a) = pu (.nx (.int (a + (c f : Nat))))) → (forS (fs.map k) (.int a) b : SM μ (Fl D ρ)) = pu (.nx (.int (a + ((fs.map c).sum : Nat))))
  | [], a, _ => by
    show pu (Fl.nx (PyData.int a)) = _
    simp
  | f :: fs, a, h => by
    show bd (b (k f) (.int a)) _ = _
    rw [h f (.head _) a, pu_bd]
    show forS (fs.map k) (.int (a + (c f : Nat))) b = _
    rw [for_sum fs _ fun g hg => h g (.tail _ hg), List.map_cons, List.sum_cons]
    congr 3
    omega
theorem for_filterK {μ ρ : Type} {g : Int → Bool} {k : Int → D} {b : D → D → SM μ (Fl D D)} : ∀ (xs acc : List Int), (∀ f ∈ xs, ∀ ac : List Int, ac.length ≤ acc.length + xs.length → b (k f) (.list (ac.map .int)) = pu (.nx (.list ((if g f then ac ++ [f] else ac).map .int)))) →
    (forS (xs.map k) (.list (acc.map .int)) b : SM μ (Fl D ρ)) = pu (.nx (.list ((acc ++ xs.filter g).map .int)))
  | [], acc, _ => by rw [List.filter_nil, List.append_nil]; rfl
  | x :: xs, acc, h => by
    show bd (b (k x) (.list (acc.map .int))) _ = _
    rw [h x (.head _) acc (by omega), pu_bd]
    cases hg : g x with
    | true =>
      rw [if_pos rfl, List.filter_cons, if_pos hg, ← List.singleton_append (l := xs.filter g), ← List.append_assoc]
      exact for_filterK xs (acc ++ [x]) fun f hf ac hl => h f (.tail _ hf) ac (by rw [List.length_append, List.length_singleton] at hl; rw [List.length_cons]; omega)
    | false =>
      rw [if_neg (by decide), List.filter_cons, if_neg (by rw [hg]; decide)]
      exact for_filterK xs acc fun f hf ac hl => h f (.tail _ hf) ac (by rw [List.length_cons]; omega)
theorem for_firstK {μ ρ α : Type} {g : α → Option D} {k : α → D} {b : D → Unit → SM μ (Fl Unit Unit)} : ∀ (xs : List α), (∀ x ∈ xs, b (k x) () = match g x with | some d => pu (.rt d) | none => pu (.nx ())) →
    (forS (xs.map k) () b : SM μ (Fl Unit ρ)) = match xs.findSome? g with | some d => pu (.rt d) | none => pu (.nx ())
  | [], _ => rfl
  | x :: xs, h => by
    show bd (b (k x) ()) _ = _
    rw [h x (.head _), List.findSome?_cons]
    cases g x with
    | some d => rfl
    | none =>
      rw [pu_bd]
      exact for_firstK xs fun y hy => h y (.tail _ hy)
theorem sp_get {m first last f : Int} {A Z : Int → Int} (h1 : -m ≤ f) (h2 : f ≤ m) : idxD (.list (spansD m first last A Z)) (.int (f + m)) = some (t3 f (stF m first A f) (spF m last Z f)) := by
  obtain ⟨k, hk⟩ := Int.eq_ofNat_of_zero_le (show 0 ≤ f + m by omega)
  rw [hk]
  refine atI_nat ?_
  unfold spansD figs
  rw [List.map_map, List.getElem?_map, List.getElem?_range (by omega)]
  show some (t3 (-m + (k : Int)) (stF m first A (-m + (k : Int))) (spF m last Z (-m + (k : Int)))) = _
  rw [show -m + (k : Int) = f by omega]
theorem sp_first {m first last : Int} {A Z : Int → Int} (hm : 1 ≤ m) : idxD (.list (spansD m first last A Z)) (.int 0) = some (t3 (-m) first (spF m last Z (-m))) := by
  have := sp_get (m := m) (first := first) (last := last) (A := A) (Z := Z) (f := -m) (by omega) (by omega)
  rw [show -m + m = 0 by omega] at this
  rw [this]
  unfold stF
  rw [if_pos rfl]
theorem sp_last {m first last : Int} {A Z : Int → Int} (hm : 1 ≤ m) : idxD (.list (spansD m first last A Z)) (.int (-1)) = some (t3 m (stF m first A m) last) := by
  have h := sp_get (m := m) (first := first) (last := last) (A := A) (Z := Z) (f := m) (by omega) (by omega)
  have e : spF m last Z m = last := by unfold spF; rw [if_pos rfl]
  rw [e] at h
  rw [← h]
  have hl : (spansD m first last A Z).length = (2 * m + 1).toNat := by unfold spansD; rw [List.length_map, figs_ln]
  have e2 : ixN (spansD m first last A Z).length (-1) = some (2 * m).toNat := by
    unfold ixN
    rw [hl, if_neg (by omega), if_pos (by omega)]
    congr 1
    omega
  have e3 : ixN (spansD m first last A Z).length (m + m) = some (2 * m).toNat := by
    unfold ixN
    rw [hl, if_pos (by omega), if_pos (by omega)]
    congr 1
    omega
  show atI (spansD m first last A Z) (-1) = atI (spansD m first last A Z) (m + m)
  unfold atI
  rw [e2, e3]
theorem enL_map (k : Int → D) : ∀ (n : Nat) (a c : Int), enL a ((List.range n).map fun (i : Nat) => k (c + (i : Int))) = (List.range n).map fun (i : Nat) => .tuple [.int (a + (i : Int)), k (c + (i : Int))] := by
  have key : ∀ (n s : Nat) (a c : Int), enL (a + (s : Int)) ((List.range' s n).map fun (i : Nat) => k (c + (i : Int))) = (List.range' s n).map fun (i : Nat) => .tuple [.int (a + (i : Int)), k (c + (i : Int))] := by
    intro n
    induction n with
    | zero => intro s a c; rfl
    | succ n ih =>
      intro s a c
      rw [List.range'_succ, List.map_cons, List.map_cons]
      show PyData.tuple _ :: enL (a + s + 1) _ = _
      have := ih (s + 1) a c
      rw [show a + ((s + 1 : Nat) : Int) = a + s + 1 by omega] at this
      rw [this]
  intro n a c
  have := key n 0 a c
  rw [show a + ((0 : Nat) : Int) = a by omega, ← List.range_eq_range'] at this
  exact this
theorem enL_lk (k : Int → D) (a z : Int) : enL a ((lk a z).map k) = (lk a z).map fun l => .tuple [.int l, k l] := by
  unfold lk
  rw [List.map_map, List.map_map]
  exact enL_map k _ a a
theorem e_tops_of {b m : Int} {t p : Nat} (h : Lg b m t p) : m_tops_of (t2 t p) = pu (.list ((lk (MM t) (2 * (MM t : Nat))).map .int)) := by
  have hm := h.mb.2.1
  have t10 := h.t10
  have key : ∀ M : Nat, M ≤ 512 → lrg [.int (M : Int), .int (2 * (M : Int))] = some (.list ((lk M (2 * (M : Int))).map .int)) := fun M h => by
    rw [d_lrg (by omega)]; rfl
  have km : ∀ M : Nat, M ≤ 512 → mulD (.int 2) (.int (M : Int)) = some (.int (2 * (M : Int))) := fun M h => d_mul (fit_sz (n := 2) (by omega)) (fit_of (n := 10) (by omega) (by omega))
  unfold m_tops_of
  walk_at "ev"
  rw [e_first_top h.t1 (by omega)]
  walk_at "ev"
  rw [km _ hm, r_of, r_ac, r_ac, r_opL, key _ hm, r_of, r_bd]
def optD : Option D → D
  | some d => d
  | none => .none
def tabD (t : Nat) (R : Nat → List D) : D := .list ((List.range (MM t)).map fun i => .list (R i))
theorem zip2_map (k g : Nat → D) : ∀ (n : Nat), zip2L ((List.range n).map k) ((List.range n).map g) = (List.range n).map fun i => .tuple [k i, g i] := by
  have key : ∀ (l : List Nat), zip2L (l.map k) (l.map g) = l.map fun i => .tuple [k i, g i] := by
    intro l
    induction l with
    | nil => rfl
    | cons a l ih => rw [List.map_cons, List.map_cons, List.map_cons, ← ih]; rfl
  intro n
  exact key _
theorem head_ix {ls : List Int} {l : Int} (h : ls.head? = some l) : idxD (.list (ls.map .int)) (.int 0) = some (.int l) := by
  cases ls with
  | nil => cases h
  | cons a r => cases h; exact d_ixl0 _ _
theorem rep1 (x : D) (n : Nat) : (List.replicate n [x]).flatten = List.replicate n x := by
  induction n with
  | zero => rfl
  | succ n ih => rw [List.replicate_succ, List.flatten_cons, ih]; rfl
theorem mul_rep {x : D} {k : Int} (h1 : -1000000 ≤ k) (h2 : k ≤ 1000000) : mulD (.list [x]) (.int k) = some (.list (List.replicate k.toNat x)) := by
  have h : -(2 ^ 63) ≤ k ∧ k < 2 ^ 63 ∧ [x].length * k.toNat ≤ sizeLine := ⟨by omega, by omega, line_le (by rw [List.length_singleton]; omega)⟩
  show (if _ then some (PyData.list (List.replicate k.toNat [x]).flatten) else none) = _
  rw [if_pos h, rep1]
theorem rep_rep {x : D} {k : Int} (h1 : -1000000 ≤ k) (h2 : k ≤ 1000000) : repD (.list [x]) (.int k) = some (.list (List.replicate k.toNat x)) := by
  have h : -(2 ^ 63) ≤ k ∧ k < 2 ^ 63 ∧ [x].length * k.toNat ≤ sizeLine := ⟨by omega, by omega, line_le (by rw [List.length_singleton]; omega)⟩
  show (if _ then some (PyData.list (List.replicate k.toNat [x]).flatten) else none) = _
  rw [if_pos h, rep1]
theorem ext_ok {ds es : List D} (h : ds.length + es.length ≤ 1000000) : extD (.list ds) (.list es) = some (.list (ds ++ es)) := if_pos (line_le h)
/-- where a figure's stretch ends in a plain row -/
def endF (S P : Int → Int) (f : Int) : Int := if f < 0 then S (f + 1) - 1 else P f
structure PlR (m first half : Int) (S P : Int → Int) (row : List D) : Prop where
  ent : ∀ x ∈ row, entB m x = true
  at_ : ∀ k : Nat, first + half ≤ (k : Int) → k < row.length → ∃ f : Int, -m ≤ f ∧ f ≤ m ∧ S f ≤ (k : Int) - half ∧ (k : Int) - half ≤ P f ∧ row[k]? = some (.int f)
theorem PlR.grow {m first half : Int} {S P : Int → Int} {row : List D} {f : Int} {c : Nat} (h : PlR m first half S P row) (f1 : -m ≤ f) (f2 : f ≤ m) (hl : ∀ k : Nat, row.length ≤ k → k < row.length + c → S f ≤ (k : Int) - half ∧ (k : Int) - half ≤ P f) : PlR m first half S P (row ++ List.replicate c (.int f)) := by
  refine ⟨fun x hx => ?_, fun k h1 h2 => ?_⟩
  · rcases List.mem_append.mp hx with e | e
    · exact h.ent x e
    · rw [(List.mem_replicate.mp e).2]
      show (false || (decide (-m ≤ f) && decide (f ≤ m))) = true
      rw [decide_eq_true f1, decide_eq_true f2]; rfl
  · rw [List.length_append, List.length_replicate] at h2
    by_cases z : k < row.length
    · obtain ⟨g, g1, g2, g3, g4, g5⟩ := h.at_ k h1 z
      exact ⟨g, g1, g2, g3, g4, by rw [List.getElem?_append_left z]; exact g5⟩
    · obtain ⟨q1, q2⟩ := hl k (by omega) h2
      refine ⟨f, f1, f2, q1, q2, ?_⟩
      rw [List.getElem?_append_right (by omega), List.getElem?_replicate, if_pos (by omega)]
theorem t2_lay (a c : Int) : Lay 1 (t2 a c) := lay_tup (n := 0) fun x hx => by
  simp only [List.mem_cons, List.not_mem_nil, or_false] at hx
  rcases hx with e | e <;> rw [e] <;> exact lay_int _
theorem ok_of1 {μ α β : Type} {a : α} {f : α → SM μ β} {m : μ} {P : β → μ → Prop} (h : Ok (f a) m P) : Ok (bd (of (some a)) f) m P := ok_bd ⟨_, _, rfl, h⟩
theorem minA_mem : ∀ {l : List Int} {y : Int}, minA l = some y → y ∈ l
  | [], y, h => by cases h
  | a :: r, y, h => by
    unfold minA at h
    split at h
    · cases h; exact .head _
    · next z hz =>
      split at h
      · cases h; exact .head _
      · cases h; exact .tail _ (minA_mem hz)
theorem d_minA {ns : List Int} (h : ns ≠ []) : ∃ k, k ∈ ns ∧ minAD [.list (ns.map .int)] = some (.int k) := by
  obtain ⟨k, hk⟩ := minA_some (ns := ns) (by cases ns with | nil => exact absurd rfl h | cons a r => simp)
  refine ⟨k, minA_mem hk, ?_⟩
  show (match intsOf (ns.map PyData.int) with | some ns => (minA ns).map PyData.int | none => none) = _
  rw [intsOf_of]
  show (minA ns).map PyData.int = _
  rw [hk]; rfl
theorem ix_ints {ns : List Int} {v : Int} (h0 : 0 ≤ v) (h1 : v < ns.length) : ∃ k, k ∈ ns ∧ idxD (.list (ns.map .int)) (.int v) = some (.int k) := by
  obtain ⟨y, hy, e⟩ := ix_some (xs := ns.map PyData.int) h0 (by rw [List.length_map]; exact h1)
  obtain ⟨k, hk, rfl⟩ := List.mem_map.mp hy
  exact ⟨k, hk, e⟩
theorem ix_last {ns : List Int} (h : ns ≠ []) : ∃ k, k ∈ ns ∧ idxD (.list (ns.map .int)) (.int (-1)) = some (.int k) := by
  have hl : 0 < ns.length := by cases ns with | nil => exact absurd rfl h | cons a r => simp
  refine ⟨ns[ns.length - 1], List.getElem_mem _, ?_⟩
  have e2 : ixN (ns.map PyData.int).length (-1) = some (ns.length - 1) := by
    unfold ixN
    rw [List.length_map, if_neg (by omega), if_pos (by omega)]
    congr 1
    omega
  show atI (ns.map PyData.int) (-1) = _
  unfold atI
  rw [e2]
  show (ns.map PyData.int)[ns.length - 1]? = _
  rw [List.getElem?_map, List.getElem?_eq_getElem (by omega)]; rfl
theorem entB_int {m f : Int} (h1 : -m ≤ f) (h2 : f ≤ m) : entB m (.int f) = true := by
  show (false || (decide (-m ≤ f) && decide (f ≤ m))) = true
  rw [decide_eq_true h1, decide_eq_true h2]; rfl
/-- rows as a table -/
theorem tab_of {m : Int} {t N : Nat} {rows : List D} (h1 : rows.length = MM t) (h2 : ∀ y ∈ rows, ∃ r, y = .list r ∧ RowE m N r) : ∃ R : Nat → List D, PyData.list rows = tabD t R ∧ ∀ i, i < MM t → RowE m N (R i) := by
  refine ⟨fun i => match rows[i]? with | some (.list r) => r | _ => [], ?_, fun i hi => ?_⟩
  · unfold tabD
    rw [← h1]
    refine congrArg PyData.list (List.ext_getElem (by simp) fun i g1 g2 => ?_)
    rw [List.getElem_map, List.getElem_range]
    obtain ⟨r, e, _⟩ := h2 _ (List.getElem_mem g1)
    show rows[i] = PyData.list (match rows[i]? with | some (.list r) => r | _ => [])
    rw [List.getElem?_eq_getElem g1, e]
  · have g1 : i < rows.length := by omega
    obtain ⟨r, e, hr⟩ := h2 _ (List.getElem_mem g1)
    show RowE m N (match rows[i]? with | some (.list r) => r | _ => [])
    rw [List.getElem?_eq_getElem g1, e]
    exact hr
theorem tab_rows {m : Int} {t N : Nat} {R : Nat → List D} (h : ∀ i, i < MM t → RowE m N (R i)) : ∃ rows : List D, tabD t R = .list rows ∧ rows.length = MM t ∧ ∀ y ∈ rows, ∃ r, y = .list r ∧ RowE m N r := by
  refine ⟨_, rfl, by simp, fun y hy => ?_⟩
  obtain ⟨i, hi, rfl⟩ := List.mem_map.mp hy
  exact ⟨_, rfl, h i (List.mem_range.mp hi)⟩
theorem rowE_lay {m : Int} {N : Nat} {r : List D} (h : RowE m N r) : Lay 1 (.list r) := lay_list (n := 0) fun x hx => by
  rcases entB_cases (h.ent x hx) with e | ⟨f, e, _⟩ <;> rw [e]
  · exact lay_none
  · exact lay_int _
theorem tab_lay {m : Int} {t N : Nat} {R : Nat → List D} (h : ∀ i, i < MM t → RowE m N (R i)) : Lay 2 (tabD t R) := lay_list (n := 1) fun y hy => by
  obtain ⟨i, hi, rfl⟩ := List.mem_map.mp hy
  exact rowE_lay (h i (List.mem_range.mp hi))
theorem shlMM {t : Nat} (h1 : 1 ≤ t) (h : t ≤ 10) : shlD (.int 1) (.int ((t : Int) - 1)) = some (.int ((MM t : Nat) : Int)) := by
  rw [show (t : Int) - 1 = ((t - 1 : Nat) : Int) by omega, d_shl (fit_sz (n := 1) (by omega)) (by omega), Int.one_mul, mm_cast]
theorem shlM2 {t : Nat} (h1 : 1 ≤ t) (h : t ≤ 10) : shlD (.int 1) (.int (t : Int)) = some (.int (2 * (MM t : Nat))) := by
  rw [d_shl (fit_sz (n := 1) (by omega)) (by omega), Int.one_mul]
  have : (2 : Int) ^ t = 2 * ((MM t : Nat) : Int) := by
    rw [mm_cast, Int.mul_comm, ← Int.pow_succ]
    congr 1
    omega
  rw [this]
theorem rngMM {M : Nat} (h : M ≤ 512) : rngD [.int (M : Int), .int (2 * (M : Int))] = some (rgL M (2 * M)) := d_rng2 (by omega) (by omega) (by omega) (by omega)
theorem rngHH {h : Int} (h1 : 0 ≤ h) (h2 : h ≤ 16386) : rngD [.int (0 - h), .int h] = some (rgL (0 - h) h) := d_rng2 (by omega) (by omega) (by omega) (by omega)
theorem rgL_get2 {a b : Int} {i : Nat} {x : D} (h : (rgL a b)[i]? = some x) : (i : Int) < b - a ∧ x = .int (a + (i : Int)) := by
  unfold rgL at h
  rw [List.getElem?_map] at h
  cases e : (List.range (b - a).toNat)[i]? with
  | none => rw [e] at h; cases h
  | some k =>
    rw [e] at h
    cases h
    rw [List.getElem?_eq_some_iff] at e
    obtain ⟨h1, h2⟩ := e
    rw [List.length_range] at h1
    rw [List.getElem_range] at h2
    subst h2
    exact ⟨by omega, rfl⟩
section
variable {b m s : Int} {t p : Nat}
theorem lc_ints2 {μ : Type} {T : D → SM μ Bool} {E : D → SM μ D} {g : Int → D} (k : Int → D) : ∀ (ls : List Int) (acc : List D), (∀ l ∈ ls, T (k l) = pu true) → (∀ l ∈ ls, E (k l) = pu (g l)) → acc.length + ls.length ≤ 1000000 → lcS T E (ls.map k) acc = pu (acc ++ ls.map g)
  | [], acc, _, _, _ => by rw [List.map_nil, List.map_nil, List.append_nil]; rfl
  | l :: ls, acc, hT, hE, hl => by
    rw [List.length_cons] at hl
    show bd (T (k l)) _ = _
    rw [hT l (.head _), pu_bd, if_pos rfl, hE l (.head _), pu_bd, if_pos (Nat.lt_of_lt_of_le (show acc.length < 1000000 by omega) (by decide)), lc_ints2 k ls _ (fun a ha => hT a (.tail _ ha)) (fun a ha => hE a (.tail _ ha)) (by rw [List.length_append, List.length_singleton]; omega), List.append_assoc]
    rfl
end
theorem lk_cons {a b : Int} (h : a < b) : lk a b = a :: lk (a + 1) b := by
  rw [lk_app (a := a) (b := a + 1) (c := b) (by omega) (by omega)]
  have : lk a (a + 1) = [a] := by
    unfold lk
    rw [show (a + 1 - a).toNat = 1 by omega]
    show [a + ((0 : Nat) : Int)] = [a]
    rw [show a + ((0 : Nat) : Int) = a by omega]
  rw [this]; rfl
theorem forS_nx {μ τ ρ : Type} {xs : List D} {x : D} {s s' : τ} {b : D → τ → SM μ (Fl τ τ)} (h : b x s = pu (.nx s')) : (forS (x :: xs) s b : SM μ (Fl τ ρ)) = forS xs s' b := by
  show bd (b x s) _ = _
  rw [h]; rfl
theorem forS_rt {μ τ ρ : Type} {xs : List D} {x d : D} {s : τ} {b : D → τ → SM μ (Fl τ τ)} (h : b x s = pu (.rt d)) : (forS (x :: xs) s b : SM μ (Fl τ ρ)) = pu (.rt d) := by
  show bd (b x s) _ = _
  rw [h]; rfl
theorem bare_for {μ ρ : Type} {m first last : Int} {S P : Int → Int} {b : D → D → SM μ (Fl D D)} (hm : 1 ≤ m) (hb : ∀ f r, -m ≤ f → f ≤ m → b (t3 f (S f) (P f)) (.int r) = if r + 1 < S f then pu (.rt (.int (r + 1))) else pu (.nx (.int (if P f > r then P f else r))))
    (mono : ∀ f g, -m ≤ f → f ≤ g → g ≤ m → S f ≤ S g) (hS : S m ≤ last + 1) (hPm : P m = last) (hP : ∀ f, -m ≤ f → f ≤ m → P f ≤ last) : ∀ (k : Nat) (f r : Int), f + (k : Int) = m + 1 → -m ≤ f → first - 1 ≤ r → r ≤ last → (∀ g, -m ≤ g → g < f → P g ≤ r) → (∀ l, first ≤ l → l ≤ r → ∃ g, -m ≤ g ∧ g ≤ m ∧ S g ≤ l ∧ l ≤ P g) →
    (∃ r', (∀ l, first ≤ l → l ≤ last → ∃ g, -m ≤ g ∧ g ≤ m ∧ S g ≤ l ∧ l ≤ P g) ∧ (forS ((lk f (m + 1)).map fun f => t3 f (S f) (P f)) (.int r) b : SM μ (Fl D ρ)) = pu (.nx (.int r'))) ∨
    (∃ l, first ≤ l ∧ l ≤ last ∧ (∀ g, -m ≤ g → g ≤ m → ¬ (S g ≤ l ∧ l ≤ P g)) ∧ (∀ l', first ≤ l' → l' < l → ∃ g, -m ≤ g ∧ g ≤ m ∧ S g ≤ l' ∧ l' ≤ P g) ∧ (forS ((lk f (m + 1)).map fun f => t3 f (S f) (P f)) (.int r) b : SM μ (Fl D ρ)) = pu (.rt (.int l)))
  | 0, f, r, hk, f1, r1, r2, hg, hc => by
    refine .inl ⟨r, fun l l1 l2 => hc l l1 ?_, ?_⟩
    · have := hg m (by omega) (by omega)
      omega
    · rw [lk_nil (by omega)]; rfl
  | k + 1, f, r, hk, f1, r1, r2, hg, hc => by
    rw [lk_cons (by omega), List.map_cons]
    have e := hb f r f1 (by omega)
    have p1 := hP f f1 (by omega)
    have s1 := mono f m f1 (by omega) (Int.le_refl m)
    by_cases c : r + 1 < S f
    · rw [if_pos c] at e
      rw [forS_rt e]
      refine .inr ⟨r + 1, by omega, by omega, fun g g1 g2 h => ?_, fun l' l1 l2 => hc l' l1 (by omega), rfl⟩
      by_cases z : g < f
      · have := hg g g1 z
        omega
      · have := mono f g f1 (by omega) g2
        omega
    · rw [if_neg c] at e
      rw [forS_nx e]
      exact bare_for hm hb mono hS hPm hP k (f + 1) _ (by omega) (by omega) (by split <;> omega) (by split <;> omega) (fun g g1 g2 => by
        by_cases z : g = f
        · subst z; split <;> omega
        · have := hg g g1 (by omega)
          split <;> omega) (fun l l1 l2 => by
        by_cases z : l ≤ r
        · exact hc l l1 z
        · refine ⟨f, f1, by omega, by omega, ?_⟩
          split at l2 <;> omega)
section
variable {b m s u : Int} {t p : Nat}
def optI : Option Int → D
  | some l => .int l
  | none => .none
end
structure PlX (m first half : Int) (S P : Int → Int) (row : List D) : Prop where
  ent : ∀ x ∈ row, entB m x = true
  pre : ∀ k : Nat, (k : Int) < first + half → k < row.length → row[k]? = some .none
  at_ : ∀ k : Nat, first + half ≤ (k : Int) → k < row.length → ∃ f : Int, -m ≤ f ∧ f ≤ m ∧ S f ≤ (k : Int) - half ∧ (k : Int) - half ≤ P f ∧ (0 < f → P (f - 1) < (k : Int) - half) ∧ (f < 0 → (k : Int) - half < S (f + 1)) ∧ row[k]? = some (.int f)
theorem PlX.grow {m first half : Int} {S P : Int → Int} {row : List D} {f : Int} {c : Nat} (h : PlX m first half S P row) (h0 : first + half ≤ (row.length : Int)) (f1 : -m ≤ f) (f2 : f ≤ m) (hl : ∀ k : Nat, row.length ≤ k → k < row.length + c → S f ≤ (k : Int) - half ∧ (k : Int) - half ≤ P f ∧ (0 < f → P (f - 1) < (k : Int) - half) ∧ (f < 0 → (k : Int) - half < S (f + 1))) : PlX m first half S P (row ++ List.replicate c (.int f)) := by
  refine ⟨fun x hx => ?_, fun k h1 h2 => ?_, fun k h1 h2 => ?_⟩
  · rcases List.mem_append.mp hx with e | e
    · exact h.ent x e
    · rw [(List.mem_replicate.mp e).2]
      show (false || (decide (-m ≤ f) && decide (f ≤ m))) = true
      rw [decide_eq_true f1, decide_eq_true f2]; rfl
  · rw [List.getElem?_append_left (by omega)]
    exact h.pre k h1 (by omega)
  · rw [List.length_append, List.length_replicate] at h2
    by_cases z : k < row.length
    · obtain ⟨g, g1, g2, g3, g4, g5, g6, g7⟩ := h.at_ k h1 z
      exact ⟨g, g1, g2, g3, g4, g5, g6, by rw [List.getElem?_append_left z]; exact g7⟩
    · obtain ⟨q1, q2, q3, q4⟩ := hl k (by omega) h2
      refine ⟨f, f1, f2, q1, q2, q3, q4, ?_⟩
      rw [List.getElem?_append_right (by omega), List.getElem?_replicate, if_pos (by omega)]
theorem e_plain_rowX {m first last half : Int} {A Z : Int → Int} (hm : 1 ≤ m ∧ m ≤ 15) (h1 : -half ≤ first) (h2 : last ≤ half - 1) (hh : half ≤ 20000) (h3 : first ≤ last + 1) (hg : ∀ f, -m ≤ f → f < m → stF m first A (f + 1) ≤ spF m last Z f + 1) (hP : ∀ f, -m ≤ f → f ≤ m → spF m last Z f ≤ last) (hQ : ∀ f, -m ≤ f → f ≤ m → first ≤ stF m first A f) :
    ∃ r : List D, m_plain_row (.int half) (.list (spansD m first last A Z)) = pu (.list r) ∧ r.length = (2 * half).toNat ∧ (∀ k : Nat, k < r.length → ¬ (first + half ≤ (k : Int) ∧ (k : Int) ≤ last + half) → r[k]? = some .none) ∧ ∀ k : Nat, first + half ≤ (k : Int) → (k : Int) ≤ last + half → ∃ f : Int, -m ≤ f ∧ f ≤ m ∧ stF m first A f ≤ (k : Int) - half ∧ (k : Int) - half ≤ spF m last Z f ∧ (0 < f → spF m last Z (f - 1) < (k : Int) - half) ∧ (f < 0 → (k : Int) - half < stF m first A (f + 1)) ∧ r[k]? = some (.int f) := by
  have key : Ok (m_plain_row (.int half) (.list (spansD m first last A Z))) () fun y _ => ∃ r : List D, y = .list r ∧ r.length = (2 * half).toNat ∧ (∀ k : Nat, k < r.length → ¬ (first + half ≤ (k : Int) ∧ (k : Int) ≤ last + half) → r[k]? = some .none) ∧ ∀ k : Nat, first + half ≤ (k : Int) → (k : Int) ≤ last + half → ∃ f : Int, -m ≤ f ∧ f ≤ m ∧ stF m first A f ≤ (k : Int) - half ∧ (k : Int) - half ≤ spF m last Z f ∧ (0 < f → spF m last Z (f - 1) < (k : Int) - half) ∧ (f < 0 → (k : Int) - half < stF m first A (f + 1)) ∧ r[k]? = some (.int f) := by
    unfold m_plain_row
    refine ok_fin ?_
    have e0 := sp_get (m := m) (first := first) (last := last) (A := A) (Z := Z) (f := -m) (by omega) (by omega)
    rw [show -m + m = 0 by omega] at e0
    have eS : stF m first A (-m) = first := by unfold stF; rw [if_pos rfl]
    have ePm : spF m last Z m = last := by unfold spF; rw [if_pos rfl]
    have een : enD [.list (spansD m first last A Z)] = some ((List.range (2 * m + 1).toNat).map fun (i : Nat) => .tuple [.int (0 + (i : Int)), t3 (-m + (i : Int)) (stF m first A (-m + (i : Int))) (spF m last Z (-m + (i : Int)))]) := by
      show some (enL 0 (spansD m first last A Z)) = _
      unfold spansD figs
      rw [List.map_map]
      exact congrArg some (enL_map (fun f => t3 f (stF m first A f) (spF m last Z f)) (2 * m + 1).toNat 0 (-m))
    rw [eS] at e0
    generalize hS : stF m first A = S at *
    generalize hPP : spF m last Z = P at *
    walk_at "ev"
    rw [e0]
    walk_at "ev"
    rw [rep_rep (by omega) (by omega), r_of, r_bd, r_itE, een, r_of, r_bd]
    refine ok_sq ((ok_for (fun i (s : D) _ => ∃ row, s = .list row ∧ first + half ≤ (row.length : Int) ∧ (row.length : Int) ≤ last + 1 + half ∧ PlX m first half S P row ∧ (0 < i → endF S P (-m + (i : Int) - 1) + 1 + half ≤ (row.length : Int))) ⟨_, rfl, by rw [List.length_replicate]; omega, by rw [List.length_replicate]; omega, ⟨fun x hx => by rw [(List.mem_replicate.mp hx).2]; rfl, fun k k1 k2 => by rw [List.length_replicate] at k2; rw [List.getElem?_replicate, if_pos k2], fun k k1 k2 => by rw [List.length_replicate] at k2; omega⟩, fun z => absurd z (by decide)⟩ ?_).mono ?_)
    · as_aux_lemma =>
        rintro i y _ u hy ⟨row, rfl, l1, l2, pr, l3⟩
        rw [List.getElem?_map] at hy
        obtain ⟨hi, rfl⟩ : i < (2 * m + 1).toNat ∧ y = .tuple [.int (0 + (i : Int)), t3 (-m + (i : Int)) (S (-m + (i : Int))) (P (-m + (i : Int)))] := by
          cases e : (List.range (2 * m + 1).toNat)[i]? with
          | none => rw [e] at hy; cases hy
          | some k =>
            rw [e] at hy
            cases hy
            obtain ⟨q1, q2⟩ := List.getElem?_eq_some_iff.mp e
            rw [List.length_range] at q1
            rw [List.getElem_range] at q2
            subst q2
            exact ⟨q1, rfl⟩
        obtain ⟨f, ef⟩ : ∃ f : Int, f = -m + (i : Int) := ⟨_, rfl⟩
        rw [← ef]
        have f1 : -m ≤ f := by omega
        have f2 : f ≤ m := by omega
        have hPf := hP f f1 f2
        have hend : endF S P f ≤ last := by
          unfold endF
          split
          · have := hg f f1 (by omega); omega
          · exact hPf
        have hendP : endF S P f ≤ P f := by
          unfold endF
          split
          · have := hg f f1 (by omega); omega
          · omega
        have hend0 : first - 1 ≤ endF S P f := by
          unfold endF
          split
          · have := hQ (f + 1) (by omega) (by omega); omega
          · by_cases z : f = m
            · rw [z, ePm]; omega
            · have := hg f f1 (by omega)
              have := hQ (f + 1) (by omega) (by omega)
              omega
        have fin : ∀ E : Int, E = endF S P f → Ok (bd (of (mulD (.list [.int f]) (.int (E + 1 + half - (row.length : Int))))) fun x => bd (of (extD (.list row) x)) fun row1 => (pu (.nx row1) : SM Unit (Fl D D))) u fun o m' => ∃ s', (o = Fl.nx s' ∨ o = Fl.ct s') ∧ ∃ row, s' = .list row ∧ first + half ≤ (row.length : Int) ∧ (row.length : Int) ≤ last + 1 + half ∧ PlX m first half S P row ∧ (0 < i + 1 → endF S P (-m + ((i + 1 : Nat) : Int) - 1) + 1 + half ≤ (row.length : Int)) := by
          intro E hE
          have hE1 : E ≤ last := by omega
          · rw [mul_rep (by omega) (by omega), r_of, r_bd, ext_ok (by rw [List.length_replicate]; omega), r_of, r_bd]
            refine ok_pu ⟨_, .inl rfl, _, rfl, ?_, ?_, pr.grow l1 f1 f2 fun k k1 k2 => ?_, fun _ => ?_⟩
            · rw [List.length_append, List.length_replicate]; omega
            · rw [List.length_append, List.length_replicate]; omega
            · refine ⟨?_, by omega, fun fp => ?_, fun fn => ?_⟩
              · by_cases z : i = 0
                · have : f = -m := by omega
                  rw [this, eS]; omega
                · have q := l3 (by omega)
                  rw [show -m + (i : Int) - 1 = f - 1 by omega] at q
                  unfold endF at q
                  split at q
                  · rw [show f - 1 + 1 = f by omega] at q; omega
                  · have := hg (f - 1) (by omega) (by omega)
                    rw [show f - 1 + 1 = f by omega] at this
                    omega
              · have q := l3 (by omega)
                rw [show -m + (i : Int) - 1 = f - 1 by omega] at q
                unfold endF at q
                rw [if_neg (by omega)] at q
                omega
              · unfold endF at hE
                rw [if_pos fn] at hE
                omega
            · rw [show -m + ((i + 1 : Nat) : Int) - 1 = f by omega, List.length_append, List.length_replicate, ← hE]
              omega
        walk_at "ev"
        by_cases c : f < 0
        · rw [decide_eq_true c]
          have e1 := sp_get (m := m) (first := first) (last := last) (A := A) (Z := Z) (f := f + 1) (by omega) (by omega)
          rw [hS, hPP, show f + 1 + m = 0 + (i : Int) + 1 by omega] at e1
          walk_at "ev"
          rw [e1]
          walk_at "ev"
          exact fin _ (by unfold endF; rw [if_pos c])
        · rw [decide_eq_false c]
          walk_at "ev"
          exact fin _ (by unfold endF; rw [if_neg c])
    · as_aux_lemma =>
        rintro _ u ⟨s, rfl, row, rfl, l1, l2, pr, l3⟩
        rw [List.length_map, List.length_range] at l3
        have l4 := l3 (by omega)
        rw [show -m + (((2 * m + 1).toNat : Nat) : Int) - 1 = m by omega] at l4
        unfold endF at l4
        rw [if_neg (by omega), ePm] at l4
        refine ⟨_, rfl, ?_⟩
        walk_at "ev"
        rw [d_mul (fit_of (n := 2) (by omega) (by omega)) (fit_of (n := 20) (by omega) (by omega))]
        walk_at "ev"
        rw [mul_rep (by omega) (by omega)]
        walk_at "ev"
        rw [ext_ok (by rw [List.length_replicate]; omega)]
        walk_at "ev"
        refine ok_pu ⟨_, .inl rfl, _, rfl, by rw [List.length_append, List.length_replicate]; omega, fun k q1 q2 => ?_, fun k q1 q2 => ?_⟩
        · rw [List.length_append, List.length_replicate] at q1
          by_cases c : k < row.length
          · rw [List.getElem?_append_left c]
            exact pr.pre k (by omega) c
          · rw [List.getElem?_append_right (by omega), List.getElem?_replicate, if_pos (by omega)]
        · obtain ⟨f, g1, g2, g3, g4, g5, g6, g7⟩ := pr.at_ k q1 (by omega)
          refine ⟨f, g1, g2, g3, g4, g5, g6, ?_⟩
          rw [List.getElem?_append_left (by omega)]
          exact g7
  obtain ⟨y, u, e, r, rfl, h⟩ := key
  exact ⟨r, by funext v; exact e, h⟩
structure V3 where
  x : Int
  y : Int
  w : Int
def vl (a b c : Int) (v : V3) : Int := a * v.x + b * v.y + c * v.w
def avI (a : Int) : Int := if 0 ≤ a then a else 0 - a
def mixV (a b c : Int) (p q : V3) : V3 := ⟨avI (vl a b c q) * p.x + avI (vl a b c p) * q.x, avI (vl a b c q) * p.y + avI (vl a b c p) * q.y, avI (vl a b c q) * p.w + avI (vl a b c p) * q.w⟩
def crsB (a b c : Int) (p q : V3) : Bool := (decide (vl a b c p < 0) && decide (0 ≤ vl a b c q) && decide (0 < vl a b c q)) || (decide (vl a b c q < 0) && decide (0 < vl a b c p))
def cutF (a b c : Int) (p q : V3) : List V3 := (if crsB a b c p q = true then [mixV a b c p q] else []) ++ (if 0 ≤ vl a b c q then [q] else [])
/-- the place ahead, round the ring -/
def prv (n i : Nat) : Nat := if i = 0 then n - 1 else i - 1
def cutN (a b c : Int) (n : Nat) (r : Nat → V3) (i : Nat) : List V3 := (List.range i).flatMap fun k => cutF a b c (r (prv n k)) (r k)
def v0 : V3 := ⟨0, 0, 0⟩
def atV (ring : List V3) (i : Nat) : V3 := (ring[i]?).getD v0
def cutL (a b c : Int) (ring : List V3) : List V3 := cutN a b c ring.length (atV ring) ring.length
theorem cutN_succ (a b c : Int) (n : Nat) (r : Nat → V3) (i : Nat) : cutN a b c n r (i + 1) = cutN a b c n r i ++ cutF a b c (r (prv n i)) (r i) := by
  unfold cutN
  rw [List.range_succ, List.flatMap_append]; simp
theorem atV_mem {ring : List V3} {i : Nat} (h : i < ring.length) : atV ring i ∈ ring := by
  unfold atV
  rw [List.getElem?_eq_getElem h]
  exact List.getElem_mem h
theorem mem_atV {ring : List V3} {v : V3} (h : v ∈ ring) : ∃ i, i < ring.length ∧ atV ring i = v := by
  obtain ⟨i, hi, e⟩ := List.getElem_of_mem h
  exact ⟨i, hi, by unfold atV; rw [List.getElem?_eq_getElem hi]; exact e⟩
theorem prv_lt {n i : Nat} (h : i < n) : prv n i < n := by unfold prv; split <;> omega
theorem mem_cut {a b c : Int} {ring : List V3} {v : V3} : v ∈ cutL a b c ring ↔ ∃ k, k < ring.length ∧ v ∈ cutF a b c (atV ring (prv ring.length k)) (atV ring k) := by
  unfold cutL cutN
  rw [List.mem_flatMap]
  constructor
  · rintro ⟨k, hk, h⟩; exact ⟨k, List.mem_range.mp hk, h⟩
  · rintro ⟨k, hk, h⟩; exact ⟨k, List.mem_range.mpr hk, h⟩
/-- what is on the right side stays -/
theorem cut_keep {a b c : Int} {ring : List V3} {v : V3} (h : v ∈ ring) (hv : 0 ≤ vl a b c v) : v ∈ cutL a b c ring := by
  obtain ⟨i, hi, e⟩ := mem_atV h
  refine mem_cut.mpr ⟨i, hi, ?_⟩
  rw [e]
  unfold cutF
  rw [if_pos hv]
  exact List.mem_append.mpr (.inr (.head _))
theorem avI_pos {a : Int} (h : a ≠ 0) : 0 < avI a := by unfold avI; split <;> omega
theorem crs_pos {a b c : Int} {p q : V3} (h : crsB a b c p q = true) : 0 < avI (vl a b c p) ∧ 0 < avI (vl a b c q) ∧ ((vl a b c p < 0 ∧ 0 < vl a b c q) ∨ (vl a b c q < 0 ∧ 0 < vl a b c p)) := by
  unfold crsB at h
  simp only [Bool.or_eq_true, Bool.and_eq_true, decide_eq_true_iff] at h
  refine ⟨avI_pos (by omega), avI_pos (by omega), ?_⟩
  omega
/-- a thing that holds of all that lies between -/
theorem cut_all {a b c : Int} {ring : List V3} {P : V3 → Prop} (hP : ∀ v ∈ ring, P v) (hm : ∀ p q : V3, P p → P q → ∀ s t : Int, 0 < s → 0 < t → P ⟨s * p.x + t * q.x, s * p.y + t * q.y, s * p.w + t * q.w⟩) : ∀ v ∈ cutL a b c ring, P v := by
  intro v hv
  obtain ⟨k, hk, h⟩ := mem_cut.mp hv
  have h1 := hP _ (atV_mem hk)
  have h2 := hP _ (atV_mem (prv_lt hk))
  unfold cutF at h
  rcases List.mem_append.mp h with h | h
  · split at h
    · next e =>
      obtain ⟨q1, q2, _⟩ := crs_pos e
      rw [List.mem_singleton.mp h]
      exact hm _ _ h2 h1 _ _ q2 q1
    · cases h
  · split at h
    · rw [List.mem_singleton.mp h]; exact h1
    · cases h
/-- nothing is left where all is on the wrong side -/
theorem cut_nil {a b c : Int} {ring : List V3} (h : ∀ v ∈ ring, vl a b c v < 0) : cutL a b c ring = [] := by
  refine List.eq_nil_iff_forall_not_mem.mpr fun v hv => ?_
  obtain ⟨k, hk, hm⟩ := mem_cut.mp hv
  have h1 := h _ (atV_mem hk)
  have h2 := h _ (atV_mem (prv_lt hk))
  unfold cutF at hm
  rcases List.mem_append.mp hm with e | e
  · split at e
    · next z =>
      obtain ⟨_, _, z⟩ := crs_pos z
      omega
    · cases e
  · rw [if_neg (by omega)] at e
    cases e
theorem cut_some {a b c : Int} {ring : List V3} (h : cutL a b c ring ≠ []) : ∃ v ∈ ring, 0 ≤ vl a b c v := by
  refine Classical.byContradiction fun n => h (cut_nil fun v hv => ?_)
  exact Int.not_le.mp fun z => n ⟨v, hv, z⟩
/-- of a ring with both sides something lies on the line -/
theorem cut_zero {a b c : Int} {ring : List V3} (h1 : ∃ v ∈ ring, vl a b c v < 0) (h2 : ∃ v ∈ ring, 0 ≤ vl a b c v) : ∃ v ∈ cutL a b c ring, vl a b c v = 0 := by
  obtain ⟨v1, m1, n1⟩ := h1
  obtain ⟨v2, m2, n2⟩ := h2
  obtain ⟨i, hi, e1⟩ := mem_atV m1
  obtain ⟨j, hj, e2⟩ := mem_atV m2
  have key : ∃ k, k < ring.length ∧ vl a b c (atV ring (prv ring.length k)) < 0 ∧ 0 ≤ vl a b c (atV ring k) := by
    refine Classical.byContradiction fun n => ?_
    have step : ∀ k, k < ring.length → vl a b c (atV ring (prv ring.length k)) < 0 → vl a b c (atV ring k) < 0 := fun k hk h => Int.not_le.mp fun z => n ⟨k, hk, h, z⟩
    have up : ∀ s d, vl a b c (atV ring s) < 0 → s + d < ring.length → vl a b c (atV ring (s + d)) < 0 := by
      intro s d h
      induction d with
      | zero => intro _; exact h
      | succ d ih =>
        intro hl
        have := step (s + (d + 1)) hl
        rw [show prv ring.length (s + (d + 1)) = s + d by unfold prv; rw [if_neg (by omega)]; omega] at this
        exact this (ih (by omega))
    have hlast : vl a b c (atV ring (ring.length - 1)) < 0 := by
      have := up i (ring.length - 1 - i) (by rw [e1]; exact n1) (by omega)
      rw [show i + (ring.length - 1 - i) = ring.length - 1 by omega] at this
      exact this
    have h0 : vl a b c (atV ring 0) < 0 := step 0 (by omega) (by rw [show prv ring.length 0 = ring.length - 1 from rfl]; exact hlast)
    have := up 0 j h0 (by omega)
    rw [show 0 + j = j by omega, e2] at this
    omega
  obtain ⟨k, hk, g1, g2⟩ := key
  by_cases z : vl a b c (atV ring k) = 0
  · exact ⟨_, cut_keep (atV_mem hk) (by omega), z⟩
  · have hc : crsB a b c (atV ring (prv ring.length k)) (atV ring k) = true := by
      unfold crsB
      simp only [Bool.or_eq_true, Bool.and_eq_true, decide_eq_true_iff]
      left; omega
    refine ⟨mixV a b c (atV ring (prv ring.length k)) (atV ring k), mem_cut.mpr ⟨k, hk, ?_⟩, ?_⟩
    · unfold cutF
      rw [if_pos hc]
      exact List.mem_append.mpr (.inl (.head _))
    · generalize atV ring (prv ring.length k) = p at *
      generalize atV ring k = q at *
      have ep : avI (vl a b c p) = - vl a b c p := by unfold avI; rw [if_neg (by omega)]; omega
      have eq : avI (vl a b c q) = vl a b c q := by unfold avI; rw [if_pos (by omega)]
      have : vl a b c (mixV a b c p q) = avI (vl a b c q) * vl a b c p + avI (vl a b c p) * vl a b c q := by
        show a * (avI (vl a b c q) * p.x + avI (vl a b c p) * q.x) + b * (avI (vl a b c q) * p.y + avI (vl a b c p) * q.y) + c * (avI (vl a b c q) * p.w + avI (vl a b c p) * q.w) = _
        generalize avI (vl a b c q) = s
        generalize avI (vl a b c p) = t
        show _ = s * (a * p.x + b * p.y + c * p.w) + t * (a * q.x + b * q.y + c * q.w)
        simp only [Int.mul_add]
        have m1 : ∀ x y z : Int, x * (y * z) = y * (x * z) := fun x y z => Int.mul_left_comm x y z
        rw [m1 a s, m1 a t, m1 b s, m1 b t, m1 c s, m1 c t]
        omega
      rw [this, ep, eq, Int.mul_comm, Int.neg_mul]
      omega
def Rc (X0 X1 Y0 Y1 : Int) (v : V3) : Prop := 0 < v.w ∧ X0 * v.w ≤ v.x ∧ v.x ≤ X1 * v.w ∧ Y0 * v.w ≤ v.y ∧ v.y ≤ Y1 * v.w
theorem Rc.mix {X0 X1 Y0 Y1 : Int} (p q : V3) (hp : Rc X0 X1 Y0 Y1 p) (hq : Rc X0 X1 Y0 Y1 q) (s t : Int) (hs : 0 < s) (ht : 0 < t) : Rc X0 X1 Y0 Y1 ⟨s * p.x + t * q.x, s * p.y + t * q.y, s * p.w + t * q.w⟩ := by
  obtain ⟨p1, p2, p3, p4, p5⟩ := hp
  obtain ⟨q1, q2, q3, q4, q5⟩ := hq
  have k : ∀ {u a b : Int}, 0 < u → a ≤ b → u * a ≤ u * b := fun h h2 => Int.mul_le_mul_of_nonneg_left h2 (Int.le_of_lt h)
  have e : ∀ X : Int, X * (s * p.w + t * q.w) = s * (X * p.w) + t * (X * q.w) := fun X => by
    rw [Int.mul_add, Int.mul_left_comm X s, Int.mul_left_comm X t]
  refine ⟨?_, ?_, ?_, ?_, ?_⟩
  · have := Int.mul_pos hs p1
    have := Int.mul_pos ht q1
    show 0 < s * p.w + t * q.w
    omega
  · show X0 * (s * p.w + t * q.w) ≤ s * p.x + t * q.x
    rw [e]; exact Int.add_le_add (k hs p2) (k ht q2)
  · show s * p.x + t * q.x ≤ X1 * (s * p.w + t * q.w)
    rw [e]; exact Int.add_le_add (k hs p3) (k ht q3)
  · show Y0 * (s * p.w + t * q.w) ≤ s * p.y + t * q.y
    rw [e]; exact Int.add_le_add (k hs p4) (k ht q4)
  · show s * p.y + t * q.y ≤ Y1 * (s * p.w + t * q.w)
    rw [e]; exact Int.add_le_add (k hs p5) (k ht q5)
def box (X0 X1 Y0 Y1 : Int) : List V3 := [⟨X0, Y0, 1⟩, ⟨X1, Y0, 1⟩, ⟨X1, Y1, 1⟩, ⟨X0, Y1, 1⟩]
def ring2 (M e z X0 X1 Y0 Y1 : Int) : List V3 := cutL (M * e) (0 - e * e) (M * M * z) (cutL M e 0 (box X0 X1 Y0 Y1))
section
variable {M e z X0 X1 Y0 Y1 : Int}
theorem box_rc (hX : X0 < X1) (hY : Y0 < Y1) : ∀ v ∈ box X0 X1 Y0 Y1, Rc X0 X1 Y0 Y1 v := by
  intro v hv
  unfold box at hv
  simp only [List.mem_cons, List.not_mem_nil, or_false] at hv
  rcases hv with h | h | h | h <;> subst h <;> refine ⟨?_, ?_, ?_, ?_, ?_⟩ <;> simp only [Int.mul_one] <;> omega
theorem ring1_rc (hX : X0 < X1) (hY : Y0 < Y1) : ∀ v ∈ cutL M e 0 (box X0 X1 Y0 Y1), Rc X0 X1 Y0 Y1 v := cut_all (box_rc hX hY) Rc.mix
theorem ring2_rc (hX : X0 < X1) (hY : Y0 < Y1) : ∀ v ∈ ring2 M e z X0 X1 Y0 Y1, Rc X0 X1 Y0 Y1 v := cut_all (ring1_rc hX hY) Rc.mix
/-- what is known of the numbers -/
structure Gm (M e z X0 X1 Y0 Y1 : Int) : Prop where
  X : X0 < X1
  Y : Y0 < Y1
  x : 0 < X0
  e : 0 < e
  M : 0 < M
  z : 0 < z
theorem le_mul {u a b : Int} (h : 0 ≤ u) (h2 : a ≤ b) : u * a ≤ u * b := Int.mul_le_mul_of_nonneg_left h2 h
theorem Gm.vx (g : Gm M e z X0 X1 Y0 Y1) {v : V3} (h : Rc X0 X1 Y0 Y1 v) : 0 < v.x := by
  have := Int.mul_pos g.x h.1
  have := h.2.1
  omega
/-- on the first line; on the second one -/
theorem Gm.on1 (g : Gm M e z X0 X1 Y0 Y1) {v : V3} (h : Rc X0 X1 Y0 Y1 v) (h0 : vl M e 0 v = 0) : 0 < vl (M * e) (0 - e * e) (M * M * z) v := by
  have hx := g.vx h
  have h1 : e * v.y = -(M * v.x) := by unfold vl at h0; omega
  have h2 : (M * e) * v.x = e * (M * v.x) := by rw [Int.mul_comm M e, Int.mul_assoc]
  have h3 : (0 - e * e) * v.y = e * (M * v.x) := by
    rw [Int.zero_sub, Int.neg_mul, Int.mul_assoc, h1, Int.mul_neg, Int.neg_neg]
  have h4 := Int.mul_pos g.e (Int.mul_pos g.M hx)
  have h5 := Int.mul_pos (Int.mul_pos (Int.mul_pos g.M g.M) g.z) h.1
  show 0 < (M * e) * v.x + (0 - e * e) * v.y + (M * M * z) * v.w
  omega
theorem c1_at (x y : Int) : vl M e 0 ⟨x, y, 1⟩ = M * x + e * y := by show M * x + e * y + 0 * 1 = _; omega
theorem c2_at (x y : Int) : vl (M * e) (0 - e * e) (M * M * z) ⟨x, y, 1⟩ = M * e * x - e * e * y + M * M * z := by
  show M * e * x + (0 - e * e) * y + (M * M * z) * 1 = _
  rw [Int.sub_mul, Int.zero_mul, Int.mul_one]; omega
theorem box1 : (⟨X0, Y0, 1⟩ : V3) ∈ box X0 X1 Y0 Y1 := .head _
theorem box2 : (⟨X1, Y0, 1⟩ : V3) ∈ box X0 X1 Y0 Y1 := .tail _ (.head _)
theorem box3 : (⟨X1, Y1, 1⟩ : V3) ∈ box X0 X1 Y0 Y1 := .tail _ (.tail _ (.head _))
theorem box4 : (⟨X0, Y1, 1⟩ : V3) ∈ box X0 X1 Y0 Y1 := .tail _ (.tail _ (.tail _ (.head _)))
/-- where nothing is left -/
theorem ring2_some (g : Gm M e z X0 X1 Y0 Y1) : ring2 M e z X0 X1 Y0 Y1 ≠ [] ↔ 0 ≤ M * X1 + e * Y1 ∧ 0 ≤ M * e * X1 - e * e * Y0 + M * M * z := by
  constructor
  · intro h
    obtain ⟨v, hv, h2⟩ := cut_some h
    have hr := ring1_rc g.X g.Y v hv
    have hne : cutL M e 0 (box X0 X1 Y0 Y1) ≠ [] := fun e => by rw [e] at hv; cases hv
    obtain ⟨v1, hv1, h1⟩ := cut_some hne
    have hr1 := box_rc g.X g.Y v1 hv1
    constructor
    · have hw : v1.w = 1 := by
        unfold box at hv1
        simp only [List.mem_cons, List.not_mem_nil, or_false] at hv1
        rcases hv1 with h | h | h | h <;> subst h <;> rfl
      obtain ⟨_, _, r3, _, r5⟩ := hr1
      rw [hw] at r3 r5
      have a1 := le_mul (Int.le_of_lt g.M) r3
      have a2 := le_mul (Int.le_of_lt g.e) r5
      unfold vl at h1
      rw [Int.mul_one] at a1 a2
      omega
    · obtain ⟨r1, _, r3, r4, _⟩ := hr
      have a1 := le_mul (Int.le_of_lt (Int.mul_pos g.M g.e)) r3
      have a2 := le_mul (Int.le_of_lt (Int.mul_pos g.e g.e)) r4
      have h3 : 0 ≤ (M * e * X1 - e * e * Y0 + M * M * z) * v.w := by
        have : vl (M * e) (0 - e * e) (M * M * z) v = M * e * v.x - e * e * v.y + M * M * z * v.w := by
          show M * e * v.x + (0 - e * e) * v.y + M * M * z * v.w = _
          rw [Int.sub_mul, Int.zero_mul]; omega
        rw [this] at h2
        rw [Int.add_mul, Int.sub_mul, Int.mul_assoc (M * e), Int.mul_assoc (e * e)]
        omega
      refine Int.not_lt.mp fun n => ?_
      have := Int.mul_neg_of_neg_of_pos n r1
      omega
  · rintro ⟨h1, h2⟩ hnil
    have go : ∀ v ∈ cutL M e 0 (box X0 X1 Y0 Y1), 0 ≤ vl (M * e) (0 - e * e) (M * M * z) v → False := fun v hv h => by
      have := cut_keep (a := M * e) (b := 0 - e * e) (c := M * M * z) hv h
      unfold ring2 at hnil
      rw [hnil] at this; cases this
    by_cases c : 0 ≤ M * X1 + e * Y0
    · exact go ⟨X1, Y0, 1⟩ (cut_keep box2 (by rw [c1_at]; exact c)) (by rw [c2_at]; exact h2)
    · obtain ⟨v, hv, h0⟩ := cut_zero (a := M) (b := e) (c := 0) ⟨_, box2 (X0 := X0) (X1 := X1) (Y0 := Y0) (Y1 := Y1), by rw [c1_at]; omega⟩ ⟨_, box3, by rw [c1_at]; exact h1⟩
      exact go v hv (Int.le_of_lt (g.on1 (ring1_rc g.X g.Y v hv) h0))
/-- a vertex on the second line, where a corner is cut off by it -/
theorem ring2_on (h : ring2 M e z X0 X1 Y0 Y1 ≠ []) {v : V3} (hv : v ∈ cutL M e 0 (box X0 X1 Y0 Y1)) (hn : vl (M * e) (0 - e * e) (M * M * z) v < 0) : ∃ q ∈ ring2 M e z X0 X1 Y0 Y1, vl (M * e) (0 - e * e) (M * M * z) q = 0 := by
  obtain ⟨q, hq, h0⟩ := cut_some h
  exact cut_zero ⟨v, hv, hn⟩ ⟨q, hq, h0⟩
theorem ring2_keep {v : V3} (hv : v ∈ cutL M e 0 (box X0 X1 Y0 Y1)) (hn : 0 ≤ vl (M * e) (0 - e * e) (M * M * z) v) : v ∈ ring2 M e z X0 X1 Y0 Y1 := cut_keep hv hn
/-- the upper side of a figure -/
theorem ring2_up (g : Gm M e z X0 X1 Y0 Y1) (h : ring2 M e z X0 X1 Y0 Y1 ≠ []) {U : Int} (hU : U < M) : (∀ v ∈ ring2 M e z X0 X1 Y0 Y1, e * v.y ≤ U * v.x) ↔ e * Y1 ≤ U * (if U > 0 then X0 else X1) := by
  obtain ⟨h1, h2⟩ := (ring2_some g).mp h
  constructor
  · intro hall
    refine Int.not_lt.mp fun n => ?_
    -- on the second line the side is broken
    have brk : ∀ q ∈ ring2 M e z X0 X1 Y0 Y1, vl (M * e) (0 - e * e) (M * M * z) q = 0 → False := fun q hq h0 => by
      have hr := ring2_rc g.X g.Y q hq
      have hx := g.vx hr
      have h3 := hall q hq
      have h4 := le_mul (Int.le_of_lt g.e) h3
      have h5 : e * (e * q.y) = M * e * q.x + M * M * z * q.w := by
        have : vl (M * e) (0 - e * e) (M * M * z) q = M * e * q.x - e * e * q.y + M * M * z * q.w := by
          show M * e * q.x + (0 - e * e) * q.y + M * M * z * q.w = _
          rw [Int.sub_mul, Int.zero_mul]; omega
        rw [this] at h0
        rw [← Int.mul_assoc]; omega
      have h6 := Int.mul_pos (Int.mul_pos (Int.mul_pos g.M g.M) g.z) hr.1
      have h7 : e * (U * q.x) ≤ e * (M * q.x) := le_mul (Int.le_of_lt g.e) (Int.mul_le_mul_of_nonneg_right (Int.le_of_lt hU) (Int.le_of_lt hx))
      have h8 : M * e * q.x = e * (M * q.x) := by rw [Int.mul_comm M e, Int.mul_assoc]
      omega
    by_cases c : U > 0
    · rw [if_pos c] at n
      have k1 : 0 ≤ vl M e 0 (⟨X0, Y1, 1⟩ : V3) := by
        rw [c1_at]
        have := Int.mul_pos c g.x
        have := Int.mul_pos g.M g.x
        omega
      have k2 := cut_keep (a := M) (b := e) (c := 0) (box4 (X0 := X0) (X1 := X1) (Y0 := Y0) (Y1 := Y1)) k1
      by_cases k3 : 0 ≤ vl (M * e) (0 - e * e) (M * M * z) (⟨X0, Y1, 1⟩ : V3)
      · have := hall _ (ring2_keep k2 k3)
        have : e * Y1 ≤ U * X0 := this
        omega
      · obtain ⟨q, hq, h0⟩ := ring2_on h k2 (by omega)
        exact brk q hq h0
    · rw [if_neg c] at n
      have k2 := cut_keep (a := M) (b := e) (c := 0) (box3 (X0 := X0) (X1 := X1) (Y0 := Y0) (Y1 := Y1)) (by rw [c1_at]; exact h1)
      by_cases k3 : 0 ≤ vl (M * e) (0 - e * e) (M * M * z) (⟨X1, Y1, 1⟩ : V3)
      · have := hall _ (ring2_keep k2 k3)
        have : e * Y1 ≤ U * X1 := this
        omega
      · obtain ⟨q, hq, h0⟩ := ring2_on h k2 (by omega)
        exact brk q hq h0
  · intro hc v hv
    obtain ⟨r1, r2, r3, r4, r5⟩ := ring2_rc g.X g.Y v hv
    have a1 := le_mul (Int.le_of_lt g.e) r5
    have a2 := Int.mul_le_mul_of_nonneg_right hc (Int.le_of_lt r1)
    rw [Int.mul_assoc, Int.mul_assoc] at a2
    by_cases c : U > 0
    · rw [if_pos c] at a2
      have := le_mul (Int.le_of_lt c) r2
      omega
    · rw [if_neg c] at a2
      have := le_mul (u := -U) (by omega) r3
      rw [Int.neg_mul, Int.neg_mul] at this
      omega
/-- the lower side of a figure -/
theorem ring2_low (g : Gm M e z X0 X1 Y0 Y1) (h : ring2 M e z X0 X1 Y0 Y1 ≠ []) {V : Int} (hV : V < M) (hV2 : -M < V) : (∀ v ∈ ring2 M e z X0 X1 Y0 Y1, e * V * v.x + V * V * z * v.w ≤ e * e * v.y) ↔ e * V * (if V > 0 then X1 else X0) + V * V * z ≤ e * e * Y0 := by
  obtain ⟨h1, h2⟩ := (ring2_some g).mp h
  have hVV : V * V ≤ M * M := by
    have : V.natAbs ≤ M.natAbs := by omega
    have := Nat.mul_le_mul this this
    rw [← Int.natAbs_mul, ← Int.natAbs_mul] at this
    have q1 : 0 ≤ V * V := by
      rcases Int.le_total 0 V with q | q
      · exact Int.mul_nonneg q q
      · exact Int.mul_nonneg_of_nonpos_of_nonpos q q
    have q2 := Int.mul_nonneg (Int.le_of_lt g.M) (Int.le_of_lt g.M)
    omega
  constructor
  · intro hall
    refine Int.not_lt.mp fun n => ?_
    -- on the first line the side is broken
    have brk : ∀ q ∈ cutL M e 0 (box X0 X1 Y0 Y1), vl M e 0 q = 0 → False := fun q hq h0 => by
      have hr := ring1_rc g.X g.Y q hq
      have hx := g.vx hr
      have h3 := hall q (ring2_keep hq (Int.le_of_lt (g.on1 hr h0)))
      have h4 : e * q.y = -(M * q.x) := by unfold vl at h0; omega
      have h5 : e * e * q.y = -(e * (M * q.x)) := by rw [Int.mul_assoc, h4, Int.mul_neg]
      have h6 : e * V * q.x + e * (M * q.x) = e * ((M + V) * q.x) := by rw [Int.mul_assoc, ← Int.mul_add, Int.add_mul]; congr 1; omega
      have h7 := Int.mul_pos g.e (Int.mul_pos (show 0 < M + V by omega) hx)
      have h8 : 0 ≤ V * V * z * q.w := by
        refine Int.mul_nonneg (Int.mul_nonneg ?_ (Int.le_of_lt g.z)) (Int.le_of_lt hr.1)
        rcases Int.le_total 0 V with q | q
        · exact Int.mul_nonneg q q
        · exact Int.mul_nonneg_of_nonpos_of_nonpos q q
      omega
    by_cases c : V > 0
    · rw [if_pos c] at n
      by_cases k1 : 0 ≤ M * X1 + e * Y0
      · have k2 := cut_keep (a := M) (b := e) (c := 0) (box2 (X0 := X0) (X1 := X1) (Y0 := Y0) (Y1 := Y1)) (by rw [c1_at]; exact k1)
        have := hall _ (ring2_keep k2 (by rw [c2_at]; exact h2))
        have : e * V * X1 + V * V * z * 1 ≤ e * e * Y0 := this
        omega
      · obtain ⟨q, hq, h0⟩ := cut_zero (a := M) (b := e) (c := 0) ⟨_, box2 (X0 := X0) (X1 := X1) (Y0 := Y0) (Y1 := Y1), by rw [c1_at]; omega⟩ ⟨_, box3, by rw [c1_at]; exact h1⟩
        exact brk q hq h0
    · rw [if_neg c] at n
      by_cases k1 : 0 ≤ M * X0 + e * Y0
      · have k2 := cut_keep (a := M) (b := e) (c := 0) (box1 (X0 := X0) (X1 := X1) (Y0 := Y0) (Y1 := Y1)) (by rw [c1_at]; exact k1)
        have k3 : 0 ≤ M * e * X0 - e * e * Y0 + M * M * z := by
          have a1 : V * V * z ≤ M * M * z := Int.mul_le_mul_of_nonneg_right hVV (Int.le_of_lt g.z)
          have a2 : e * V * X0 ≤ e * M * X0 := Int.mul_le_mul_of_nonneg_right (le_mul (Int.le_of_lt g.e) (Int.le_of_lt hV)) (Int.le_of_lt g.x)
          rw [Int.mul_comm M e]
          omega
        have := hall _ (ring2_keep k2 (by rw [c2_at]; exact k3))
        have : e * V * X0 + V * V * z * 1 ≤ e * e * Y0 := this
        omega
      · obtain ⟨q, hq, h0⟩ := cut_zero (a := M) (b := e) (c := 0) ⟨_, box1 (X0 := X0) (X1 := X1) (Y0 := Y0) (Y1 := Y1), by rw [c1_at]; omega⟩ ⟨_, box3, by rw [c1_at]; exact h1⟩
        exact brk q hq h0
  · intro hc v hv
    obtain ⟨r1, r2, r3, r4, r5⟩ := ring2_rc g.X g.Y v hv
    have a1 := le_mul (Int.le_of_lt (Int.mul_pos g.e g.e)) r4
    have a2 := Int.mul_le_mul_of_nonneg_right hc (Int.le_of_lt r1)
    rw [Int.add_mul, Int.mul_assoc (e * V), Int.mul_assoc (e * e)] at a2
    by_cases c : V > 0
    · rw [if_pos c] at a2
      have := le_mul (Int.le_of_lt (Int.mul_pos g.e c)) r3
      omega
    · rw [if_neg c] at a2
      have a3 : e * V ≤ 0 := Int.mul_nonpos_of_nonneg_of_nonpos (Int.le_of_lt g.e) (by omega)
      have := le_mul (u := -(e * V)) (by omega) r2
      rw [Int.neg_mul, Int.neg_mul] at this
      omega
end
theorem pw1 (k : Nat) : (1 : Int) * 2 ^ k = 2 ^ k := Int.one_mul _
theorem rgL_lk (a b : Int) : rgL a b = (lk a b).map .int := by
  unfold rgL lk
  rw [List.map_map]; rfl
def e0F (t fr : Nat) (u : Int) : Int := u * 2 ^ fr - 2 ^ t
def e1F (t fr : Nat) (u : Int) : Int := (u + 1) * 2 ^ fr + 2 ^ t
def cuF (b : Int) (t p : Nat) (s x : Int) : Int := s * (2 * b * (b - 1) * x + s * 2 ^ t) * 2 ^ p
def loF (b : Int) (t fr : Nat) : Int := b * (b - 1) * (b - 1) * 2 ^ (t + fr + 1)
def stRF (b m : Int) (t p fr : Nat) (u f : Int) : Int := -(-cuF b t p (f * (b - 1) - m) (if f * (b - 1) - m > 0 then e1F t fr u else e0F t fr u) / loF b t fr)
def lowF (b m : Int) (t p fr : Nat) (u : Int) : Int := b * m * e1F t fr u * 2 ^ p / ((b - 1) * 2 ^ (t + fr))
def fiF (b m : Int) (t p fr : Nat) (u : Int) : Int := if -lowF b m t p fr u - 1 > -halfI b p then -lowF b m t p fr u - 1 else -halfI b p
def laF (b m : Int) (t p fr : Nat) (u : Int) : Int := if cuF b t p (b * m) (e1F t fr u) / loF b t fr < halfI b p - 1 then cuF b t p (b * m) (e1F t fr u) / loF b t fr else halfI b p - 1
theorem lo_pos {b m : Int} {t fr : Nat} (hk : Kd b m) : 0 < loF b t fr := by
  have kb := hk.bd
  exact Int.mul_pos (Int.mul_pos (Int.mul_pos (by omega) (by omega)) (by omega)) (tw_pos _)
section
variable {b m : Int} {t p fr : Nat} {u : Int}
theorem e0_sz (hu : Sz u 60) (hf : fr ≤ 200) (ht : t ≤ 100) : Sz (e0F t fr u) 400 := by
  unfold e0F
  exact Sz.le inferInstance (show 60 + (fr + 1) + (t + 1) + 1 ≤ 400 by omega)
theorem e1_sz (hu : Sz u 60) (hf : fr ≤ 200) (ht : t ≤ 100) : Sz (e1F t fr u) 400 := by
  unfold e1F
  exact Sz.le inferInstance (show 60 + 1 + 1 + (fr + 1) + (t + 1) + 1 ≤ 400 by omega)
theorem e_ends_of_top {p : Int} (hu : Sz u 60) (hf : fr ≤ 200) (ht : t ≤ 100) : m_ends_of_top (t2 t p) (.int (fr : Int)) (.int u) = pu (t2 (e0F t fr u) (e1F t fr u)) := by
  unfold m_ends_of_top
  walk_at "run"
  unfold e0F e1F
  rw [pw1]
theorem e_curved {s x : Int} (hk : Kd b m) (hf : fr ≤ 200) (ht : t ≤ 100) (hp : p ≤ 100) (hs : Sz s 20) (hx : Sz x 400) : m_curved (t2 b m) (t2 t p) (.int (fr : Int)) (.int s) (.int x) = pu (t2 (cuF b t p s x) (loF b t fr)) := by
  have i1 := hk.sb
  have i2 := hk.sm
  unfold m_curved
  walk_at "run"
  rw [show (t : Int) + (fr : Int) + 1 = ((t + fr + 1 : Nat) : Int) by omega]
  walk_at "run"
  rfl
theorem e_start_of {f : Int} (hk : Kd b m) (hf : fr ≤ 200) (ht : t ≤ 100) (hp : p ≤ 100) (hu : Sz u 60) (h1 : -m ≤ f) (h2 : f ≤ m) : m_start_of (t2 b m) (t2 t p) (.int (fr : Int)) (t2 (e0F t fr u) (e1F t fr u)) (.int f) = pu (.int (stRF b m t p fr u f)) := by
  have kb := hk.bd
  have i1 := hk.sb
  have i2 := hk.sm
  have i3 : Sz f 5 := ⟨by omega⟩
  have is : Sz (f * (b - 1) - m) 20 := Sz.le inferInstance (show 5 + (5 + 1 + 1) + 5 + 1 ≤ 20 by omega)
  have hl := lo_pos (t := t) (fr := fr) hk
  have il : Sz (loF b t fr) 400 := by
    unfold loF
    exact Sz.le inferInstance (show 5 + (5 + 1 + 1) + (5 + 1 + 1) + (t + fr + 1 + 1) ≤ 400 by omega)
  have g0 := e0_sz (u := u) hu hf ht
  have g1 := e1_sz (u := u) hu hf ht
  have go : ∀ c : Bool, ∀ E : Int, Sz E 400 → (if f * (b - 1) - m > 0 then e1F t fr u else e0F t fr u) = E → bd (px (m_curved (t2 b m) (t2 t p) (.int (fr : Int)) (.int (f * (b - 1) - m)) (.int E)) : SM Unit D) (fun t9 => (unp2 t9 fun upper lower => (bd (op1 negD (op2 fdivD (op1 negD (pu upper)) (pu lower))) fun x => pu (.rt x) : SM Unit (Fl Unit Empty)))) = pu (.rt (.int (stRF b m t p fr u f))) := by
    intro c E hE he
    rw [e_curved hk hf ht hp is hE]
    walk_at "run"
    unfold stRF
    rw [he]
  unfold m_start_of
  walk_at "run"
  by_cases c : 0 < f * (b - 1) - m
  · rw [decide_eq_true c]
    walk_at "ev"
    have := go true _ g1 (if_pos c)
    rw [e_curved hk hf ht hp is g1] at this ⊢
    walk_at "run"
    unfold stRF
    rw [if_pos c]
  · rw [decide_eq_false c]
    walk_at "ev"
    rw [e_curved hk hf ht hp is g0]
    walk_at "run"
    unfold stRF
    rw [if_neg c]
theorem e_asked_bounds (hk : Kd b m) (hf : fr ≤ 200) (ht : t ≤ 100) (hp : p ≤ 10) (hu : Sz u 60) : m_asked_bounds (t2 b m) (t2 t p) (.int (fr : Int)) (t2 (e0F t fr u) (e1F t fr u)) = pu (t2 (fiF b m t p fr u) (laF b m t p fr u)) := by
  have kb := hk.bd
  have i1 := hk.sb
  have i2 := hk.sm
  have hl := lo_pos (t := t) (fr := fr) hk
  have il : Sz (loF b t fr) 400 := by
    unfold loF
    exact Sz.le inferInstance (show 5 + (5 + 1 + 1) + (5 + 1 + 1) + (t + fr + 1 + 1) ≤ 400 by omega)
  have g1 := e1_sz (u := u) hu hf ht
  have hN : 0 < (b - 1) * 2 ^ (t + fr) := Int.mul_pos (by omega) (tw_pos _)
  unfold m_asked_bounds
  walk_at "run"
  rw [e_curved hk hf ht (by omega) (Sz.le inferInstance (show 5 + 5 ≤ 20 by omega)) g1]
  walk_at "run"
  rw [show (t : Int) + (fr : Int) = ((t + fr : Nat) : Int) by omega]
  walk_at "run"
  rw [e_half_of hk hp]
  walk_at "run"
  rfl
def rtSp (b m : Int) (t p fr : Nat) (u : Int) : List D := spansD m (fiF b m t p fr u) (laF b m t p fr u) (stRF b m t p fr u) (fun f => upE b m (e0F t fr u) (e1F t fr u) (t + fr) p f - 1)
theorem e_root_spans (hk : Kd b m) (hf : fr ≤ 100) (ht : t ≤ 100) (hp : p ≤ 10) (hu : Sz u 60) : m_root_spans (t2 b m) (t2 t p) (.int (fr : Int)) (.int u) = pu (.list (rtSp b m t p fr u)) := by
  have kb := hk.bd
  have g0 : Sz (e0F t fr u) 300 := by
    unfold e0F
    exact Sz.le inferInstance (show 60 + (fr + 1) + (t + 1) + 1 ≤ 300 by omega)
  have g1 : Sz (e1F t fr u) 300 := by
    unfold e1F
    exact Sz.le inferInstance (show 60 + 1 + 1 + (fr + 1) + (t + 1) + 1 ≤ 300 by omega)
  unfold m_root_spans
  walk_at "ev"
  rw [e_ends_of_top hu (by omega) ht]
  walk_at "ev"
  rw [e_asked_bounds hk (by omega) ht hp hu]
  walk_at "ev"
  have er : (of (rngD [.int (1 - m), .int (m + 1)]) : SM Unit (List D)) = pu ((lk (-m + 1) (m + 1)).map .int) := by
    rw [d_rng2 (by omega) (by omega) (by omega) (by omega), r_of, rgL_lk, show (1 : Int) - m = -m + 1 by omega]
  rw [r_lcB _ _ _ _ er, lc_ints (g := fun f => .int (stRF b m t p fr u f)) _ .int (fun _ => rfl) (fun f hf' => ?_) (by rw [lk_len]; omega)]
  · walk_at "ev"
    rw [show (t : Int) + (fr : Int) = ((t + fr : Nat) : Int) by omega, e_upper_ends hk (by omega) (by omega) g0 g1]
    walk_at "ev"
    rw [r_lcB _ _ _ ((lk (-m) m).map fun f => .int (upE b m (e0F t fr u) (e1F t fr u) (t + fr) p f)) rfl, lc_ints (g := fun f => .int (upE b m (e0F t fr u) (e1F t fr u) (t + fr) p f - 1)) _ (fun f => .int (upE b m (e0F t fr u) (e1F t fr u) (t + fr) p f)) (fun _ => rfl) (fun f hf => rfl) (by rw [lk_len]; omega)]
    walk_at "ev"
    rw [d_cat (line_le (by simp only [List.length_cons, List.length_nil, List.length_map, lk_len]; omega)), d_cat (line_le (by simp only [List.length_cons, List.length_nil, List.length_map, lk_len]; omega))]
    walk_at "ev"
    rw [List.singleton_append, st_list (by omega), sp_list (by omega), e_spans_between hk]
    walk_at "ev"
    rfl
  · have hf2 := mem_lk.mp hf'
    walk_at "ev"
    rw [e_start_of hk (by omega) ht (by omega) hu (by omega) (by omega)]
    walk_at "ev"
end
def inSp (m first last : Int) (A Z : Int → Int) (l f : Int) : Bool := decide (stF m first A f ≤ l) && decide (l ≤ spF m last Z f)
def rGoodL (b m : Int) (t p fr : Nat) (u l : Int) : List Int := if fiF b m t p fr u ≤ l ∧ l ≤ laF b m t p fr u then (figs m).filter (inSp m (fiF b m t p fr u) (laF b m t p fr u) (stRF b m t p fr u) (fun f => upE b m (e0F t fr u) (e1F t fr u) (t + fr) p f - 1) l) else figs m
def X0F (b : Int) (t p fr : Nat) (u : Int) : Int := 2 * b * (u * 2 ^ (p + fr) - 2 ^ (t + p))
def X1F (b : Int) (t p fr : Nat) (u : Int) : Int := 2 * b * ((u + 1) * 2 ^ (p + fr) + 2 ^ (t + p))
def YF (b : Int) (t fr : Nat) (l : Int) : Int := 2 * b * l * 2 ^ (t + fr)
section
variable {b m u l : Int} {t p fr : Nat}
theorem pw_add (a c : Nat) : (2 : Int) ^ (a + c) = 2 ^ a * 2 ^ c := Int.pow_add 2 a c
theorem pw_add1 (a c : Nat) : (2 : Int) ^ (a + c + 1) = 2 ^ a * 2 ^ c * 2 := by rw [Int.pow_succ, pw_add]
theorem pos_iff {c a : Int} (hc : 0 < c) : 0 ≤ c * a ↔ 0 ≤ a := by
  constructor
  · intro h
    refine Int.not_lt.mp fun n => ?_
    have := Int.mul_neg_of_pos_of_neg hc n
    omega
  · exact fun h => Int.mul_nonneg (Int.le_of_lt hc) h
theorem neg_div_le {a n l : Int} (hn : 0 < n) : -(-a / n) ≤ l ↔ a ≤ l * n := by
  have := Int.le_ediv_iff_mul_le (a := -l) (b := -a) hn
  rw [Int.neg_mul] at this
  constructor
  · intro h
    have := this.mp (by omega)
    omega
  · intro h
    have := this.mpr (by omega)
    omega
theorem first_iff (hk : Kd b m) (h1 : -halfI b p ≤ l) : fiF b m t p fr u ≤ l ↔ 0 ≤ b * m * X1F b t p fr u + (b - 1) * YF b t fr (l + 1) := by
  have kb := hk.bd
  have hN : 0 < (b - 1) * 2 ^ (t + fr) := Int.mul_pos (by omega) (tw_pos _)
  have e1 : fiF b m t p fr u ≤ l ↔ -lowF b m t p fr u - 1 ≤ l := by unfold fiF; split <;> omega
  have e2 : -lowF b m t p fr u - 1 ≤ l ↔ -(l + 1) ≤ lowF b m t p fr u := by constructor <;> intro h <;> omega
  have e3 : b * m * X1F b t p fr u + (b - 1) * YF b t fr (l + 1) = 2 * b * (b * m * e1F t fr u * 2 ^ p + (l + 1) * ((b - 1) * 2 ^ (t + fr))) := by
    unfold X1F YF e1F
    rw [pw_add, pw_add, pw_add]
    grind
  rw [e1, e2, e3, pos_iff (by omega)]
  unfold lowF
  rw [Int.le_ediv_iff_mul_le hN, Int.neg_mul]
  constructor <;> intro h <;> omega
theorem last_iff (hk : Kd b m) (h1 : l ≤ halfI b p - 1) : l ≤ laF b m t p fr u ↔ 0 ≤ b * m * (b - 1) * X1F b t p fr u - (b - 1) * (b - 1) * YF b t fr l + b * m * (b * m) * 2 ^ (t + p) := by
  have kb := hk.bd
  have hl := lo_pos (t := t) (fr := fr) hk
  have e1 : l ≤ laF b m t p fr u ↔ l ≤ cuF b t p (b * m) (e1F t fr u) / loF b t fr := by unfold laF; split <;> omega
  have e3 : b * m * (b - 1) * X1F b t p fr u - (b - 1) * (b - 1) * YF b t fr l + b * m * (b * m) * 2 ^ (t + p) = cuF b t p (b * m) (e1F t fr u) - l * loF b t fr := by
    unfold X1F YF e1F cuF loF
    rw [pw_add1, pw_add, pw_add, pw_add]
    grind
  rw [e1, e3, Int.le_ediv_iff_mul_le hl]
  constructor <;> intro h <;> omega
theorem low_iff (hk : Kd b m) {f : Int} : stRF b m t p fr u f ≤ l ↔ (b - 1) * (f * (b - 1) - m) * (if f * (b - 1) - m > 0 then X1F b t p fr u else X0F b t p fr u) + (f * (b - 1) - m) * (f * (b - 1) - m) * 2 ^ (t + p) ≤ (b - 1) * (b - 1) * YF b t fr l := by
  have hl := lo_pos (t := t) (fr := fr) hk
  unfold stRF
  rw [neg_div_le hl]
  generalize f * (b - 1) - m = V
  have e4 : (b - 1) * (b - 1) * YF b t fr l = l * loF b t fr := by
    unfold YF loF
    rw [pw_add1, pw_add]
    grind
  have e5 : (b - 1) * V * (if V > 0 then X1F b t p fr u else X0F b t p fr u) + V * V * 2 ^ (t + p) = cuF b t p V (if V > 0 then e1F t fr u else e0F t fr u) := by
    by_cases c : V > 0
    · rw [if_pos c, if_pos c]
      unfold X1F e1F cuF
      rw [pw_add, pw_add]
      grind
    · rw [if_neg c, if_neg c]
      unfold X0F e0F cuF
      rw [pw_add, pw_add]
      grind
  rw [e4, e5]
theorem upp_iff (hk : Kd b m) {f : Int} : l ≤ upE b m (e0F t fr u) (e1F t fr u) (t + fr) p f - 1 ↔ (b - 1) * YF b t fr (l + 1) ≤ (f * (b - 1) + m) * (if f * (b - 1) + m > 0 then X0F b t p fr u else X1F b t p fr u) := by
  have kb := hk.bd
  have hN : 0 < (b - 1) * 2 ^ (t + fr) := Int.mul_pos (by omega) (tw_pos _)
  have e1 : l ≤ upE b m (e0F t fr u) (e1F t fr u) (t + fr) p f - 1 ↔ l + 1 ≤ upE b m (e0F t fr u) (e1F t fr u) (t + fr) p f := by constructor <;> intro h <;> omega
  rw [e1]
  unfold upE
  rw [Int.le_ediv_iff_mul_le hN]
  generalize f * (b - 1) + m = U
  have e2 : U * (if U > 0 then X0F b t p fr u else X1F b t p fr u) - (b - 1) * YF b t fr (l + 1) = 2 * b * (U * (if U > 0 then e0F t fr u else e1F t fr u) * 2 ^ p - (l + 1) * ((b - 1) * 2 ^ (t + fr))) := by
    by_cases c : U > 0
    · rw [if_pos c, if_pos c]
      unfold X0F e0F YF
      rw [pw_add, pw_add, pw_add]
      grind
    · rw [if_neg c, if_neg c]
      unfold X1F e1F YF
      rw [pw_add, pw_add, pw_add]
      grind
  have e3 := pos_iff (c := 2 * b) (a := U * (if U > 0 then e0F t fr u else e1F t fr u) * 2 ^ p - (l + 1) * ((b - 1) * 2 ^ (t + fr))) (by omega)
  rw [← e2] at e3
  constructor
  · intro h
    have := e3.mpr (by omega)
    omega
  · intro h
    have := e3.mp (by omega)
    omega
end
theorem r_unq5 {μ β : Type} (a b c d e : D) (k : D → D → D → D → D → SM μ β) : unq5 (.list [a, b, c, d, e]) k = k a b c d e := nr rfl
theorem d_apr {ds : List D} {x : D} (h : ds.length ≤ 1000000) : appD (.list ds) x = some (.list (ds ++ [x])) := if_pos (Nat.lt_of_le_of_lt h (by decide))
theorem for_run {μ τ ρ : Type} {xs : List D} {b : D → τ → SM μ (Fl τ τ)} {s0 : τ} (S : Nat → τ) (hs : s0 = S 0) (h : ∀ i x, xs[i]? = some x → b x (S i) = pu (.nx (S (i + 1)))) : (forS xs s0 b : SM μ (Fl τ ρ)) = pu (.nx (S xs.length)) := by
  subst hs
  induction xs generalizing S with
  | nil => rfl
  | cons x xs ih =>
    show bd (b x (S 0)) _ = _
    rw [h 0 x rfl, pu_bd]
    exact ih (fun i => S (i + 1)) fun i y hy => h (i + 1) y hy
theorem lc_r3 {μ : Type} {E : D → SM μ D} {a b c : D} (h0 : E (.int 0) = pu a) (h1 : E (.int 1) = pu b) (h2 : E (.int 2) = pu c) : SM.lc (of (rngD [.int 3])) (fun _ => pu true) E = pu (.list [a, b, c]) := by
  rw [r_lcB _ _ _ [.int 0, .int 1, .int 2] (by rfl), lc_map (g := fun x => match x with | .int 0 => a | .int 1 => b | _ => c) _ _ (fun _ _ => rfl) (fun x hx => ?_) (by show 0 + 3 ≤ sizeLine; decide)]
  · rfl
  · simp only [List.mem_cons, List.not_mem_nil, or_false] at hx
    rcases hx with e | e | e <;> subst e
    · exact h0
    · exact h1
    · exact h2
def v3D (v : V3) : D := t3 v.x v.y v.w
def Bv (k : Nat) (v : V3) : Prop := v.x.natAbs < 2 ^ k ∧ v.y.natAbs < 2 ^ k ∧ v.w.natAbs < 2 ^ k
theorem mg_eq (A : Int) : (if 0 - A > A then 0 - A else A) = avI A := by unfold avI; split <;> split <;> omega
theorem v3_at {ring : List V3} {i : Nat} (h : i < ring.length) : idxD (.list (ring.map v3D)) (.int (i : Int)) = some (v3D (atV ring i)) := by
  show atI (ring.map v3D) (i : Int) = _
  unfold atI
  have e2 : ixN (ring.map v3D).length (i : Int) = some i := by
    unfold ixN
    rw [List.length_map, if_pos (by omega), if_pos (by omega), Int.toNat_natCast]
  rw [e2]
  show (ring.map v3D)[i]? = _
  rw [List.getElem?_map, List.getElem?_eq_getElem h]
  unfold atV
  rw [List.getElem?_eq_getElem h]; rfl
theorem v3_prv {ring : List V3} {i : Nat} (h : i < ring.length) : idxD (.list (ring.map v3D)) (.int ((i : Int) - 1)) = some (v3D (atV ring (prv ring.length i))) := by
  by_cases c : i = 0
  · subst c
    show atI (ring.map v3D) (((0 : Nat) : Int) - 1) = _
    unfold atI
    have e2 : ixN (ring.map v3D).length (((0 : Nat) : Int) - 1) = some (ring.length - 1) := by
      unfold ixN
      rw [List.length_map, if_neg (by omega), if_pos (by omega)]
      congr 1
      omega
    rw [e2]
    show (ring.map v3D)[ring.length - 1]? = _
    rw [List.getElem?_map, List.getElem?_eq_getElem (by omega)]
    unfold atV prv
    rw [if_pos rfl, List.getElem?_eq_getElem (by omega)]; rfl
  · rw [show (i : Int) - 1 = ((i - 1 : Nat) : Int) by omega, v3_at (by omega)]
    unfold prv
    rw [if_neg c]
theorem cutN_len (a b c : Int) (n : Nat) (r : Nat → V3) : ∀ i, (cutN a b c n r i).length ≤ 2 * i
  | 0 => Nat.zero_le _
  | i + 1 => by
    rw [cutN_succ, List.length_append]
    have := cutN_len a b c n r i
    have h2 : (cutF a b c (r (prv n i)) (r i)).length ≤ 2 := by
      unfold cutF
      rw [List.length_append]
      split <;> split <;> simp
    omega
theorem mg_bv {a b c : Int} {j k : Nat} {p : V3} (ha : a.natAbs < 2 ^ j) (hb : b.natAbs < 2 ^ j) (hc : c.natAbs < 2 ^ j) (hp : Bv k p) : Sz (avI (vl a b c p)) (3 * (j + k) + 2) := by
  have : (vl a b c p).natAbs < 2 ^ (j + k + (j + k) + 1 + (j + k) + 1) := sz_add (sz_add (sz_mul ha hp.1) (sz_mul hb hp.2.1)) (sz_mul hc hp.2.2)
  rw [show 3 * (j + k) + 2 = j + k + (j + k) + 1 + (j + k) + 1 by omega]
  unfold avI
  exact ⟨by split <;> omega⟩
theorem cut_bv {a b c : Int} {j k : Nat} {ring : List V3} (ha : a.natAbs < 2 ^ j) (hb : b.natAbs < 2 ^ j) (hc : c.natAbs < 2 ^ j) (h : ∀ v ∈ ring, Bv k v) : ∀ v ∈ cutL a b c ring, Bv (6 * j + 8 * k + 10) v := by
  have hvl : ∀ p, Bv k p → (avI (vl a b c p)).natAbs < 2 ^ (3 * (j + k) + 2) := fun p hp => by
    have : (vl a b c p).natAbs < 2 ^ (j + k + (j + k) + 1 + (j + k) + 1) := sz_add (sz_add (sz_mul ha hp.1) (sz_mul hb hp.2.1)) (sz_mul hc hp.2.2)
    rw [show 3 * (j + k) + 2 = j + k + (j + k) + 1 + (j + k) + 1 by omega]
    unfold avI
    split <;> omega
  intro v hv
  obtain ⟨i, hi, hm⟩ := mem_cut.mp hv
  have h1 := h _ (atV_mem hi)
  have h2 := h _ (atV_mem (prv_lt hi))
  unfold cutF at hm
  rcases List.mem_append.mp hm with e | e
  · split at e
    · rw [List.mem_singleton.mp e]
      have q1 := hvl _ h1
      have q2 := hvl _ h2
      have go : ∀ {x y : Int}, x.natAbs < 2 ^ k → y.natAbs < 2 ^ k → (avI (vl a b c (atV ring i)) * x + avI (vl a b c (atV ring (prv ring.length i))) * y).natAbs < 2 ^ (6 * j + 8 * k + 10) := fun hx hy => sz_le (sz_add (sz_mul q1 hx) (sz_mul q2 hy)) (by omega)
      exact ⟨go h2.1 h1.1, go h2.2.1 h1.2.1, go h2.2.2 h1.2.2⟩
    · cases e
  · split at e
    · rw [List.mem_singleton.mp e]
      exact ⟨sz_le h1.1 (by omega), sz_le h1.2.1 (by omega), sz_le h1.2.2 (by omega)⟩
    · cases e
theorem e_law_cut {a b c : Int} {j k : Nat} {ring : List V3} (ha : a.natAbs < 2 ^ j) (hb : b.natAbs < 2 ^ j) (hc : c.natAbs < 2 ^ j) (hj : j ≤ 100000) (hk : k ≤ 100000) (hn : ring.length ≤ 1000) (h : ∀ v ∈ ring, Bv k v) : m__law_cut (.list (ring.map v3D)) (.int a) (.int b) (.int c) = pu (.list ((cutL a b c ring).map v3D)) := by
  have ia : Sz a j := ⟨ha⟩
  have ib : Sz b j := ⟨hb⟩
  have ic : Sz c j := ⟨hc⟩
  unfold m__law_cut
  walk_at "ev"
  rw [List.length_map, d_rng1 (by omega) (by omega)]
  walk_at "ev"
  have hlen : (rgL 0 (ring.length : Int)).length = ring.length := by rw [rgL_len]; omega
  rw [for_run (fun i => PyData.list ((cutN a b c ring.length (atV ring) i).map v3D)) ?_ ?_, hlen]
  · walk_at "ev"
    rfl
  · rfl
  · as_aux_lemma =>
      intro i x hx
      obtain ⟨hi, rfl⟩ := rgL_get hx
      have hi' : i < ring.length := by omega
      rw [Int.zero_add]
      walk_at "ev"
      rw [v3_prv hi', v3_at hi']
      walk_at "ev"
      have hp := h _ (atV_mem (prv_lt hi'))
      have hq := h _ (atV_mem hi')
      have hlc := cutN_len a b c ring.length (atV ring) i
      rw [cutN_succ]
      generalize cutN a b c ring.length (atV ring) i = acc at *
      generalize atV ring (prv ring.length i) = p at *
      generalize atV ring i = q at *
      obtain ⟨px, py, pw⟩ := p
      obtain ⟨qx, qy, qw⟩ := q
      have i1 : Sz px k := ⟨hp.1⟩
      have i2 : Sz py k := ⟨hp.2.1⟩
      have i3 : Sz pw k := ⟨hp.2.2⟩
      have i4 : Sz qx k := ⟨hq.1⟩
      have i5 : Sz qy k := ⟨hq.2.1⟩
      have i6 : Sz qw k := ⟨hq.2.2⟩
      unfold v3D
      dsimp only
      walk_at "run"
      have sA : Sz (avI (a * px + b * py + c * pw)) (3 * (j + k) + 2) := mg_bv ha hb hc hp
      have sB : Sz (avI (a * qx + b * qy + c * qw)) (3 * (j + k) + 2) := mg_bv ha hb hc hq
      rw [mg_eq, mg_eq]
      unfold cutF crsB mixV vl
      dsimp only
      generalize a * px + b * py + c * pw = A at *
      generalize a * qx + b * qy + c * qw = B at *
      rw [lc_r3 (a := .int (avI B * px + avI A * qx)) (b := .int (avI B * py + avI A * qy)) (c := .int (avI B * pw + avI A * qw)) (by walk_at "run") (by walk_at "run") (by walk_at "run")]
      rw [List.map_append, List.map_append]
      have hla : (acc.map fun v => t3 v.x v.y v.w).length ≤ 2000 := by rw [List.length_map]; omega
      generalize (acc.map fun v => t3 v.x v.y v.w) = ac at *
      have ap1 : ∀ x : D, appD (.list ac) x = some (.list (ac ++ [x])) := fun x => d_apr (by omega)
      have ap2 : ∀ x y : D, appD (.list (ac ++ [x])) y = some (.list (ac ++ [x] ++ [y])) := fun x y => d_apr (by rw [List.length_append, List.length_singleton]; omega)
      generalize decide (A < 0) = x1
      generalize decide (0 < B) = x2
      generalize decide (B < 0) = x3
      generalize decide (0 < A) = x4
      by_cases c5 : 0 ≤ B
      · rw [decide_eq_true c5, if_pos c5]
        cases x1 <;> cases x2 <;> cases x3 <;> cases x4 <;> walk_at "ev" <;> (try simp only [ap1, ap2]) <;> walk_at "ev" <;> (try simp only [ap1, ap2]) <;> walk_at "ev" <;> (try simp [List.append_assoc])
      · rw [decide_eq_false c5, if_neg c5]
        cases x1 <;> cases x2 <;> cases x3 <;> cases x4 <;> walk_at "ev" <;> (try simp only [ap1, ap2]) <;> walk_at "ev" <;> (try simp [List.append_assoc])
theorem for_filterR {μ ρ : Type} {g : Int → Bool} {b : D → D → SM μ (Fl D D)} : ∀ (xs acc : List Int), (∀ f ∈ xs, ∀ ac : List Int, ac.length ≤ acc.length + xs.length → b (.int f) (.list (ac.map .int)) = pu (.nx (.list ((if g f then ac ++ [f] else ac).map .int)))) →
    (forS (xs.map .int) (.list (acc.map .int)) b : SM μ (Fl D ρ)) = pu (.nx (.list ((acc ++ xs.filter g).map .int)))
  | [], acc, _ => by rw [List.filter_nil, List.append_nil]; rfl
  | x :: xs, acc, h => by
    show bd (b (.int x) (.list (acc.map .int))) _ = _
    rw [h x (.head _) acc (by omega), pu_bd]
    cases hg : g x with
    | true =>
      rw [if_pos rfl, List.filter_cons, if_pos hg, ← List.singleton_append (l := xs.filter g), ← List.append_assoc]
      exact for_filterR xs (acc ++ [x]) fun f hf ac hl => h f (.tail _ hf) ac (by rw [List.length_append, List.length_singleton] at hl; rw [List.length_cons]; omega)
    | false =>
      rw [if_neg (by decide), List.filter_cons, if_neg (by rw [hg]; decide)]
      exact for_filterR xs acc fun f hf ac hl => h f (.tail _ hf) ac (by rw [List.length_cons]; omega)
theorem mem_figsR {m f : Int} (h : f ∈ figs m) : -m ≤ f ∧ f ≤ m := by
  unfold figs at h
  obtain ⟨i, hi, rfl⟩ := List.mem_map.mp h
  have := List.mem_range.mp hi
  omega
theorem d_ix4 (a b c d e : D) : idxD (.list [a, b, c, d, e]) (.int 4) = some e := by rfl
section
variable {b m u l : Int} {t p fr : Nat}
theorem e_law_sides (hk : Kd b m) (hf : fr ≤ 100) (ht : t ≤ 100) (hp : p ≤ 100) (hu : Sz u 60) (hl : Sz l 60) : m__law_sides (t2 b m) (t2 t p) (.int (fr : Int)) (t2 u l) = pu (.list [.int (X0F b t p fr u), .int (X1F b t p fr u), .int (YF b t fr l), .int (YF b t fr (l + 1)), .int (2 ^ (t + p))]) := by
  have i1 := hk.sb
  unfold m__law_sides
  walk_at "run"
  rw [show (t : Int) + (p : Int) = ((t + p : Nat) : Int) by omega, show (p : Int) + (fr : Int) = ((p + fr : Nat) : Int) by omega, show (t : Int) + (fr : Int) = ((t + fr : Nat) : Int) by omega]
  walk_at "run"
  unfold X0F X1F YF
  rw [pw1]
def ringF (b m : Int) (t p fr : Nat) (u l : Int) : List V3 := ring2 (b * m) (b - 1) (2 ^ (t + p)) (X0F b t p fr u) (X1F b t p fr u) (YF b t fr l) (YF b t fr (l + 1))
theorem box_bv (hk : Kd b m) (hf : fr ≤ 100) (ht : t ≤ 100) (hp : p ≤ 100) (hu : Sz u 60) (hl : Sz l 60) : ∀ v ∈ box (X0F b t p fr u) (X1F b t p fr u) (YF b t fr l) (YF b t fr (l + 1)), Bv 600 v := by
  have i1 := hk.sb
  have s0 : Sz (X0F b t p fr u) 600 := by unfold X0F; exact Sz.le inferInstance (show 2 + 5 + (60 + (p + fr + 1) + (t + p + 1) + 1) ≤ 600 by omega)
  have s1 : Sz (X1F b t p fr u) 600 := by unfold X1F; exact Sz.le inferInstance (show 2 + 5 + (60 + 1 + 1 + (p + fr + 1) + (t + p + 1) + 1) ≤ 600 by omega)
  have s2 : Sz (YF b t fr l) 600 := by unfold YF; exact Sz.le inferInstance (show 2 + 5 + 60 + (t + fr + 1) ≤ 600 by omega)
  have s3 : Sz (YF b t fr (l + 1)) 600 := by unfold YF; exact Sz.le inferInstance (show 2 + 5 + (60 + 1 + 1) + (t + fr + 1) ≤ 600 by omega)
  have o1 : (1 : Int).natAbs < 2 ^ 600 := sz_le (n := 1) (by decide) (by omega)
  intro v hv
  unfold box at hv
  simp only [List.mem_cons, List.not_mem_nil, or_false] at hv
  rcases hv with h | h | h | h <;> subst h
  · exact ⟨s0.lt, s2.lt, o1⟩
  · exact ⟨s1.lt, s2.lt, o1⟩
  · exact ⟨s1.lt, s3.lt, o1⟩
  · exact ⟨s0.lt, s3.lt, o1⟩
theorem ringF_bv (hk : Kd b m) (hf : fr ≤ 100) (ht : t ≤ 100) (hp : p ≤ 100) (hu : Sz u 60) (hl : Sz l 60) : ∀ v ∈ ringF b m t p fr u l, Bv 60000 v := by
  have i1 := hk.sb
  have i2 := hk.sm
  have sM : Sz (b * m) 20 := Sz.le inferInstance (show 5 + 5 ≤ 20 by omega)
  have se : Sz (b - 1) 20 := Sz.le inferInstance (show 5 + 1 + 1 ≤ 20 by omega)
  have sz0 : Sz (0 : Int) 20 := ⟨sz_le (n := 1) (by decide) (by omega)⟩
  have h1 := cut_bv (j := 20) sM.lt se.lt sz0.lt (box_bv hk hf ht hp hu hl)
  have w1 : (b * m * (b - 1)).natAbs < 2 ^ 400 := (Sz.le (inferInstance : Sz (b * m * (b - 1)) _) (show 20 + 20 ≤ 400 by omega)).lt
  have w2 : (0 - (b - 1) * (b - 1)).natAbs < 2 ^ 400 := (Sz.le (inferInstance : Sz (0 - (b - 1) * (b - 1)) _) (show 20 + (20 + 20) + 1 ≤ 400 by omega)).lt
  have w3 : (b * m * (b * m) * 2 ^ (t + p)).natAbs < 2 ^ 400 := (Sz.le (inferInstance : Sz (b * m * (b * m) * 2 ^ (t + p)) _) (show 20 + 20 + (t + p + 1) ≤ 400 by omega)).lt
  have h2 := cut_bv (j := 400) w1 w2 w3 h1
  intro v hv
  obtain ⟨q1, q2, q3⟩ := h2 v hv
  exact ⟨sz_le q1 (by omega), sz_le q2 (by omega), sz_le q3 (by omega)⟩
theorem e_law_places (hk : Kd b m) (hf : fr ≤ 100) (ht : t ≤ 100) (hp : p ≤ 100) (hu : Sz u 60) (hl : Sz l 60) : m__law_places (t2 b m) (t2 t p) (.int (fr : Int)) (t2 u l) = pu (.list ((ringF b m t p fr u l).map v3D)) := by
  have i1 := hk.sb
  have i2 := hk.sm
  have sM : Sz (b * m) 20 := Sz.le inferInstance (show 5 + 5 ≤ 20 by omega)
  have se : Sz (b - 1) 20 := Sz.le inferInstance (show 5 + 1 + 1 ≤ 20 by omega)
  have sz0 : Sz (0 : Int) 20 := ⟨sz_le (n := 1) (by decide) (by omega)⟩
  have w1 : (b * m * (b - 1)).natAbs < 2 ^ 400 := (Sz.le (inferInstance : Sz (b * m * (b - 1)) _) (show 20 + 20 ≤ 400 by omega)).lt
  have w2 : (0 - (b - 1) * (b - 1)).natAbs < 2 ^ 400 := (Sz.le (inferInstance : Sz (0 - (b - 1) * (b - 1)) _) (show 20 + (20 + 20) + 1 ≤ 400 by omega)).lt
  have w3 : (b * m * (b * m) * 2 ^ (t + p)).natAbs < 2 ^ 400 := (Sz.le (inferInstance : Sz (b * m * (b * m) * 2 ^ (t + p)) _) (show 20 + 20 + (t + p + 1) ≤ 400 by omega)).lt
  have hb := box_bv hk hf ht hp hu hl
  have h1 := cut_bv (j := 20) sM.lt se.lt sz0.lt hb
  have e1 := e_law_cut sM.lt se.lt sz0.lt (by omega) (by omega) (show (box (X0F b t p fr u) (X1F b t p fr u) (YF b t fr l) (YF b t fr (l + 1))).length ≤ 1000 from by show 4 ≤ 1000; decide) hb
  have hlen : (cutL (b * m) (b - 1) 0 (box (X0F b t p fr u) (X1F b t p fr u) (YF b t fr l) (YF b t fr (l + 1)))).length ≤ 2 * 4 := cutN_len _ _ _ _ _ _
  have e2 := e_law_cut w1 w2 w3 (by omega) (by omega) (by omega) h1
  unfold m__law_places
  walk_at "ev"
  rw [e_law_sides hk hf ht hp hu hl]
  walk_at "ev"
  rw [r_unq5]
  walk_at "run"
  rw [show (PyData.list [t3 (X0F b t p fr u) (YF b t fr l) 1, t3 (X1F b t p fr u) (YF b t fr l) 1, t3 (X1F b t p fr u) (YF b t fr (l + 1)) 1, t3 (X0F b t p fr u) (YF b t fr (l + 1)) 1] : D) = .list ((box (X0F b t p fr u) (X1F b t p fr u) (YF b t fr l) (YF b t fr (l + 1))).map v3D) from rfl, e1]
  walk_at "run"
  rw [e2]
  walk_at "ev"
  rfl
/-- whether a corner keeps both sides of a figure -/
def okV (b m : Int) (z f : Int) (v : V3) : Bool := !(!decide (f = m) && decide ((f * (b - 1) + m) * v.x < (b - 1) * v.y)) && !(!decide (f = 0 - m) && decide ((b - 1) * (b - 1) * v.y < (b - 1) * (f * (b - 1) - m) * v.x + (f * (b - 1) - m) * (f * (b - 1) - m) * z * v.w))
theorem for_allB {μ ρ : Type} {okv : V3 → Bool} {bb : D → D → SM μ (Fl D D)} : ∀ (ring : List V3) (g0 : Bool), (∀ v ∈ ring, ∀ g : Bool, bb (v3D v) (.bool g) = pu (.nx (.bool (g && okv v)))) → (forS (ring.map v3D) (.bool g0) bb : SM μ (Fl D ρ)) = pu (.nx (.bool (g0 && ring.all okv)))
  | [], g0, _ => by rw [List.all_nil, Bool.and_true]; rfl
  | v :: ring, g0, h => by
    show bd (bb (v3D v) (.bool g0)) _ = _
    rw [h v (.head _) g0, pu_bd, List.all_cons, ← Bool.and_assoc]
    exact for_allB ring _ fun a ha => h a (.tail _ ha)
theorem v3_lay (ring : List V3) : Lay 2 (.list (ring.map v3D)) := lay_list (n := 1) fun x hx => by
  obtain ⟨v, _, rfl⟩ := List.mem_map.mp hx
  refine lay_tup (n := 0) fun y hy => ?_
  simp only [List.mem_cons, List.not_mem_nil, or_false] at hy
  rcases hy with e | e | e <;> subst e <;> exact lay_int _
theorem eq_nil (ring : List V3) : eqD (.list (ring.map v3D)) (.list []) = some (.bool (decide (ring = []))) := by
  unfold eqD
  rw [(v3_lay ring).shaped (by omega), show SeqAt.shaped (PyData.list []) = true from by rfl]
  cases ring with
  | nil => rfl
  | cons v r => rfl
def duL (b m : Int) (t p fr : Nat) (u l : Int) : List Int := (figs m).filter fun f => (ringF b m t p fr u l).all (okV b m (2 ^ (t + p)) f)
theorem e_law_root_good (hk : Kd b m) (hf : fr ≤ 100) (ht : t ≤ 100) (hp : p ≤ 100) (hu : Sz u 60) (hl : Sz l 60) : m__law_root_good (t2 b m) (t2 t p) (.int (fr : Int)) (t2 u l) = pu (if ringF b m t p fr u l = [] then .none else .list ((duL b m t p fr u l).map .int)) := by
  have kb := hk.bd
  have i1 := hk.sb
  have i2 := hk.sm
  have hbv := ringF_bv hk hf ht hp hu hl
  unfold m__law_root_good
  walk_at "ev"
  rw [e_law_places hk hf ht hp hu hl]
  walk_at "ev"
  rw [eq_nil]
  walk_at "ev"
  by_cases c : ringF b m t p fr u l = []
  · rw [decide_eq_true c, if_pos c]
    walk_at "ev"
  · rw [decide_eq_false c, if_neg c]
    walk_at "ev"
    rw [e_law_sides hk hf ht hp hu hl]
    walk_at "ev"
    rw [d_ix4]
    walk_at "ev"
    rw [d_rng2 (by omega) (by omega) (by omega) (by omega)]
    walk_at "ev"
    rw [show rgL (0 - m) (m + 1) = (figs m).map .int by rw [rgL_lk, figs_rng, show (0 : Int) - m = -m by omega]; rfl]
    rw [show (PyData.list [] : D) = .list (([] : List Int).map .int) from rfl, for_filterR (g := fun f => (ringF b m t p fr u l).all (okV b m (2 ^ (t + p)) f))]
    · walk_at "ev"
      rfl
    · intro f hf2 ac hl'
      have hf' := mem_figsR hf2
      have i4 : Sz f 5 := ⟨by omega⟩
      rw [figs_ln, List.length_nil] at hl'
      walk_at "run"
      rw [for_allB (okv := okV b m (2 ^ (t + p)) f)]
      · walk_at "ev"
        cases (ringF b m t p fr u l).all (okV b m (2 ^ (t + p)) f) with
        | true =>
          walk_at "ev"
          rw [d_apr (by rw [List.length_map]; omega)]
          walk_at "ev"
          rw [List.map_append]; rfl
        | false =>
          walk_at "ev"
          rfl
      · intro v hv g
        obtain ⟨q1, q2, q3⟩ := hbv v hv
        obtain ⟨x, y, w⟩ := v
        have j1 : Sz x 60000 := ⟨q1⟩
        have j2 : Sz y 60000 := ⟨q2⟩
        have j3 : Sz w 60000 := ⟨q3⟩
        unfold v3D okV
        dsimp only
        walk_at "run"
        generalize decide (f = m) = x1
        generalize decide (f = 0 - m) = x3
        generalize decide ((f * (b - 1) + m) * x < (b - 1) * y) = x2
        generalize decide ((b - 1) * (b - 1) * y < (b - 1) * (f * (b - 1) - m) * x + (f * (b - 1) - m) * (f * (b - 1) - m) * 2 ^ (t + p) * w) = x4
        cases x1 <;> cases x2 <;> cases x3 <;> cases x4 <;> cases g <;> rfl
end
section
variable {b m u l : Int} {t p fr : Nat}
theorem gmF (hk : Kd b m) (ht : 1 ≤ t) (hf : 2 ≤ fr) (hu : 2 ^ (t - 1) ≤ u) : Gm (b * m) (b - 1) (2 ^ (t + p)) (X0F b t p fr u) (X1F b t p fr u) (YF b t fr l) (YF b t fr (l + 1)) := by
  have kb := hk.bd
  have hT := tw_pos (t + p)
  have hTF := tw_pos (t + fr)
  have hPF := tw_pos (p + fr)
  have e1 : u * 2 ^ (p + fr) > 2 ^ (t + p) := by
    have h4 : (4 : Int) ≤ 2 ^ fr := by
      have : (2 : Int) ^ fr = 4 * 2 ^ (fr - 2) := by
        rw [show (4 : Int) = 2 ^ 2 from rfl, ← pw_add, show 2 + (fr - 2) = fr by omega]
      have := tw_pos (fr - 2)
      omega
    have h5 : (2 : Int) ^ t = 2 ^ (t - 1) * 2 := by rw [← Int.pow_succ, show (t - 1).succ = t by omega]
    have h6 : (2 : Int) ^ t < u * 2 ^ fr := by
      have := Int.mul_le_mul hu h4 (by omega) (by have := tw_pos (t - 1); omega)
      have := tw_pos (t - 1)
      omega
    have h7 := Int.mul_lt_mul_of_pos_right h6 (tw_pos p)
    rw [pw_add, pw_add, Int.mul_comm (2 ^ p) (2 ^ fr), ← Int.mul_assoc]
    exact h7
  refine ⟨?_, ?_, ?_, by omega, by omega, hT⟩
  · unfold X0F X1F
    refine Int.mul_lt_mul_of_pos_left ?_ (by omega)
    rw [Int.add_mul, Int.one_mul]
    omega
  · unfold YF
    refine Int.mul_lt_mul_of_pos_right ?_ hTF
    exact Int.mul_lt_mul_of_pos_left (by omega) (by omega)
  · unfold X0F
    exact Int.mul_pos (by omega) (by omega)
theorem all_iff {z f : Int} {ring : List V3} : ring.all (okV b m z f) = true ↔ (f = m ∨ ∀ v ∈ ring, (b - 1) * v.y ≤ (f * (b - 1) + m) * v.x) ∧ (f = -m ∨ ∀ v ∈ ring, (b - 1) * (f * (b - 1) - m) * v.x + (f * (b - 1) - m) * (f * (b - 1) - m) * z * v.w ≤ (b - 1) * (b - 1) * v.y) := by
  rw [List.all_eq_true]
  have key : ∀ v, okV b m z f v = true ↔ (f = m ∨ (b - 1) * v.y ≤ (f * (b - 1) + m) * v.x) ∧ (f = -m ∨ (b - 1) * (f * (b - 1) - m) * v.x + (f * (b - 1) - m) * (f * (b - 1) - m) * z * v.w ≤ (b - 1) * (b - 1) * v.y) := by
    intro v
    unfold okV
    simp only [Bool.and_eq_true, Bool.not_eq_true', Bool.and_eq_false_iff, Bool.not_eq_false', decide_eq_true_eq, decide_eq_false_iff_not, Int.not_lt]
    rw [show (f = 0 - m) = (f = -m) by rw [Int.zero_sub]]
  constructor
  · intro h
    refine ⟨?_, ?_⟩
    · by_cases c : f = m
      · exact .inl c
      · exact .inr fun v hv => ((key v).mp (h v hv)).1.resolve_left c
    · by_cases c : f = -m
      · exact .inl c
      · exact .inr fun v hv => ((key v).mp (h v hv)).2.resolve_left c
  · rintro ⟨h1, h2⟩ v hv
    exact (key v).mpr ⟨h1.imp id fun q => q v hv, h2.imp id fun q => q v hv⟩
theorem good_same (hk : Kd b m) (ht : 1 ≤ t) (hf : 2 ≤ fr) (hu : 2 ^ (t - 1) ≤ u) (h1 : -halfI b p ≤ l) (h2 : l ≤ halfI b p - 1) : rGoodL b m t p fr u l = if ringF b m t p fr u l = [] then figs m else duL b m t p fr u l := by
  have kb := hk.bd
  have g := gmF (l := l) (p := p) hk ht hf hu
  have hs := ring2_some g
  have hfl := and_congr (first_iff (u := u) (t := t) (fr := fr) hk h1) (last_iff (u := u) (t := t) (fr := fr) hk h2)
  unfold rGoodL
  by_cases c : ringF b m t p fr u l = []
  · rw [if_pos c, if_neg]
    exact fun z => (hs.mpr (hfl.mp z)) c
  · rw [if_neg c, if_pos (hfl.mpr (hs.mp c))]
    unfold duL
    have r1 := (first_iff (u := u) (t := t) (fr := fr) hk h1).mpr (hs.mp c).1
    have r2 := (last_iff (u := u) (t := t) (fr := fr) hk h2).mpr (hs.mp c).2
    refine List.filter_congr fun f hf' => ?_
    have hm := mem_figsR hf'
    rw [Bool.eq_iff_iff, all_iff]
    unfold inSp stF spF
    rw [Bool.and_eq_true, decide_eq_true_iff, decide_eq_true_iff, and_comm]
    have hM : ∀ x : Int, x ≤ m - 1 → x * (b - 1) + m < b * m := fun x hx => by
      have := Int.mul_le_mul_of_nonneg_right hx (show 0 ≤ b - 1 by omega)
      have e : (m - 1) * (b - 1) = b * m - b - m + 1 := by grind
      omega
    refine and_congr ?_ ?_
    · by_cases q : f = m
      · rw [if_pos q]
        exact ⟨fun _ => .inl q, fun _ => r2⟩
      · rw [if_neg q, upp_iff hk]
        have := ring2_up g c (U := f * (b - 1) + m) (hM f (by omega))
        rw [← this]
        exact ⟨fun z => .inr z, fun z => z.resolve_left q⟩
    · by_cases q : f = -m
      · rw [if_pos q]
        exact ⟨fun _ => .inl q, fun _ => r1⟩
      · rw [if_neg q, low_iff hk]
        have v1 : f * (b - 1) - m < b * m := by
          have := Int.mul_le_mul_of_nonneg_right (show f ≤ m by omega) (show 0 ≤ b - 1 by omega)
          have e : m * (b - 1) = b * m - m := by grind
          omega
        have v2 : -(b * m) < f * (b - 1) - m := by
          have := hM (-f) (by omega)
          rw [Int.neg_mul] at this
          omega
        have := ring2_low g c (V := f * (b - 1) - m) v1 v2
        rw [← this]
        exact ⟨fun z => .inr z, fun z => z.resolve_left q⟩
end
/-- the sizes of a table -/
structure Lk (b m : Int) (t p : Nat) : Prop where
  kd : Kd b m
  t1 : 1 ≤ t
  t4 : t ≤ 4
  p3 : p ≤ 3
theorem Lk.hb {b m : Int} {t p : Nat} (h : Lk b m t p) : 4 ≤ halfI b p ∧ halfI b p ≤ 130 := by
  have kb := h.kd.bd
  have h3 := h.p3
  unfold halfI
  have hp : p = 0 ∨ p = 1 ∨ p = 2 ∨ p = 3 := by omega
  rcases hp with e | e | e | e <;> subst e <;> omega
theorem Lk.mb {b m : Int} {t p : Nat} (h : Lk b m t p) : 1 ≤ 2 ^ (t - 1) ∧ 2 ^ (t - 1) ≤ 8 := by
  have h1 := h.t1
  have h4 := h.t4
  have ht : t = 1 ∨ t = 2 ∨ t = 3 ∨ t = 4 := by omega
  rcases ht with e | e | e | e <;> subst e <;> decide
def rtA (b m : Int) (t p fr : Nat) (u : Int) : Int → Int := stRF b m t p fr u
def rtZ (b m : Int) (t p fr : Nat) (u : Int) : Int → Int := fun f => upE b m (e0F t fr u) (e1F t fr u) (t + fr) p f - 1
/-- spans without a gap, none beyond what is asked -/
def rkB (b m : Int) (t p fr : Nat) : Bool := (List.range (MM t)).all fun (i : Nat) => decide (fiF b m t p fr ((MM t : Nat) + (i : Int)) ≤ laF b m t p fr ((MM t : Nat) + (i : Int)) + 1) && (List.range (2 * m).toNat).all (fun (j : Nat) => decide (stF m (fiF b m t p fr ((MM t : Nat) + (i : Int))) (rtA b m t p fr ((MM t : Nat) + (i : Int))) (-m + (j : Int) + 1) ≤ spF m (laF b m t p fr ((MM t : Nat) + (i : Int))) (rtZ b m t p fr ((MM t : Nat) + (i : Int))) (-m + (j : Int)) + 1)) &&
  (List.range (2 * m + 1).toNat).all (fun (j : Nat) => decide (spF m (laF b m t p fr ((MM t : Nat) + (i : Int))) (rtZ b m t p fr ((MM t : Nat) + (i : Int))) (-m + (j : Int)) ≤ laF b m t p fr ((MM t : Nat) + (i : Int))) && decide (fiF b m t p fr ((MM t : Nat) + (i : Int)) ≤ stF m (fiF b m t p fr ((MM t : Nat) + (i : Int))) (rtA b m t p fr ((MM t : Nat) + (i : Int))) (-m + (j : Int))))
structure Rkd (b m : Int) (t p fr : Nat) (u : Int) : Prop where
  o : fiF b m t p fr u ≤ laF b m t p fr u + 1
  gap : ∀ f, -m ≤ f → f < m → stF m (fiF b m t p fr u) (rtA b m t p fr u) (f + 1) ≤ spF m (laF b m t p fr u) (rtZ b m t p fr u) f + 1
  le : ∀ f, -m ≤ f → f ≤ m → spF m (laF b m t p fr u) (rtZ b m t p fr u) f ≤ laF b m t p fr u
  ge : ∀ f, -m ≤ f → f ≤ m → fiF b m t p fr u ≤ stF m (fiF b m t p fr u) (rtA b m t p fr u) f
theorem rk_of {b m : Int} {t p fr : Nat} (h : rkB b m t p fr = true) {i : Nat} (hi : i < MM t) : Rkd b m t p fr ((MM t : Nat) + (i : Int)) := by
  unfold rkB at h
  have h1 := List.all_eq_true.mp h i (List.mem_range.mpr hi)
  rw [Bool.and_eq_true, Bool.and_eq_true, decide_eq_true_iff, List.all_eq_true, List.all_eq_true] at h1
  obtain ⟨⟨a, b2⟩, c⟩ := h1
  refine ⟨a, fun f f1 f2 => ?_, fun f f1 f2 => ?_, fun f f1 f2 => ?_⟩
  · have := of_decide_eq_true (b2 (f + m).toNat (List.mem_range.mpr (by omega)))
    rw [show -m + (((f + m).toNat : Nat) : Int) = f by omega] at this
    exact this
  · have := c (f + m).toNat (List.mem_range.mpr (by omega))
    rw [show -m + (((f + m).toNat : Nat) : Int) = f by omega, Bool.and_eq_true, decide_eq_true_iff] at this
    exact this.1
  · have := c (f + m).toNat (List.mem_range.mpr (by omega))
    rw [show -m + (((f + m).toNat : Nat) : Int) = f by omega, Bool.and_eq_true, decide_eq_true_iff, decide_eq_true_iff] at this
    exact this.2
/-- a row of figures that are good for roots -/
def RowR (b m : Int) (t p fr : Nat) (u : Int) (r : List D) : Prop := RowE m (NN b p) r ∧ ∀ l, fiF b m t p fr u ≤ l → l ≤ laF b m t p fr u → ∃ f : Int, -m ≤ f ∧ f ≤ m ∧ inSp m (fiF b m t p fr u) (laF b m t p fr u) (rtA b m t p fr u) (rtZ b m t p fr u) l f = true ∧ entA r (halfI b p) l = .int f
theorem fi_la {b m : Int} {t p fr : Nat} {u : Int} : -halfI b p ≤ fiF b m t p fr u ∧ laF b m t p fr u ≤ halfI b p - 1 := by
  constructor
  · unfold fiF; split <;> omega
  · unfold laF; split <;> omega
def rsheetD (b m : Int) (t p fr : Nat) : List D := (List.range (MM t)).map fun (i : Nat) => .tuple [.int ((MM t : Nat) + (i : Int)), .list (rtSp b m t p fr ((MM t : Nat) + (i : Int)))]
theorem e_root_sheet {b m : Int} {t p fr : Nat} (h : Lg b m t p) (hf : fr ≤ 100) : m_root_sheet (t2 b m) (t2 t p) (.int (fr : Int)) = pu (.list (rsheetD b m t p fr)) := by
  have hm := h.mb
  have t10 := h.t10
  have p10 := h.p10
  unfold m_root_sheet
  walk_at "ev"
  rw [e_tops_of h]
  walk_at "ev"
  rw [r_lc, lc_ints (g := fun u => .tuple [.int u, .list (rtSp b m t p fr u)]) _ (fun u => .int u) (fun _ => rfl) (fun u hu => ?_) (by rw [lk_len]; omega)]
  · walk_at "ev"
    unfold rsheetD lk
    rw [List.map_map, show ((2 * (MM t : Nat) : Int) - (MM t : Nat)).toNat = MM t by omega]
    rfl
  · have hu' := mem_lk.mp hu
    have iu : Sz u 60 := ⟨by omega⟩
    walk_at "ev"
    rw [e_root_spans h.kd hf (by omega) p10 iu]
    walk_at "ev"
section
variable {b m u l : Int} {t p fr : Nat}
def askB (b m : Int) (t p fr : Nat) (u l : Int) : Bool := decide (fiF b m t p fr u ≤ l) && decide (l ≤ laF b m t p fr u)
def rG (b m : Int) (t p fr : Nat) (u l : Int) : List Int := (figs m).filter (inSp m (fiF b m t p fr u) (laF b m t p fr u) (rtA b m t p fr u) (rtZ b m t p fr u) l)
theorem law_good_asked (hk : Kd b m) (ht : 1 ≤ t) (hf : 2 ≤ fr) (hu : 2 ^ (t - 1) ≤ u) (h1 : -halfI b p ≤ l) (h2 : l ≤ halfI b p - 1) : (if ringF b m t p fr u l = [] then PyData.none else .list ((duL b m t p fr u l).map .int)) = if askB b m t p fr u l = true then .list ((rG b m t p fr u l).map .int) else .none := by
  have kb := hk.bd
  have g := gmF (l := l) (p := p) hk ht hf hu
  have hs := ring2_some g
  have hfl := and_congr (first_iff (u := u) (t := t) (fr := fr) hk h1) (last_iff (u := u) (t := t) (fr := fr) hk h2)
  have gs := good_same (t := t) (p := p) (fr := fr) (u := u) (l := l) hk ht hf hu h1 h2
  have ha : askB b m t p fr u l = true ↔ fiF b m t p fr u ≤ l ∧ l ≤ laF b m t p fr u := by
    unfold askB
    rw [Bool.and_eq_true, decide_eq_true_iff, decide_eq_true_iff]
  by_cases c : ringF b m t p fr u l = []
  · rw [if_pos c, if_neg]
    exact fun z => (hs.mpr (hfl.mp (ha.mp z))) c
  · have hask := hfl.mpr (hs.mp c)
    rw [if_neg c, if_pos (ha.mpr hask)]
    unfold rGoodL at gs
    rw [if_pos hask, if_neg c] at gs
    rw [← gs]
    rfl
theorem mem_rG {f : Int} (h : f ∈ rG b m t p fr u l) : -m ≤ f ∧ f ≤ m ∧ inSp m (fiF b m t p fr u) (laF b m t p fr u) (rtA b m t p fr u) (rtZ b m t p fr u) l f = true := by
  unfold rG at h
  obtain ⟨h1, h2⟩ := List.mem_filter.mp h
  exact ⟨(mem_figs h1).1, (mem_figs h1).2, h2⟩
theorem rG_len : (rG b m t p fr u l).length ≤ (2 * m + 1).toNat := by
  unfold rG
  refine Nat.le_trans (List.length_filter_le _ _) ?_
  rw [figs_len]
  exact Nat.le_refl _
end
def bareRB (b m : Int) (t p fr : Nat) : Bool := (List.range (MM t)).any fun (i : Nat) => (List.range (2 * m).toNat).any fun (j : Nat) => askB b m t p fr ((MM t : Nat) + (i : Int)) (spF m (laF b m t p fr ((MM t : Nat) + (i : Int))) (rtZ b m t p fr ((MM t : Nat) + (i : Int))) (-m + (j : Int)) + 1) && (rG b m t p fr ((MM t : Nat) + (i : Int)) (spF m (laF b m t p fr ((MM t : Nat) + (i : Int))) (rtZ b m t p fr ((MM t : Nat) + (i : Int))) (-m + (j : Int)) + 1)).isEmpty
theorem rk_of_rows {b m : Int} {t p fr : Nat} {R : Nat → List D} (h : rkB b m t p fr = true ∨ bareRB b m t p fr = true) (hR : ∀ i, i < MM t → RowR b m t p fr ((MM t : Nat) + (i : Int)) (R i)) : rkB b m t p fr = true := by
  rcases h with h | h
  · exact h
  · exfalso
    unfold bareRB at h
    obtain ⟨i, hi, h2⟩ := List.any_eq_true.mp h
    obtain ⟨j, hj, h3⟩ := List.any_eq_true.mp h2
    rw [Bool.and_eq_true] at h3
    obtain ⟨h4, h5⟩ := h3
    unfold askB at h4
    rw [Bool.and_eq_true, decide_eq_true_iff, decide_eq_true_iff] at h4
    obtain ⟨f, f1, f2, f3, _⟩ := (hR i (List.mem_range.mp hi)).2 _ h4.1 h4.2
    have : f ∈ rG b m t p fr ((MM t : Nat) + (i : Int)) (spF m (laF b m t p fr ((MM t : Nat) + (i : Int))) (rtZ b m t p fr ((MM t : Nat) + (i : Int))) (-m + (j : Int)) + 1) := List.mem_filter.mpr ⟨figs_mem f1 f2, f3⟩
    rw [List.isEmpty_iff] at h5
    rw [h5] at this
    cases this
section
variable {b m : Int} {t p fr : Nat} {u : Int}
/-- a top's spans rise, none beyond what is asked -/
def ckR (b m : Int) (t p fr : Nat) (u : Int) : Bool :=
  (decide (fiF b m t p fr u ≤ laF b m t p fr u + 1) && decide (stF m (fiF b m t p fr u) (rtA b m t p fr u) m ≤ laF b m t p fr u + 1)) &&
  ((List.range (2 * m + 1).toNat).all (fun (j : Nat) => decide (spF m (laF b m t p fr u) (rtZ b m t p fr u) (-m + (j : Int)) ≤ laF b m t p fr u) && decide (fiF b m t p fr u ≤ stF m (fiF b m t p fr u) (rtA b m t p fr u) (-m + (j : Int)))) &&
  (List.range (2 * m).toNat).all (fun (j : Nat) => decide (stF m (fiF b m t p fr u) (rtA b m t p fr u) (-m + (j : Int)) ≤ stF m (fiF b m t p fr u) (rtA b m t p fr u) (-m + (j : Int) + 1)) && decide (spF m (laF b m t p fr u) (rtZ b m t p fr u) (-m + (j : Int)) ≤ spF m (laF b m t p fr u) (rtZ b m t p fr u) (-m + (j : Int) + 1))))
def ckB (b m : Int) (t p fr : Nat) : Bool := (List.range (MM t)).all fun (i : Nat) => ckR b m t p fr ((MM t : Nat) + (i : Int))
structure Rmo (b m : Int) (t p fr : Nat) (u : Int) : Prop where
  o : fiF b m t p fr u ≤ laF b m t p fr u + 1
  top : stF m (fiF b m t p fr u) (rtA b m t p fr u) m ≤ laF b m t p fr u + 1
  le : ∀ f, -m ≤ f → f ≤ m → spF m (laF b m t p fr u) (rtZ b m t p fr u) f ≤ laF b m t p fr u
  ge : ∀ f, -m ≤ f → f ≤ m → fiF b m t p fr u ≤ stF m (fiF b m t p fr u) (rtA b m t p fr u) f
  mS : ∀ f g, -m ≤ f → f ≤ g → g ≤ m → stF m (fiF b m t p fr u) (rtA b m t p fr u) f ≤ stF m (fiF b m t p fr u) (rtA b m t p fr u) g
  mP : ∀ f g, -m ≤ f → f ≤ g → g ≤ m → spF m (laF b m t p fr u) (rtZ b m t p fr u) f ≤ spF m (laF b m t p fr u) (rtZ b m t p fr u) g
theorem mono_of {m : Int} {S : Int → Int} (h : ∀ f, -m ≤ f → f < m → S f ≤ S (f + 1)) : ∀ (n : Nat) (f g : Int), g = f + (n : Int) → -m ≤ f → g ≤ m → S f ≤ S g
  | 0, f, g, e, _, _ => by rw [show g = f by omega]; exact Int.le_refl _
  | n + 1, f, g, e, h1, h2 => by
    have a := mono_of h n f (g - 1) (by omega) h1 (by omega)
    have b := h (g - 1) (by omega) (by omega)
    rw [show g - 1 + 1 = g by omega] at b
    omega
theorem rmo_of (h : ckR b m t p fr u = true) : Rmo b m t p fr u := by
  unfold ckR at h
  rw [Bool.and_eq_true, Bool.and_eq_true, Bool.and_eq_true, decide_eq_true_iff, decide_eq_true_iff, List.all_eq_true, List.all_eq_true] at h
  obtain ⟨⟨a1, a2⟩, a3, a4⟩ := h
  have st : ∀ f, -m ≤ f → f < m → stF m (fiF b m t p fr u) (rtA b m t p fr u) f ≤ stF m (fiF b m t p fr u) (rtA b m t p fr u) (f + 1) ∧ spF m (laF b m t p fr u) (rtZ b m t p fr u) f ≤ spF m (laF b m t p fr u) (rtZ b m t p fr u) (f + 1) := fun f f1 f2 => by
    have := a4 (f + m).toNat (List.mem_range.mpr (by omega))
    rw [show -m + (((f + m).toNat : Nat) : Int) = f by omega, Bool.and_eq_true, decide_eq_true_iff, decide_eq_true_iff] at this
    exact this
  have bd2 : ∀ f, -m ≤ f → f ≤ m → spF m (laF b m t p fr u) (rtZ b m t p fr u) f ≤ laF b m t p fr u ∧ fiF b m t p fr u ≤ stF m (fiF b m t p fr u) (rtA b m t p fr u) f := fun f f1 f2 => by
    have := a3 (f + m).toNat (List.mem_range.mpr (by omega))
    rw [show -m + (((f + m).toNat : Nat) : Int) = f by omega, Bool.and_eq_true, decide_eq_true_iff, decide_eq_true_iff] at this
    exact this
  exact ⟨a1, a2, fun f f1 f2 => (bd2 f f1 f2).1, fun f f1 f2 => (bd2 f f1 f2).2, fun f g h1 h2 h3 => mono_of (fun f a b => (st f a b).1) (g - f).toNat f g (by omega) h1 h3, fun f g h1 h2 h3 => mono_of (fun f a b => (st f a b).2) (g - f).toNat f g (by omega) h1 h3⟩
theorem mem_rGi {l f : Int} : f ∈ rG b m t p fr u l ↔ (-m ≤ f ∧ f ≤ m) ∧ stF m (fiF b m t p fr u) (rtA b m t p fr u) f ≤ l ∧ l ≤ spF m (laF b m t p fr u) (rtZ b m t p fr u) f := by
  unfold rG
  rw [List.mem_filter]
  unfold inSp
  rw [Bool.and_eq_true, decide_eq_true_iff, decide_eq_true_iff]
  exact ⟨fun ⟨h1, h2⟩ => ⟨mem_figs h1, h2⟩, fun ⟨h1, h2⟩ => ⟨figs_mem h1.1 h1.2, h2⟩⟩
/-- the first look that is asked and has no figure -/
def bareRL (b m : Int) (t p fr : Nat) (u : Int) : Option Int := (lk (fiF b m t p fr u) (laF b m t p fr u + 1)).find? fun l => (rG b m t p fr u l).isEmpty
theorem bareRL_none : bareRL b m t p fr u = none ↔ ∀ l, fiF b m t p fr u ≤ l → l ≤ laF b m t p fr u → rG b m t p fr u l ≠ [] := by
  unfold bareRL
  rw [List.find?_eq_none]
  constructor
  · intro h l l1 l2 e
    exact h l (mem_lk.mpr ⟨l1, by omega⟩) (by rw [e]; rfl)
  · intro h l hl e
    have hl' := mem_lk.mp hl
    exact h l hl'.1 (by omega) (List.isEmpty_iff.mp e)
theorem bareRL_some {l : Int} : bareRL b m t p fr u = some l ↔ fiF b m t p fr u ≤ l ∧ l ≤ laF b m t p fr u ∧ rG b m t p fr u l = [] ∧ ∀ l', fiF b m t p fr u ≤ l' → l' < l → rG b m t p fr u l' ≠ [] := by
  constructor
  · intro h
    unfold bareRL at h
    have h1 := mem_lk.mp (List.mem_of_find?_eq_some h)
    have h2 := List.find?_some h
    refine ⟨h1.1, by omega, List.isEmpty_iff.mp h2, fun l' a1 a2 e => ?_⟩
    rw [lk_app (a := fiF b m t p fr u) (b := l) (c := laF b m t p fr u + 1) h1.1 (by omega), List.find?_append] at h
    cases e1 : (lk (fiF b m t p fr u) l).find? (fun l => (rG b m t p fr u l).isEmpty) with
    | none => exact absurd (List.isEmpty_iff.mpr e) (by simpa using (List.find?_eq_none.mp e1) l' (mem_lk.mpr ⟨a1, a2⟩))
    | some q =>
      rw [e1] at h
      have hq := mem_lk.mp (List.mem_of_find?_eq_some e1)
      have : q = l := by simpa using h
      omega
  · rintro ⟨l1, l2, h, h2⟩
    unfold bareRL
    rw [lk_app (a := fiF b m t p fr u) (b := l) (c := laF b m t p fr u + 1) l1 (by omega), List.find?_append, lk_cons (a := l) (by omega)]
    have e1 : (lk (fiF b m t p fr u) l).find? (fun l => (rG b m t p fr u l).isEmpty) = none := by
      rw [List.find?_eq_none]
      intro l' hl e
      have hl' := mem_lk.mp hl
      exact h2 l' hl'.1 hl'.2 (List.isEmpty_iff.mp e)
    rw [e1, List.find?_cons, h]; rfl
theorem e_bare_root (hm : 1 ≤ m ∧ m ≤ 15) (k : Rmo b m t p fr u) : m_bare_look (.list (rtSp b m t p fr u)) = pu (optI (bareRL b m t p fr u)) := by
  have cv : ∀ l, (∃ g, -m ≤ g ∧ g ≤ m ∧ stF m (fiF b m t p fr u) (rtA b m t p fr u) g ≤ l ∧ l ≤ spF m (laF b m t p fr u) (rtZ b m t p fr u) g) ↔ rG b m t p fr u l ≠ [] := fun l => by
    constructor
    · rintro ⟨g, g1, g2, g3⟩ e
      have := mem_rGi.mpr ⟨⟨g1, g2⟩, g3⟩
      rw [e] at this
      cases this
    · intro h
      obtain ⟨g, hg⟩ := List.exists_mem_of_ne_nil _ h
      have := mem_rGi.mp hg
      exact ⟨g, this.1.1, this.1.2, this.2⟩
  obtain ⟨o, top, le, ge, mS, mP⟩ := k
  have hPm : spF m (laF b m t p fr u) (rtZ b m t p fr u) m = laF b m t p fr u := by unfold spF; rw [if_pos rfl]
  have g0 := sp_first (m := m) (first := fiF b m t p fr u) (last := laF b m t p fr u) (A := rtA b m t p fr u) (Z := rtZ b m t p fr u) hm.1
  have e0 : spansD m (fiF b m t p fr u) (laF b m t p fr u) (rtA b m t p fr u) (rtZ b m t p fr u) = (lk (-m) (m + 1)).map fun f => t3 f (stF m (fiF b m t p fr u) (rtA b m t p fr u) f) (spF m (laF b m t p fr u) (rtZ b m t p fr u) f) := by
    show (figs m).map _ = _
    have : figs m = lk (-m) (m + 1) := by unfold figs lk; congr 1; congr 1; omega
    rw [this]
  unfold m_bare_look
  walk_at "ev"
  rw [show rtSp b m t p fr u = spansD m (fiF b m t p fr u) (laF b m t p fr u) (rtA b m t p fr u) (rtZ b m t p fr u) from rfl, g0, e0]
  walk_at "ev"
  have key := bare_for (μ := Unit) (ρ := Empty) (m := m) (first := fiF b m t p fr u) (last := laF b m t p fr u) (S := stF m (fiF b m t p fr u) (rtA b m t p fr u)) (P := spF m (laF b m t p fr u) (rtZ b m t p fr u))
    (b := fun z s2 => unp3 z fun figure start stop => (bd (SM.tb (op2 gtD (pu start) (of (addD s2 (.int 1))))) fun c => if c then (bd (of (addD s2 (.int 1))) fun x => pu (.rt x)) else (bd (of (maxD [s2, stop])) fun reached1 => (pu (.nx reached1))))) hm.1 (fun f r _ _ => by
      walk_at "ev"
      by_cases c : r + 1 < stF m (fiF b m t p fr u) (rtA b m t p fr u) f
      · rw [decide_eq_true c, if_pos c]; walk_at "ev"
      · rw [decide_eq_false c, if_neg c]; walk_at "ev") mS top hPm le (2 * m + 1).toNat (-m) (fiF b m t p fr u - 1) (by omega) (by omega) (by omega) (by omega) (fun g g1 g2 => by omega) (fun l l1 l2 => by omega)
  rcases key with ⟨r', hc, e⟩ | ⟨l, l1, l2, hn, hc, e⟩
  · rw [bareRL_none.mpr fun l l1 l2 => (cv l).mp (hc l l1 l2)]
    rw [e]
    walk_at "ev"
    rfl
  · rw [bareRL_some.mpr ⟨l1, l2, by
      refine Classical.byContradiction fun z => ?_
      obtain ⟨g, g1, g2, g3⟩ := (cv l).mpr z
      exact hn g g1 g2 g3, fun l' q1 q2 => (cv l').mp (hc l' q1 q2)⟩]
    rw [e]
    walk_at "ev"
    rfl
/-- the first cell that is asked and has no figure -/
def bareRC (b m : Int) (t p fr : Nat) : Option D := (List.range (MM t)).findSome? fun (i : Nat) => (bareRL b m t p fr ((MM t : Nat) + (i : Int))).map fun l => t2 ((MM t : Nat) + (i : Int)) l
theorem bareRC_none : bareRC b m t p fr = none ↔ ∀ i, i < MM t → bareRL b m t p fr ((MM t : Nat) + (i : Int)) = none := by
  unfold bareRC
  rw [List.findSome?_eq_none_iff]
  exact ⟨fun h i hi => Option.map_eq_none_iff.mp (h i (List.mem_range.mpr hi)), fun h i hi => Option.map_eq_none_iff.mpr (h i (List.mem_range.mp hi))⟩
theorem bareRC_some {d : D} (e : bareRC b m t p fr = some d) : ∃ (i : Nat) (l : Int), i < MM t ∧ d = t2 ((MM t : Nat) + (i : Int)) l ∧ bareRL b m t p fr ((MM t : Nat) + (i : Int)) = some l := by
  unfold bareRC at e
  obtain ⟨i, hi, e2⟩ := List.exists_of_findSome?_eq_some e
  obtain ⟨l, hl, e3⟩ := Option.map_eq_some_iff.mp e2
  exact ⟨i, l, List.mem_range.mp hi, e3.symm, hl⟩
theorem e_first_bareR (hm : 1 ≤ m ∧ m ≤ 15) (h : ∀ i, i < MM t → Rmo b m t p fr ((MM t : Nat) + (i : Int))) : m_first_bare (.list (rsheetD b m t p fr)) = pu (optD (bareRC b m t p fr)) := by
  unfold m_first_bare
  walk_at "ev"
  rw [show rsheetD b m t p fr = (List.range (MM t)).map fun (i : Nat) => .tuple [.int ((MM t : Nat) + (i : Int)), .list (rtSp b m t p fr ((MM t : Nat) + (i : Int)))] from rfl, for_firstK (g := fun (i : Nat) => (bareRL b m t p fr ((MM t : Nat) + (i : Int))).map fun l => t2 ((MM t : Nat) + (i : Int)) l) (k := fun (i : Nat) => .tuple [.int ((MM t : Nat) + (i : Int)), .list (rtSp b m t p fr ((MM t : Nat) + (i : Int)))])]
  · unfold bareRC
    cases (List.range (MM t)).findSome? fun (i : Nat) => (bareRL b m t p fr ((MM t : Nat) + (i : Int))).map fun l => t2 ((MM t : Nat) + (i : Int)) l with
    | none => walk_at "ev"; rfl
    | some d => walk_at "ev"; rfl
  · intro i hi
    walk_at "ev"
    rw [e_bare_root hm (h i (List.mem_range.mp hi))]
    walk_at "ev"
    cases bareRL b m t p fr ((MM t : Nat) + (i : Int)) with
    | none => walk_at "ev"; rfl
    | some l =>
      rw [show optI (some l) = .int l from rfl]
      walk_at "ev"
      rfl
end
section
variable {b m : Int} {t p fr : Nat}
/-- the figure nearest to nought -/
def rPl (b m : Int) (t p fr : Nat) (u l : Int) : D := if askB b m t p fr u l = true then (match minA (rG b m t p fr u l) with | some f => .int f | none => .none) else .none
def plRR (b m : Int) (t p fr : Nat) (u : Int) : List D := (List.range (NN b p)).map fun (k : Nat) => rPl b m t p fr u ((k : Int) - halfI b p)
def lackRB (b m : Int) (t p fr : Nat) (u l : Int) : Bool := askB b m t p fr u l && decide (rG b m t p fr u l = [])
theorem find_congrR {α : Type} {q r : α → Bool} : ∀ {l : List α}, (∀ x ∈ l, q x = r x) → l.find? q = l.find? r
  | [], _ => rfl
  | x :: xs, h => by
    rw [List.find?_cons, List.find?_cons, h x (.head _), find_congrR fun y hy => h y (.tail _ hy)]
theorem bareRL_H {u : Int} (k : Rmo b m t p fr u) : (lk (-halfI b p) (halfI b p)).find? (lackRB b m t p fr u) = bareRL b m t p fr u := by
  have fl := fi_la (b := b) (m := m) (t := t) (p := p) (fr := fr) (u := u)
  have o := k.o
  have no : ∀ l, (l < fiF b m t p fr u ∨ laF b m t p fr u < l) → lackRB b m t p fr u l = false := fun l hl => by
    unfold lackRB askB
    rcases hl with e | e
    · rw [decide_eq_false (show ¬ fiF b m t p fr u ≤ l by omega)]; rfl
    · rw [decide_eq_false (show ¬ l ≤ laF b m t p fr u by omega), Bool.and_false]; rfl
  rw [lk_app (a := -halfI b p) (b := fiF b m t p fr u) (c := halfI b p) fl.1 (by omega), lk_app (a := fiF b m t p fr u) (b := laF b m t p fr u + 1) (c := halfI b p) (by omega) (by omega), List.find?_append, List.find?_append]
  have e1 : (lk (-halfI b p) (fiF b m t p fr u)).find? (lackRB b m t p fr u) = none := by
    rw [List.find?_eq_none]
    intro l hl
    rw [no l (.inl (mem_lk.mp hl).2)]
    decide
  have e3 : (lk (laF b m t p fr u + 1) (halfI b p)).find? (lackRB b m t p fr u) = none := by
    rw [List.find?_eq_none]
    intro l hl
    rw [no l (.inr (by have := (mem_lk.mp hl).1; omega))]
    decide
  have e2 : (lk (fiF b m t p fr u) (laF b m t p fr u + 1)).find? (lackRB b m t p fr u) = bareRL b m t p fr u := by
    unfold bareRL
    refine find_congrR fun l hl => ?_
    have hl' := mem_lk.mp hl
    unfold lackRB askB
    rw [decide_eq_true hl'.1, decide_eq_true (show l ≤ laF b m t p fr u by omega)]
    cases rG b m t p fr u l <;> rfl
  rw [e1, e3, e2]
  cases bareRL b m t p fr u <;> rfl
def CellR (b m : Int) (t p fr : Nat) (w u l : Int) (x : D) : Prop := ((x = .none ∧ (askB b m t p fr u l = true → rG b m t p fr u l = [])) ∨ ∃ f : Int, x = .int f ∧ askB b m t p fr u l = true ∧ f ∈ rG b m t p fr u l) ∧ (w = 0 → x = rPl b m t p fr u l)
def RowCR (b m : Int) (t p fr : Nat) (w u : Int) (r : List D) : Prop := r.length = NN b p ∧ ∀ (k : Nat) (x : D), r[k]? = some x → CellR b m t p fr w u ((k : Int) - halfI b p) x
theorem RowCR.e {w u : Int} {r : List D} (h : RowCR b m t p fr w u r) : RowE m (NN b p) r := ⟨h.1, fun x hx => by
  obtain ⟨k, hk⟩ := List.mem_iff_getElem?.mp hx
  rcases (h.2 k x hk).1 with ⟨rfl, _⟩ | ⟨f, rfl, _, hf⟩
  · rfl
  · exact entB_int (mem_rG hf).1 (mem_rG hf).2.1⟩
theorem RowCR.pl {u : Int} {r : List D} (h : RowCR b m t p fr 0 u r) : r = plRR b m t p fr u := List.ext_getElem? fun k => by
  by_cases hk : k < r.length
  · have e := (h.2 k _ (List.getElem?_eq_getElem hk)).2 rfl
    rw [List.getElem?_eq_getElem hk, e]
    unfold plRR
    rw [List.getElem?_map, List.getElem?_range (by have := h.1; omega)]; rfl
  · rw [List.getElem?_eq_none (by omega), List.getElem?_eq_none (by unfold plRR; rw [List.length_map, List.length_range]; have := h.1; omega)]
theorem optD_none {x : Option D} (h : ∀ d, x = some d → ∃ u l : Int, d = t2 u l) : isNone (optD x) = x.isNone := by
  cases x with
  | none => rfl
  | some d =>
    obtain ⟨u, l, rfl⟩ := h d rfl
    rfl
theorem ok_law_root_tableX {w : Int} {d : D} {n : Nat} (h : Lg b m t p) (hR : ∀ i, i < MM t → Rmo b m t p fr ((MM t : Nat) + (i : Int))) (hf2 : 2 ≤ fr) (hf : fr ≤ 100) (hw : 0 ≤ w ∧ w < 3) (hd : Dk d n) (hn : n ≤ 100000000) : Ok (m__law_root_table (t2 b m) (t2 t p) (.int (fr : Int)) (.int w)) d fun x d' => ∃ R, x = .tuple [tabD t R, optD (bareRC b m t p fr)] ∧ (∀ i, i < MM t → RowCR b m t p fr w ((MM t : Nat) + (i : Int)) (R i)) ∧ Dk d' (n + 512 * 32772) := by
  have hk := h.kd
  have hk0 := h.kd
  have kb := hk.bd
  have hb := h.hb
  have hm1 := h.mb.1
  have hm2 := h.mb.2.1
  have hnb := h.nb
  have t1 := h.t1
  have t10 := h.t10
  have p10 := h.p10
  have gT : ∀ (i : Nat) (x : D), ((List.range i).findSome? fun (i : Nat) => (bareRL b m t p fr ((MM t : Nat) + (i : Int))).map fun l => t2 ((MM t : Nat) + (i : Int)) l) = some x → ∃ u l : Int, x = t2 u l := fun i x hx => by
    obtain ⟨k, _, e2⟩ := List.exists_of_findSome?_eq_some hx
    obtain ⟨l, _, e3⟩ := Option.map_eq_some_iff.mp e2
    exact ⟨_, _, e3.symm⟩
  unfold m__law_root_table
  refine ok_fin ?_
  walk_at "fj"
  rw [e_law_halfI hk p10]
  walk_at "fj"
  rw [shlMM t1 t10, shlM2 t1 t10]
  refine ok_sq (ok_of1 (ok_of1 ?_))
  rw [rngMM hm2]
  refine ok_of1 ?_
  have hl1 : (rgL (MM t : Nat) (2 * (MM t : Nat))).length = MM t := by rw [rgL_len]; omega
  refine ((ok_for (fun i (q : D × D) d' => ∃ rows, q.2 = .list rows ∧ rows.length = i ∧ (∀ (k : Nat) (y : D), rows[k]? = some y → ∃ r, y = .list r ∧ RowCR b m t p fr w ((MM t : Nat) + (k : Int)) r) ∧ q.1 = optD ((List.range i).findSome? fun (i : Nat) => (bareRL b m t p fr ((MM t : Nat) + (i : Int))).map fun l => t2 ((MM t : Nat) + (i : Int)) l) ∧ Dk d' (n + i * 32772)) ⟨[], rfl, rfl, (fun k y hy => by cases hy), rfl, by simpa using hd⟩ ?_).mono ?_)
  · as_aux_lemma =>
      rintro i x ⟨lk0, _⟩ d1 hx ⟨rows, rfl, hri, hrp, hlk0, hd1⟩
      obtain ⟨hi, rfl⟩ := rgL_get2 hx
      have hi' : i < MM t := by omega
      have hu := h.tp hi'
      have iu : Sz ((MM t : Nat) + (i : Int)) 60 := hu.sz t10
      have g0 := gT i
      walk_at "fj"
      have hl2 : (rgL (0 - halfI b p) (halfI b p)).length = NN b p := by rw [rgL_len]; omega
      rw [rngHH (by omega) hb.2]
      refine ok_sq (ok_of1 ?_)
      have hbl := bareRL_H (b := b) (p := p) (hR i hi')
      have hu2 : (2 : Int) ^ (t - 1) ≤ (MM t : Nat) + (i : Int) := by rw [← mm_cast]; omega
      obtain ⟨pre, hpre⟩ : ∃ o : Option D, o = (List.range i).findSome? fun (i : Nat) => (bareRL b m t p fr ((MM t : Nat) + (i : Int))).map fun l => t2 ((MM t : Nat) + (i : Int)) l := ⟨_, rfl⟩
      rw [← hpre] at hlk0 g0
      have hlo := hu.lo
      have nextE : (List.range (i + 1)).findSome? (fun (i : Nat) => (bareRL b m t p fr ((MM t : Nat) + (i : Int))).map fun l => t2 ((MM t : Nat) + (i : Int)) l) = pre.or ((bareRL b m t p fr ((MM t : Nat) + (i : Int))).map fun l => t2 ((MM t : Nat) + (i : Int)) l) := by
        rw [List.range_succ, List.findSome?_append, ← hpre]
        congr 1
        rw [List.findSome?_cons, List.findSome?_nil]
        cases (bareRL b m t p fr ((MM t : Nat) + (i : Int))).map (fun l => t2 ((MM t : Nat) + (i : Int)) l) <;> rfl
      rw [nextE]
      obtain ⟨u, hue⟩ : ∃ u : Int, (MM t : Int) + (i : Int) = u := ⟨_, rfl⟩
      rw [hue] at hu iu hbl hlo hu2 ⊢
      refine ((ok_for (fun j (q : D × D) d' => ∃ es, q.2 = .list es ∧ es.length = j ∧ (∀ (k : Nat) (x : D), es[k]? = some x → CellR b m t p fr w u ((k : Int) - halfI b p) x) ∧ q.1 = optD (pre.or (((lk (-halfI b p) (-halfI b p + (j : Int))).find? (lackRB b m t p fr u)).map fun l => t2 u l)) ∧ Dk d' (n + i * 32772 + j)) ⟨[], rfl, rfl, (fun k y hy => by cases hy), (by rw [lk_nil (by omega)]; show lk0 = optD (pre.or none); rw [Option.or_none]; exact hlk0), by simpa using hd1⟩ ?_).mono ?_)
      · as_aux_lemma =>
          rintro j x ⟨lk1, _⟩ d2 hx2 ⟨es, rfl, hej, hep, hlk1, hd2⟩
          obtain ⟨hj, rfl⟩ := rgL_get2 hx2
          have il : Sz (0 - halfI b p + (j : Int)) 60 := ⟨by omega⟩
          have eapp : ∀ z : D, appD (.list es) z = some (.list (es ++ [z])) := fun z => d_app (by omega)
          have hlk1 : lk1 = optD (pre.or (((lk (-halfI b p) (-halfI b p + (j : Int))).find? (lackRB b m t p fr u)).map fun l => t2 u l)) := hlk1
          have eL : (lk (-halfI b p) (-halfI b p + ((j + 1 : Nat) : Int))).find? (lackRB b m t p fr u) = ((lk (-halfI b p) (-halfI b p + (j : Int))).find? (lackRB b m t p fr u)).or (if lackRB b m t p fr u (0 - halfI b p + (j : Int)) then some (0 - halfI b p + (j : Int)) else none) := by
            rw [lk_app (a := -halfI b p) (b := -halfI b p + (j : Int)) (c := -halfI b p + ((j + 1 : Nat) : Int)) (by omega) (by omega), List.find?_append, lk_cons (a := -halfI b p + (j : Int)) (by omega), lk_nil (show -halfI b p + ((j + 1 : Nat) : Int) ≤ -halfI b p + (j : Int) + 1 by omega), List.find?_cons, List.find?_nil, show 0 - halfI b p + (j : Int) = -halfI b p + (j : Int) by omega]
            cases lackRB b m t p fr u (-halfI b p + (j : Int)) <;> rfl
          have fin : ∀ (z q : D) (d3 : D), CellR b m t p fr w u (0 - halfI b p + (j : Int)) z → Dk d3 (n + i * 32772 + j + 1) → q = optD (pre.or (((lk (-halfI b p) (-halfI b p + ((j + 1 : Nat) : Int))).find? (lackRB b m t p fr u)).map fun l => t2 u l)) → ∃ es', PyData.list (es ++ [z]) = .list es' ∧ es'.length = j + 1 ∧ (∀ (k : Nat) (x : D), es'[k]? = some x → CellR b m t p fr w u ((k : Int) - halfI b p) x) ∧ q = optD (pre.or (((lk (-halfI b p) (-halfI b p + ((j + 1 : Nat) : Int))).find? (lackRB b m t p fr u)).map fun l => t2 u l)) ∧ Dk d3 (n + i * 32772 + (j + 1)) := fun z q d3 hz hd3 hq => ⟨_, rfl, by rw [List.length_append, List.length_singleton, hej], fun k x hk => by
            by_cases c : k < es.length
            · rw [List.getElem?_append_left c] at hk; exact hep k x hk
            · have : k = es.length := by
                have := (List.getElem?_eq_some_iff.mp hk).1
                rw [List.length_append, List.length_singleton] at this
                omega
              subst this
              rw [List.getElem?_append_right (Nat.le_refl _), Nat.sub_self] at hk
              cases hk
              rw [hej, show (j : Int) - halfI b p = 0 - halfI b p + (j : Int) by omega]; exact hz, hq, hd3⟩
          have same : lackRB b m t p fr u (0 - halfI b p + (j : Int)) = false → lk1 = optD (pre.or (((lk (-halfI b p) (-halfI b p + ((j + 1 : Nat) : Int))).find? (lackRB b m t p fr u)).map fun l => t2 u l)) := fun e => by
            rw [eL, e, hlk1]
            cases (lk (-halfI b p) (-halfI b p + (j : Int))).find? (lackRB b m t p fr u) <;> rfl
          walk_at "fj"
          rw [show PyData.tuple [PyData.int u, .int (0 - halfI b p + (j : Int))] = t2 u (0 - halfI b p + (j : Int)) from rfl, e_law_root_good hk hf (by omega) (by omega) iu il, law_good_asked hk t1 hf2 hu2 (by omega) (by omega)]
          walk_at "fj"
          cases hask : askB b m t p fr u (0 - halfI b p + (j : Int)) with
          | false =>
            rw [if_neg (by decide), show eqD .none (.list []) = some (.bool false) from rfl]
            walk_at "fj"
            rw [eapp]
            walk_at "fj"
            refine ok_pu ⟨_, .inl rfl, fin _ _ _ ⟨.inl ⟨rfl, fun z => by rw [hask] at z; cases z⟩, fun _ => ?_⟩ (hd2.le (by omega)) (same (by unfold lackRB; rw [hask]; rfl))⟩
            unfold rPl
            rw [hask]; rfl
          | true =>
            rw [if_pos rfl]
            have eq0 : eqD (.list ((rG b m t p fr u (0 - halfI b p + (j : Int))).map .int)) (.list []) = some (.bool (decide (rG b m t p fr u (0 - halfI b p + (j : Int)) = []))) := d_eqL _ []
            rw [eq0]
            walk_at "fj"
            by_cases c : rG b m t p fr u (0 - halfI b p + (j : Int)) = []
            · rw [decide_eq_true c]
              have hl : lackRB b m t p fr u (0 - halfI b p + (j : Int)) = true := by unfold lackRB; rw [hask, decide_eq_true c]; rfl
              have cc : CellR b m t p fr w u (0 - halfI b p + (j : Int)) .none := ⟨.inl ⟨rfl, fun _ => c⟩, fun _ => by
                unfold rPl
                rw [hask, c]; rfl⟩
              walk_at "fj"
              have hno := optD_none (x := pre.or (((lk (-halfI b p) (-halfI b p + (j : Int))).find? (lackRB b m t p fr u)).map fun l => t2 u l)) (by
                cases pre with
                | some d => exact fun d' e => g0 d' e
                | none =>
                  intro d' e
                  obtain ⟨l, _, e3⟩ := Option.map_eq_some_iff.mp e
                  exact ⟨_, _, e3.symm⟩)
              rw [← hlk1] at hno
              rw [hno]
              cases hc : pre.or (((lk (-halfI b p) (-halfI b p + (j : Int))).find? (lackRB b m t p fr u)).map fun l => t2 u l) with
              | none =>
                have h1 := Option.or_eq_none_iff.mp hc
                rw [show (none : Option D).isNone = true from rfl]
                walk_at "fj"
                rw [eapp]
                walk_at "fj"
                refine ok_pu ⟨_, .inl rfl, fin _ _ _ cc (hd2.le (by omega)) ?_⟩
                rw [eL, hl, h1.1, Option.map_eq_none_iff.mp h1.2]
                rfl
              | some z =>
                walk_at "fj"
                rw [show (some z : Option D).isNone = false from rfl]
                walk_at "fj"
                rw [eapp]
                walk_at "fj"
                refine ok_pu ⟨_, .inl rfl, fin _ _ _ cc (hd2.le (by omega)) ?_⟩
                rw [hlk1, eL]
                cases pre with
                | some d => rfl
                | none =>
                  cases hf : (lk (-halfI b p) (-halfI b p + (j : Int))).find? (lackRB b m t p fr u) with
                  | none => rw [hf] at hc; cases hc
                  | some l => rfl
            · rw [decide_eq_false c]
              walk_at "fj"
              have hl : lackRB b m t p fr u (0 - halfI b p + (j : Int)) = false := by unfold lackRB; rw [hask, decide_eq_false c]; rfl
              have sm := same hl
              obtain ⟨k1, hk1, e1⟩ := d_minA c
              have hmin : minA (rG b m t p fr u (0 - halfI b p + (j : Int))) = some k1 := by
                have e9 : minAD [.list ((rG b m t p fr u (0 - halfI b p + (j : Int))).map .int)] = (minA (rG b m t p fr u (0 - halfI b p + (j : Int)))).map PyData.int := by
                  show (match intsOf ((rG b m t p fr u (0 - halfI b p + (j : Int))).map PyData.int) with | some ns => (minA ns).map PyData.int | none => none) = _
                  rw [intsOf_of]
                rw [e9] at e1
                obtain ⟨q, hq, e8⟩ := Option.map_eq_some_iff.mp e1
                cases e8
                exact hq
              obtain ⟨k3, hk3, e3⟩ := ix_last c
              have glen := rG_len (b := b) (m := m) (t := t) (p := p) (fr := fr) (u := u) (l := 0 - halfI b p + (j : Int))
              have gpos : 0 < (rG b m t p fr u (0 - halfI b p + (j : Int))).length := List.length_pos_iff.mpr c
              have cc : ∀ f, f ∈ rG b m t p fr u (0 - halfI b p + (j : Int)) → (w = 0 → f = k1) → CellR b m t p fr w u (0 - halfI b p + (j : Int)) (.int f) := fun f hf h0 => ⟨.inr ⟨f, rfl, hask, hf⟩, fun z => by unfold rPl; rw [hask, hmin, h0 z]; rfl⟩
              clear hmin
              rw [e1]
              walk_at "fj"
              generalize rG b m t p fr u (0 - halfI b p + (j : Int)) = gl at *
              refine ok_bd (ok_bd (ok_qx ((ok_pick hd2 (by omega) (by rw [List.length_map]; omega) (by rw [List.length_map]; exact log_of (k := 10) (by omega) (by omega) (by omega))).mono ?_)))
              rintro _ d3 ⟨v, rfl, v0, v1, hd3⟩
              rw [List.length_map] at v1
              obtain ⟨k2, hk2, e2⟩ := ix_ints v0 v1
              rw [e2]
              walk_at "fj"
              rw [e3]
              walk_at "fj"
              have hw3 : w = 0 ∨ w = 1 ∨ w = 2 := by omega
              rcases hw3 with e | e | e
              · subst e
                rw [d_ixl0]
                walk_at "fj"
                refine ok_pu ?_
                walk_at "fj"
                rw [eapp]
                walk_at "fj"
                exact ok_pu ⟨_, .inl rfl, fin _ _ _ (cc _ hk1 fun _ => rfl) hd3 sm⟩
              · subst e
                rw [d_ixl1]
                walk_at "fj"
                refine ok_pu ?_
                walk_at "fj"
                rw [eapp]
                walk_at "fj"
                exact ok_pu ⟨_, .inl rfl, fin _ _ _ (cc _ hk2 fun z => by cases z) hd3 sm⟩
              · subst e
                rw [d_ixl2]
                walk_at "fj"
                refine ok_pu ?_
                walk_at "fj"
                rw [eapp]
                walk_at "fj"
                exact ok_pu ⟨_, .inl rfl, fin _ _ _ (cc _ hk3 fun z => by cases z) hd3 sm⟩
      · as_aux_lemma =>
          rintro _ d4 ⟨⟨lk2, _⟩, rfl, es, rfl, hel, hep, hlk2, hd4⟩
          have hlk2 : lk2 = _ := hlk2
          rw [hl2] at hel hd4
          rw [hl2, show -halfI b p + ((NN b p : Nat) : Int) = halfI b p by omega, hbl] at hlk2
          refine ⟨_, rfl, ?_⟩
          walk_at "fj"
          rw [d_app (by omega)]
          walk_at "fj"
          refine ok_pu ⟨_, .inl rfl, _, rfl, by rw [List.length_append, List.length_singleton, hri], fun k y hy => ?_, hlk2, hd4.le (by rw [Nat.add_mul]; omega)⟩
          by_cases c : k < rows.length
          · rw [List.getElem?_append_left c] at hy; exact hrp k y hy
          · have : k = rows.length := by
              have := (List.getElem?_eq_some_iff.mp hy).1
              rw [List.length_append, List.length_singleton] at this
              omega
            subst this
            rw [List.getElem?_append_right (Nat.le_refl _), Nat.sub_self] at hy
            cases hy
            refine ⟨es, rfl, ?_⟩
            rw [hri, hue]
            exact ⟨hel, hep⟩
  · as_aux_lemma =>
      rintro _ d5 ⟨⟨lk3, _⟩, rfl, rows, rfl, hri, hrp, hlk3, hd5⟩
      have hlk3 : lk3 = _ := hlk3
      rw [hl1] at hri hd5 hlk3
      refine ⟨_, rfl, ?_⟩
      walk_at "fj"
      obtain ⟨R, eR, hR⟩ := tab_of (m := m) (N := NN b p) hri (fun y hy => by
        obtain ⟨k, hk⟩ := List.mem_iff_getElem?.mp hy
        obtain ⟨r, e, hr⟩ := hrp k y hk
        exact ⟨r, e, hr.e⟩)
      have hG : ∀ i, i < MM t → rows[i]? = some (.list (R i)) := fun i hi => by
        have e9 : rows = (List.range (MM t)).map fun i => .list (R i) := by injection eR
        rw [e9, List.getElem?_map, List.getElem?_range hi]; rfl
      rw [eR, hlk3]
      exact ok_pu ⟨_, .inl rfl, R, rfl, fun i hi => by
        obtain ⟨r, e, hr⟩ := hrp i _ (hG i hi)
        injection e with e
        rw [e]; exact hr, hd5.le (by have : MM t * 32772 ≤ 512 * 32772 := Nat.mul_le_mul_right _ hm2; omega)⟩
end
theorem mkX_nt {u l : Int} (hu : u.natAbs < 2 ^ 100) (hl : l.natAbs < 2 ^ 100) : mkX "NoTable" [.int u, .int l] = some (exD "NoTable" [u, l]) := by
  have h1 : u.natAbs.log2 < 1900 := by
    by_cases z : u.natAbs = 0
    · rw [z]; decide
    · have := (Nat.log2_lt z).mpr hu
      omega
  have h2 : l.natAbs.log2 < 1900 := by
    by_cases z : l.natAbs = 0
    · rw [z]; decide
    · have := (Nat.log2_lt z).mpr hl
      omega
  unfold mkX
  rw [show intsD [PyData.int u, .int l] = some [u, l] from rfl]
  refine if_pos ⟨(show (fldsX "NoTable").length = 2 by decide +kernel).symm, by simp, ?_⟩
  simp only [List.all_cons, List.all_nil, Bool.and_true, Bool.and_eq_true, decide_eq_true_eq]
  exact ⟨h1, h2⟩
theorem e_name_w (e : D) (n : Str) (b1 b2 b3 b4 b5 b6 b7 : Bool) (h : nmX e = n) (h1 : isq "NoFigure" n = b1) (h2 : isq "NoLooks" n = b2) (h3 : isq "NoRoom" n = b3) (h4 : isq "NoRow" n = b4) (h5 : isq "NoTable" n = b5) (h6 : isq "NoText" n = b6) (h7 : isq "Spoilt" n = b7) : m__law_name_of e = fin ((bd (SM.join (pu (.str "")) (SM.lc (itZ (ac (pu (.list [.str "NoFigure", .str "NoLooks", .str "NoRoom", .str "NoRow", .str "NoTable", .str "NoText", .str "Spoilt", .str "+"])) (ac (pu (.list [.bool b1, .bool b2, .bool b3, .bool b4, .bool b5, .bool b6, .bool b7, .bool true])) a0))) (fun z => unp2 z fun name kind => (SM.tr (pu kind))) (fun z => unp2 z fun name kind => (pu name)))) fun x => pu (.rt x)) : SM Unit (Fl Unit Empty)) := by
  unfold m__law_name_of
  rw [h, h1, h2, h3, h4, h5, h6, h7]
  rfl
theorem minA_near {ns : List Int} {f : Int} (nd : ns.Nodup) (hf : f ∈ ns) (h : ∀ g ∈ ns, g ≠ f → f.natAbs < g.natAbs) : minA ns = some f := by
  obtain ⟨i, hi⟩ := List.mem_iff_getElem?.mp hf
  refine minA_first hi fun j g hg => ?_
  by_cases e : g = f
  · subst e
    refine ⟨Nat.le_refl _, fun hj => ?_⟩
    have := (List.getElem?_inj (List.getElem?_eq_some_iff.mp hg).1 nd).mp (hg.trans hi.symm)
    omega
  · have := h g (List.mem_of_getElem? hg) e
    exact ⟨by omega, fun _ => this⟩
section
variable {b m u : Int} {t p fr : Nat}
theorem RowCR.g {w : Int} {r : List D} (hg : Lg b m t p) (h : RowCR b m t p fr w u r) (hn : bareRL b m t p fr u = none) : RowR b m t p fr u r := by
  refine ⟨h.e, fun l l1 l2 => ?_⟩
  have fl := fi_la (b := b) (m := m) (t := t) (p := p) (fr := fr) (u := u)
  have hb := hg.hb
  have hN : NN b p = (2 * halfI b p).toNat := rfl
  have hk : (l + halfI b p).toNat < r.length := by have := h.1; omega
  have hx := (h.2 _ _ (List.getElem?_eq_getElem hk)).1
  rw [show (((l + halfI b p).toNat : Nat) : Int) - halfI b p = l by omega] at hx
  have hm : askB b m t p fr u l = true := by
    unfold askB
    rw [decide_eq_true l1, decide_eq_true l2]; rfl
  have ee : entA r (halfI b p) l = r[(l + halfI b p).toNat] := by
    unfold entA
    rw [List.getD_eq_getElem?_getD, List.getElem?_eq_getElem hk]; rfl
  rcases hx with ⟨_, e⟩ | ⟨f, e, _, hf⟩
  · exact absurd (e hm) (bareRL_none.mp hn l l1 l2)
  · have q := mem_rG hf
    exact ⟨f, q.1, q.2.1, q.2.2, by rw [ee, e]⟩
theorem e_plain_rowRT (hg : Lg b m t p) (k : Rmo b m t p fr u) (gap : ∀ f, -m ≤ f → f < m → stF m (fiF b m t p fr u) (rtA b m t p fr u) (f + 1) ≤ spF m (laF b m t p fr u) (rtZ b m t p fr u) f + 1) : m_plain_row (.int (halfI b p)) (.list (rtSp b m t p fr u)) = pu (.list (plRR b m t p fr u)) := by
  have kb := hg.kd.bd
  have hb := hg.hb
  have fl := fi_la (b := b) (m := m) (t := t) (p := p) (fr := fr) (u := u)
  have hN : NN b p = (2 * halfI b p).toNat := rfl
  obtain ⟨r, e, r1, r2, r3⟩ := e_plain_rowX (m := m) (first := fiF b m t p fr u) (last := laF b m t p fr u) (half := halfI b p) (A := rtA b m t p fr u) (Z := rtZ b m t p fr u) ⟨kb.2.2.1, by omega⟩ fl.1 fl.2 (by omega) k.o gap k.le k.ge
  rw [show rtSp b m t p fr u = spansD m (fiF b m t p fr u) (laF b m t p fr u) (rtA b m t p fr u) (rtZ b m t p fr u) from rfl, e]
  refine congrArg (fun z => pu (PyData.list z)) (List.ext_getElem? fun q => ?_)
  by_cases hk : q < r.length
  · have ek : (plRR b m t p fr u)[q]? = some (rPl b m t p fr u ((q : Int) - halfI b p)) := by
      unfold plRR
      rw [List.getElem?_map, List.getElem?_range (by omega)]; rfl
    rw [ek]
    by_cases c : fiF b m t p fr u + halfI b p ≤ (q : Int) ∧ (q : Int) ≤ laF b m t p fr u + halfI b p
    · obtain ⟨f, f1, f2, f3, f4, f5, f6, f7⟩ := r3 q c.1 c.2
      rw [f7]
      obtain ⟨l, el⟩ : ∃ l : Int, l = (q : Int) - halfI b p := ⟨_, rfl⟩
      rw [← el] at f3 f4 f5 f6 ⊢
      have hm : askB b m t p fr u l = true := by
        unfold askB
        rw [decide_eq_true (show fiF b m t p fr u ≤ l by omega), decide_eq_true (show l ≤ laF b m t p fr u by omega)]; rfl
      have hmin : minA (rG b m t p fr u l) = some f := by
        refine minA_near ((figs_nodup m).filter _) (mem_rGi.mpr ⟨⟨f1, f2⟩, f3, f4⟩) fun g hgm hne => ?_
        obtain ⟨⟨g1, g2⟩, g3, g4⟩ := mem_rGi.mp hgm
        rcases (show 0 < f ∨ f = 0 ∨ f < 0 by omega) with z | z | z
        · by_cases q : g ≤ f - 1
          · have := k.mP g (f - 1) g1 q (by omega)
            have := f5 z
            omega
          · omega
        · omega
        · by_cases q : f + 1 ≤ g
          · have := k.mS (f + 1) g (by omega) q g2
            have := f6 z
            omega
          · omega
      unfold rPl
      rw [if_pos hm, hmin]
    · rw [r2 q hk c]
      have hm : askB b m t p fr u ((q : Int) - halfI b p) = false := by
        unfold askB
        by_cases z : fiF b m t p fr u ≤ (q : Int) - halfI b p
        · rw [decide_eq_false (show ¬ (q : Int) - halfI b p ≤ laF b m t p fr u by omega), Bool.and_false]
        · rw [decide_eq_false z]; rfl
      unfold rPl
      rw [hm]; rfl
  · rw [List.getElem?_eq_none (by omega), List.getElem?_eq_none (by unfold plRR; rw [List.length_map, List.length_range]; omega)]
end
section
variable {b m : Int} {t p fr : Nat}
theorem bareRC_at (h : Lg b m t p) {d : D} (e : bareRC b m t p fr = some d) : ∃ u l : Int, d = t2 u l ∧ u.natAbs < 2 ^ 100 ∧ l.natAbs < 2 ^ 100 := by
  obtain ⟨i, l, hi, rfl, hl⟩ := bareRC_some e
  obtain ⟨l1, l2, _⟩ := bareRL_some.mp hl
  have fl := fi_la (b := b) (m := m) (t := t) (p := p) (fr := fr) (u := (MM t : Nat) + (i : Int))
  have hb := h.hb
  have hm := h.mb
  exact ⟨_, l, rfl, by omega, by omega⟩
theorem e_refuse_root (h : Lg b m t p) (hR : ∀ i, i < MM t → Rmo b m t p fr ((MM t : Nat) + (i : Int))) : m_refuse_bare (.list (rsheetD b m t p fr)) = match bareRC b m t p fr with
    | none => pu .none
    | some d => match d with
      | .tuple [.int u, .int l] => raise (exD "NoTable" [u, l])
      | _ => bad := by
  have kb := h.kd.bd
  unfold m_refuse_bare
  walk_at "ev"
  rw [e_first_bareR ⟨kb.2.2.1, by omega⟩ hR]
  cases e : bareRC b m t p fr with
  | none =>
    rw [show optD none = PyData.none from rfl]
    walk_at "ev"
  | some d =>
    obtain ⟨u, l, rfl, hu, hl⟩ := bareRC_at h e
    rw [show optD (some (t2 u l)) = t2 u l from rfl]
    walk_at "ev"
    rw [mkX_nt hu hl]
    walk_at "ev"
    rfl
theorem e_root_tableN (h : Lg b m t p) (hf : fr ≤ 100) (hR : ∀ i, i < MM t → Rmo b m t p fr ((MM t : Nat) + (i : Int))) {u l : Int} (e : bareRC b m t p fr = some (t2 u l)) : m_root_table (t2 b m) (t2 t p) (.int (fr : Int)) = raise (exD "NoTable" [u, l]) := by
  have er := e_refuse_root h hR
  rw [e] at er
  unfold m_root_table m_plain_rows
  walk_at "ev"
  rw [e_half_of h.kd h.p10, e_root_sheet h hf]
  walk_at "ev"
  rw [er]
  walk_at "ev"
theorem e_root_tableX (h : Lg b m t p) (hf : fr ≤ 100) (hR : ∀ i, i < MM t → Rmo b m t p fr ((MM t : Nat) + (i : Int))) (hc : rkB b m t p fr = true) (e : bareRC b m t p fr = none) : m_root_table (t2 b m) (t2 t p) (.int (fr : Int)) = pu (tabD t fun i => plRR b m t p fr ((MM t : Nat) + (i : Int))) := by
  have hm := h.mb
  have er := e_refuse_root h hR
  rw [e] at er
  unfold m_root_table m_plain_rows
  walk_at "ev"
  rw [e_half_of h.kd h.p10, e_root_sheet h hf]
  walk_at "ev"
  rw [er]
  walk_at "ev"
  have es : rsheetD b m t p fr = (lk (MM t) (2 * (MM t : Nat))).map fun u => .tuple [.int u, .list (rtSp b m t p fr u)] := by
    unfold rsheetD lk
    rw [List.map_map, show ((2 * (MM t : Nat) : Int) - (MM t : Nat)).toNat = MM t by omega]
    rfl
  rw [es, r_lc, lc_ints2 (g := fun u => .list (plRR b m t p fr u)) (fun u => .tuple [.int u, .list (rtSp b m t p fr u)]) _ _ (fun _ _ => rfl) (fun u hu => ?_) (by rw [List.length_nil, lk_len]; omega), List.nil_append]
  · walk_at "ev"
    unfold tabD lk
    rw [List.map_map, show ((2 * (MM t : Nat) : Int) - (MM t : Nat)).toNat = MM t by omega]
    exact congrArg (fun l => pu (PyData.list l)) (List.map_congr_left fun i hi => rfl)
  · have hu' := mem_lk.mp hu
    have hi : (u - (MM t : Nat)).toNat < MM t := by omega
    have := e_plain_rowRT h (hR _ hi) (rk_of hc hi).gap
    rw [show (MM t : Int) + (((u - (MM t : Nat)).toNat : Nat) : Int) = u by omega] at this
    walk_at "ev"
    rw [this]
    walk_at "ev"
theorem e_name_tableR (u l : Int) : m__law_name_of (exD "NoTable" [u, l]) = pu (.str "NoTable+") := by
  rw [e_name_w _ "NoTable" false false false false true false false rfl (by decide +kernel) (by decide +kernel) (by decide +kernel) (by decide +kernel) (by decide +kernel) (by decide +kernel) (by decide +kernel)]
  rfl
theorem e_told_rootN (h : Lg b m t p) (hf : fr ≤ 100) (hR : ∀ i, i < MM t → Rmo b m t p fr ((MM t : Nat) + (i : Int))) {u l : Int} (e : bareRC b m t p fr = some (t2 u l)) : m__law_told (t2 b m) (t2 t p) (.int (fr : Int)) = pu (.tuple [.none, .tuple [.str "NoTable+", .list [t2 u l]]]) := by
  unfold m__law_told
  walk_at "ev"
  rw [e_root_tableN h hf hR e]
  walk_at "ev"
  rw [tryS_raise, if_pos (show isa (nmX (exD "NoTable" [u, l])) = true from rfl), e_name_tableR, show nmX (exD "NoTable" [u, l]) = "NoTable" from rfl, show isq "NoTable" "NoTable" = true by decide +kernel, show fldX "top" (exD "NoTable" [u, l]) = some (.int u) from rfl, show fldX "look" (exD "NoTable" [u, l]) = some (.int l) from rfl]
  walk_at "ev"
theorem e_told_rootY (h : Lg b m t p) (hf : fr ≤ 100) (hR : ∀ i, i < MM t → Rmo b m t p fr ((MM t : Nat) + (i : Int))) (hc : rkB b m t p fr = true) (e : bareRC b m t p fr = none) : m__law_told (t2 b m) (t2 t p) (.int (fr : Int)) = pu (.tuple [tabD t fun i => plRR b m t p fr ((MM t : Nat) + (i : Int)), .none]) := by
  unfold m__law_told
  walk_at "ev"
  rw [e_root_tableX h hf hR hc e]
  walk_at "ev"
  rw [tryS_pu]
  walk_at "ev"
end
theorem ixN_nat2 {n v : Nat} (h : v < n) : ixN n (v : Int) = some v := by
  unfold ixN
  rw [if_pos (by omega), if_pos (by omega), Int.toNat_natCast]
theorem idx_nat2 {rows : List D} {v : Nat} {y : D} (h : rows[v]? = some y) : idxD (.list rows) (.int (v : Int)) = some y := atI_nat h
theorem setD_nat {rows : List D} {v : Nat} {y : D} (h : v < rows.length) : setD (.list rows) (.int (v : Int)) y = some (.list (rows.set v y)) := by
  show (match ixN rows.length (v : Int) with | some j => some (PyData.list (rows.set j y)) | none => none) = _
  rw [ixN_nat2 h]
theorem set2D_nat {rows r : List D} {v w : Nat} {z : D} (h : rows[v]? = some (.list r)) (hw : w < r.length) : set2D (.list rows) (.int (v : Int)) (.int (w : Int)) z = some (.list (rows.set v (.list (r.set w z)))) := by
  have hv : v < rows.length := (List.getElem?_eq_some_iff.mp h).1
  unfold set2D
  rw [idx_nat2 h]
  show (match setD (.list r) (.int (w : Int)) z with | some r' => setD (.list rows) (.int (v : Int)) r' | none => none) = _
  rw [setD_nat hw]
  exact setD_nat hv
/-- rows of a table -/
def RowsE (m : Int) (M N : Nat) (rows : List D) : Prop := rows.length = M ∧ ∀ y ∈ rows, ∃ r, y = .list r ∧ RowE m N r
theorem RowsE.set {m : Int} {M N : Nat} {rows r : List D} {v : Nat} (h : RowsE m M N rows) (hr : RowE m N r) : RowsE m M N (rows.set v (.list r)) :=
  ⟨by rw [List.length_set]; exact h.1, fun y hy => by
    rcases List.mem_or_eq_of_mem_set hy with e | e
    · exact h.2 y e
    · exact ⟨r, e, hr⟩⟩
theorem RowE.set {m : Int} {N : Nat} {r : List D} {v : Nat} {z : D} (h : RowE m N r) (hz : entB m z = true) : RowE m N (r.set v z) :=
  ⟨by rw [List.length_set]; exact h.len, fun x hx => by
    rcases List.mem_or_eq_of_mem_set hx with e | e
    · exact h.ent x e
    · rw [e]; exact hz⟩
theorem RowsE.get {m : Int} {M N : Nat} {rows : List D} {v : Nat} (h : RowsE m M N rows) (hv : v < M) : ∃ r, rows[v]? = some (.list r) ∧ RowE m N r := by
  have h1 : v < rows.length := by rw [h.1]; exact hv
  obtain ⟨r, e, hr⟩ := h.2 _ (List.getElem_mem h1)
  exact ⟨r, by rw [List.getElem?_eq_getElem h1, e], hr⟩
theorem rep_row {m : Int} {N : Nat} {z : D} (hz : entB m z = true) (hN : N ≤ 1000000) : ∃ r, repD (.list [z]) (.int (N : Int)) = some (.list r) ∧ RowE m N r := by
  refine ⟨(List.replicate N [z]).flatten, ?_, ?_⟩
  · have er : repD (.list [z]) (.int (N : Int)) = if -(2 ^ 63) ≤ (N : Int) ∧ (N : Int) < 2 ^ 63 ∧ [z].length * (N : Int).toNat ≤ sizeLine then some (.list (List.replicate (N : Int).toNat [z]).flatten) else none := rfl
    have h3 : [z].length * (N : Int).toNat ≤ sizeLine := line_le (by rw [Int.toNat_natCast, List.length_singleton]; omega)
    have h4 : -(2 ^ 63) ≤ (N : Int) := by omega
    have h5 : (N : Int) < 2 ^ 63 := by omega
    rw [er, if_pos ⟨h4, h5, h3⟩, Int.toNat_natCast]
  · refine ⟨by simp, fun x hx => ?_⟩
    obtain ⟨l, hl, hx⟩ := List.mem_flatten.mp hx
    rw [(List.mem_replicate.mp hl).2, List.mem_singleton] at hx
    rw [hx]; exact hz
theorem ok_law_spoilt {b m : Int} {t p : Nat} {M N : Nat} {rows : List D} {d : D} {n : Nat} {lo : D} (hk : Kd b m) (hM : 1 ≤ M ∧ M ≤ 512) (hN : 1 ≤ N ∧ N ≤ 40000) (hR : RowsE m M N rows) (hd : Dk d n) (hn : n ≤ 800000000) :
    Ok (m__law_spoilt (t2 b m) lo (.list rows)) d fun x d' => ∃ rows', x = .list rows' ∧ RowsE m M N rows' ∧ Dk d' (n + 100) := by
  have kb := hk.bd
  have im : Sz (2 * m + 1) 64 := ⟨by omega⟩
  have hlen := hR.1
  unfold m__law_spoilt
  refine ok_fin ?_
  walk_at "fj"
  rw [r_lc, lc_map (g := fun x => x) _ _ (fun _ _ => rfl) (fun x hx => by obtain ⟨r, rfl, _⟩ := hR.2 x hx; rfl) (line_le (by rw [List.length_nil]; omega)), List.nil_append, List.map_id']
  walk_at "fj"
  refine ok_sq (ok_bd (ok_qx ((ok_pick hd (by omega) (by decide) (by decide)).mono ?_)))
  rintro _ d1 ⟨v, rfl, v0, v1, hd1⟩
  obtain ⟨k, rfl⟩ := Int.eq_ofNat_of_zero_le v0
  walk_at "fj"
  rw [d_rng1 (by omega) (by omega)]
  refine ok_of1 ?_
  have hl : (rgL 0 (k : Int)).length = k := by rw [rgL_len]; omega
  refine ((ok_for (fun i (s : D) d' => ∃ rows, s = .list rows ∧ RowsE m M N rows ∧ Dk d' (n + 1 + i * 6)) ⟨rows, rfl, hR, by simpa using hd1⟩ ?_).mono ?_)
  · as_aux_lemma =>
      rintro i x _ d2 hx ⟨rows, rfl, hR, hd2⟩
      have hi : i < k := by rw [← hl]; exact (List.getElem?_eq_some_iff.mp hx).1
      have hlen := hR.1
      walk_at "fj"
      refine ok_bd (ok_qx ((ok_pick hd2 (by omega) (by omega) (log_of (k := 10) (by omega) (by omega) (by omega))).mono ?_))
      rintro _ d3 ⟨a, rfl, a0, a1, hd3⟩
      obtain ⟨a, rfl⟩ := Int.eq_ofNat_of_zero_le a0
      obtain ⟨r0, e0, hr0⟩ := hR.get (v := 0) (by omega)
      have hr0l := hr0.len
      walk_at "fj"
      rw [show idxD (.list rows) (.int 0) = some (.list r0) from idx_nat2 (v := 0) e0]
      walk_at "fj"
      refine ok_bd (ok_qx ((ok_pick hd3 (by omega) (by omega) (log_of (k := 16) (by omega) (by omega) (by omega))).mono ?_))
      rintro _ d4 ⟨c, rfl, c0, c1, hd4⟩
      obtain ⟨c, rfl⟩ := Int.eq_ofNat_of_zero_le c0
      walk_at "fj"
      rw [d_mul (fit_sz (n := 2) (by omega)) (fit_of (n := 5) (by omega) (by omega))]
      walk_at "fj"
      refine ok_bd (ok_qx ((ok_pick hd4 (by omega) (by omega) (log_sz (by omega) (by omega))).mono ?_))
      rintro _ d5 ⟨f, rfl, f0, f1, hd5⟩
      walk_at "fj"
      refine ok_bd (ok_qx ((ok_pick hd5 (by omega) (by decide) (by decide)).mono ?_))
      rintro _ d6 ⟨g, rfl, g0, g1, hd6⟩
      walk_at "fj"
      obtain ⟨z, ez, hz⟩ : ∃ z, idxD (.list [.none, .int (f - m)]) (.int (if decide (0 < g) = true then 1 else 0)) = some z ∧ entB m z = true := by
        by_cases q : 0 < g
        · rw [decide_eq_true q]
          exact ⟨_, d_ixl1 _ _ _, entB_int (by omega) (by omega)⟩
        · rw [decide_eq_false q]
          exact ⟨_, d_ixl0 _ _, rfl⟩
      rw [ez]
      walk_at "fj"
      obtain ⟨ra, ea, hra⟩ := hR.get (v := a) (by omega)
      have hral := hra.len
      rw [idx_nat2 ea]
      walk_at "fj"
      rw [set2D_nat ea (by omega)]
      walk_at "fj"
      have hR2 := hR.set (v := a) (hra.set (v := c) hz)
      refine ok_bd (ok_qx ((ok_pick hd6 (by omega) (by decide) (by decide)).mono ?_))
      rintro _ d7 ⟨w, rfl, w0, w1, hd7⟩
      walk_at "fj"
      by_cases q : w = 0
      · rw [decide_eq_true q]
        walk_at "fj"
        obtain ⟨r2, e2, hr2⟩ := hR2.get (v := 0) (by omega)
        rw [show idxD _ (.int 0) = some (.list r2) from idx_nat2 (v := 0) e2]
        walk_at "fj"
        rw [hr2.len]
        obtain ⟨rr, er, hrr⟩ := rep_row (N := N) hz (by omega)
        rw [er]
        walk_at "fj"
        rw [setD_nat (by rw [hR2.1]; omega)]
        walk_at "fj"
        exact ok_pu ⟨_, .inl rfl, _, rfl, hR2.set hrr, hd7.le (by omega)⟩
      · rw [decide_eq_false q]
        walk_at "fj"
        exact ok_pu ⟨_, .inl rfl, _, rfl, hR2, hd7.le (by omega)⟩
  · rintro _ d8 ⟨_, rfl, rows', rfl, hR', hd8⟩
    rw [hl] at hd8
    refine ⟨_, rfl, ?_⟩
    walk_at "fj"
    exact ok_pu ⟨_, .inl rfl, rows', rfl, hR', hd8.le (by omega)⟩
theorem d_inN (f : Int) (xs : List Int) : inD true (.int f) (.list (xs.map .int)) = some (.bool (!decide (f ∈ xs))) := by
  show (if (flatD (.int f) && (xs.map PyData.int).all flatD) = true then some (PyData.bool (!inL (.int f) (xs.map PyData.int))) else none) = _
  have e1 : (xs.map PyData.int).all flatD = true := by
    rw [List.all_eq_true]
    intro x hx
    obtain ⟨y, _, rfl⟩ := List.mem_map.mp hx
    rfl
  rw [e1, if_pos (by rfl)]
  congr 3
  unfold inL
  rw [List.any_map, Bool.eq_iff_iff, List.any_eq_true, decide_eq_true_iff]
  constructor
  · rintro ⟨x, hx, e⟩
    have : x = f := by simpa [eqF] using e
    rw [← this]; exact hx
  · intro h
    exact ⟨f, h, by simp [eqF]⟩
theorem rg_lk (h : Int) : rgL 0 (2 * h) = (lk (-h) h).map fun l => .int (l + h) := by
  unfold rgL lk
  rw [List.map_map, show (2 * h - 0).toNat = (h - -h).toNat by omega]
  refine List.map_congr_left fun i _ => ?_
  show PyData.int (0 + (i : Int)) = .int (-h + (i : Int) + h)
  congr 1
  omega
theorem findSome_filter {g : Int → Bool} {k : Int → D} : ∀ ls : List Int, (ls.findSome? fun l => if g l = true then some (k l) else none) = (ls.filter g).head?.map k
  | [] => rfl
  | l :: ls => by
    rw [List.findSome?_cons, List.filter_cons]
    cases g l with
    | true => rfl
    | false => exact findSome_filter ls
section
variable {b m u : Int} {t p fr : Nat}
def okRB (b m : Int) (t p fr : Nat) (u l : Int) : D → Bool
  | .int f => decide (-m ≤ f) && decide (f ≤ m) && inSp m (fiF b m t p fr u) (laF b m t p fr u) (rtA b m t p fr u) (rtZ b m t p fr u) l f
  | _ => false
def badRR (b m : Int) (t p fr : Nat) (u half : Int) (r : List D) : List Int := (lk (fiF b m t p fr u) (laF b m t p fr u + 1)).filter fun l => !okRB b m t p fr u l (entA r half l)
def dueRD (b m : Int) (t p fr : Nat) (R : Nat → List D) : Option D := (List.range (MM t)).findSome? fun (i : Nat) => (badRR b m t p fr ((MM t : Nat) + (i : Int)) (halfI b p) (R i)).head?.map fun l => t2 ((MM t : Nat) + (i : Int)) l
theorem any_okR {l : Int} {x : D} : ((figs m).any fun f => decide (stF m (fiF b m t p fr u) (rtA b m t p fr u) f ≤ l) && decide (l ≤ spF m (laF b m t p fr u) (rtZ b m t p fr u) f) && isI f x) = okRB b m t p fr u l x := by
  cases x with
  | int g =>
    rw [Bool.eq_iff_iff, List.any_eq_true]
    show _ ↔ (decide (-m ≤ g) && decide (g ≤ m) && inSp m (fiF b m t p fr u) (laF b m t p fr u) (rtA b m t p fr u) (rtZ b m t p fr u) l g) = true
    rw [Bool.and_eq_true, Bool.and_eq_true, decide_eq_true_iff, decide_eq_true_iff]
    constructor
    · rintro ⟨f, hf, h⟩
      have hf' := mem_figs hf
      rw [Bool.and_eq_true] at h
      have e : g = f := by
        have : (g == f) = true := h.2
        exact beq_iff_eq.mp this
      subst e
      exact ⟨hf', h.1⟩
    · rintro ⟨h3, h4⟩
      exact ⟨g, figs_mem h3.1 h3.2, by rw [Bool.and_eq_true]; exact ⟨h4, beq_self_eq_true g⟩⟩
  | _ =>
    show _ = false
    rw [List.any_eq_false]
    intro f _
    simp [isI]
theorem e_is_rightR {r : List D} (h : Lg b m t p) (k : Rmo b m t p fr u) (hr : RowE m (NN b p) r) : m_is_right (.int (halfI b p)) (.list (rtSp b m t p fr u)) (.list r) = pu (.bool (badRR b m t p fr u (halfI b p) r).isEmpty) := by
  have hk := h.kd
  have kb := hk.bd
  have hb := h.hb
  have hn := h.nb
  have hlen := hr.len
  have fl := fi_la (b := b) (m := m) (t := t) (p := p) (fr := fr) (u := u)
  obtain ⟨o, _, le, ge, _, _⟩ := k
  have ok := fun (l : Int) (x : D) => any_okR (b := b) (m := m) (t := t) (p := p) (fr := fr) (u := u) (l := l) (x := x)
  rw [show rtSp b m t p fr u = spansD m (fiF b m t p fr u) (laF b m t p fr u) (rtA b m t p fr u) (rtZ b m t p fr u) from rfl]
  have fdef : badRR b m t p fr u (halfI b p) r = (lk (fiF b m t p fr u) (laF b m t p fr u + 1)).filter fun l => !okRB b m t p fr u l (entA r (halfI b p) l) := rfl
  generalize hF : fiF b m t p fr u = F at *
  generalize hG : laF b m t p fr u = T at *
  generalize hA : rtA b m t p fr u = A at *
  generalize hZ : rtZ b m t p fr u = Z at *
  clear hA hZ hF hG
  unfold m_is_right
  walk_at "ev"
  have eS : spansD m F T A Z = (figs m).map fun f => t3 f (stF m F A f) (spF m T Z f) := rfl
  rw [eS, for_sum (c := fun f => (lk F (T + 1)).countP fun l => decide (stF m F A f ≤ l) && decide (l ≤ spF m T Z f) && isI f (entA r (halfI b p) l))]
  · rw [← eS]
    walk_at "ev"
    rw [sp_last kb.2.2.1, sp_first kb.2.2.1]
    walk_at "ev"
    rw [sum_count (figs_nodup m) (fun l hl f hf g hg h1 h2 => ?_)]
    · refine congrArg (fun z => pu (PyData.bool z)) ?_
      rw [fdef]
      have e2 : (lk F (T + 1)).countP (fun l => (figs m).any fun f => decide (stF m F A f ≤ l) && decide (l ≤ spF m T Z f) && isI f (entA r (halfI b p) l)) = (lk F (T + 1)).countP fun l => okRB b m t p fr u l (entA r (halfI b p) l) :=
        List.countP_congr fun l hl => by
          have hl' := mem_lk.mp hl
          rw [← ok l]
      rw [e2]
      have e3 := countP_all (P := fun l => okRB b m t p fr u l (entA r (halfI b p) l)) (ls := lk F (T + 1))
      rw [lk_len] at e3
      have e4 : ((lk F (T + 1)).filter fun l => !okRB b m t p fr u l (entA r (halfI b p) l)).isEmpty = (lk F (T + 1)).all fun l => okRB b m t p fr u l (entA r (halfI b p) l) := by
        have : ∀ ls : List Int, (ls.filter fun l => !okRB b m t p fr u l (entA r (halfI b p) l)).isEmpty = ls.all fun l => okRB b m t p fr u l (entA r (halfI b p) l) := by
          intro ls
          induction ls with
          | nil => rfl
          | cons l ls ih =>
            rw [List.filter_cons, List.all_cons]
            cases okRB b m t p fr u l (entA r (halfI b p) l) with
            | true => rw [if_neg (by decide), ih]; rfl
            | false => rfl
        exact this _
      rw [e4, Bool.eq_iff_iff, decide_eq_true_iff, ← e3]
      omega
    · rw [Bool.and_eq_true] at h1 h2
      cases hx : entA r (halfI b p) l with
      | int q =>
        rw [hx] at h1 h2
        have z1 : (q == f) = true := h1.2
        have z2 : (q == g) = true := h2.2
        rw [← beq_iff_eq.mp z1, ← beq_iff_eq.mp z2]
      | _ =>
        rw [hx] at h1
        exact absurd h1.2 (by simp [isI])
  · intro f hf a
    have hf' := mem_figs hf
    have g1 := ge f hf'.1 hf'.2
    have g2 := le f hf'.1 hf'.2
    walk_at "ev"
    by_cases c : stF m F A f ≤ spF m T Z f
    · rw [decide_eq_true c]
      walk_at "ev"
      rw [cut_lk (by omega) (by omega) (by omega) (by omega)]
      walk_at "ev"
      rw [r_cnt2]
      have ec : countD (.list ((lk (stF m F A f) (spF m T Z f + 1)).map (entA r (halfI b p)))) (.int f) = some (.int (((lk (stF m F A f) (spF m T Z f + 1)).map (entA r (halfI b p))).countP (isI f) : Nat)) := by
        refine if_pos ?_
        rw [List.all_eq_true]
        intro x hx
        obtain ⟨l, _, rfl⟩ := List.mem_map.mp hx
        rcases entB_cases (entA_ok hr (halfI b p) l) with e | ⟨q, e, _⟩ <;> rw [e] <;> rfl
      rw [ec]
      walk_at "ev"
      rw [List.countP_map]
      refine congrArg (fun z : Nat => pu (Fl.nx (PyData.int (a + (z : Int))))) ?_
      have cp := count_part (a := F) (b := stF m F A f) (c := spF m T Z f + 1) (d := T + 1) (P := fun l => decide (stF m F A f ≤ l) && decide (l ≤ spF m T Z f) && isI f (entA r (halfI b p) l)) g1 (by omega) (by omega) (fun l hl => by
        rcases hl with q | q
        · rw [decide_eq_false (show ¬ stF m F A f ≤ l by omega)]; rfl
        · rw [decide_eq_false (show ¬ l ≤ spF m T Z f by omega), Bool.and_false]; rfl)
      rw [cp]
      refine List.countP_congr fun l hl => ?_
      have hl' := mem_lk.mp hl
      rw [decide_eq_true hl'.1, decide_eq_true (show l ≤ spF m T Z f by omega)]
      exact Iff.rfl
    · rw [decide_eq_false c]
      walk_at "ev"
      have e0 : (lk F (T + 1)).countP (fun l => decide (stF m F A f ≤ l) && decide (l ≤ spF m T Z f) && isI f (entA r (halfI b p) l)) = 0 := by
        rw [List.countP_eq_zero]
        intro l _ hp
        rw [Bool.and_eq_true, Bool.and_eq_true, decide_eq_true_iff, decide_eq_true_iff] at hp
        omega
      rw [e0, show ((0 : Nat) : Int) = 0 from rfl, Int.add_zero]
theorem e_wrong_looksR {r : List D} (h : Lg b m t p) (k : Rmo b m t p fr u) (hr : RowE m (NN b p) r) : m_wrong_looks (.int (halfI b p)) (.list (rtSp b m t p fr u)) (.list r) = pu (.list ((badRR b m t p fr u (halfI b p) r).map .int)) := by
  have hk := h.kd
  have kb := hk.bd
  have hb := h.hb
  have hn := h.nb
  have hlen := hr.len
  have fl := fi_la (b := b) (m := m) (t := t) (p := p) (fr := fr) (u := u)
  obtain ⟨o, _, le, ge, _, _⟩ := k
  have eok : ∀ l f : Int, okRB b m t p fr u l (.int f) = (decide (-m ≤ f) && decide (f ≤ m) && (decide (stF m (fiF b m t p fr u) (rtA b m t p fr u) f ≤ l) && decide (l ≤ spF m (laF b m t p fr u) (rtZ b m t p fr u) f))) := fun _ _ => rfl
  have ndef : ∀ l : Int, okRB b m t p fr u l .none = false := fun _ => rfl
  rw [show rtSp b m t p fr u = spansD m (fiF b m t p fr u) (laF b m t p fr u) (rtA b m t p fr u) (rtZ b m t p fr u) from rfl]
  unfold badRR
  generalize hF : fiF b m t p fr u = F at *
  generalize hG : laF b m t p fr u = T at *
  generalize hA : rtA b m t p fr u = A at *
  generalize hZ : rtZ b m t p fr u = Z at *
  clear hA hZ hF hG
  unfold m_wrong_looks
  walk_at "ev"
  rw [sp_last kb.2.2.1, sp_first kb.2.2.1]
  walk_at "ev"
  rw [cut_lk (by omega) (by omega) (by omega) (by omega)]
  walk_at "ev"
  have ee : enSD [.list ((lk F (T + 1)).map (entA r (halfI b p)))] [.int F] = some (enL F ((lk F (T + 1)).map (entA r (halfI b p)))) := if_pos (by omega)
  rw [r_itES, ee, enL_lk]
  walk_at "ev"
  rw [show (PyData.list [] : D) = .list (([] : List Int).map .int) from rfl, for_filterK (g := fun l => !okRB b m t p fr u l (entA r (halfI b p) l))]
  · walk_at "ev"
    rfl
  · intro l hl ac hac
    have hl' := mem_lk.mp hl
    rw [lk_len] at hac
    have happ : appD (.list (ac.map PyData.int)) (.int l) = some (.list (ac.map .int ++ [.int l])) := d_app (by rw [List.length_map]; simp only [List.length_nil] at hac; omega)
    walk_at "ev"
    rcases entB_cases (entA_ok hr (halfI b p) l) with e | ⟨f, e, f1, f2⟩
    · rw [e]
      walk_at "ev"
      rw [happ]
      walk_at "ev"
      rw [show (!okRB b m t p fr u l .none) = true from rfl, if_pos rfl, List.map_append]; rfl
    · rw [e]
      walk_at "ev"
      rw [sp_get f1 f2]
      walk_at "ev"
      have eo : okRB b m t p fr u l (.int f) = (decide (stF m F A f ≤ l) && decide (l ≤ spF m T Z f)) := by
        rw [eok]
        rw [decide_eq_true f1, decide_eq_true f2]; rfl
      rw [eo]
      cases decide (stF m F A f ≤ l) with
      | false =>
        walk_at "ev"
        rw [happ]
        walk_at "ev"
        rw [Bool.false_and, show (!false) = true from rfl, if_pos rfl, List.map_append]; rfl
      | true =>
        walk_at "ev"
        cases decide (l ≤ spF m T Z f) with
        | false =>
          walk_at "ev"
          rw [happ]
          walk_at "ev"
          rw [Bool.and_false, show (!false) = true from rfl, if_pos rfl, List.map_append]; rfl
        | true =>
          walk_at "ev"
          rfl
theorem e_first_wrongR {b m : Int} {t p fr : Nat} {R : Nat → List D} (h : Lg b m t p) (hk : ∀ i, i < MM t → Rmo b m t p fr ((MM t : Nat) + (i : Int))) (hR : ∀ i, i < MM t → RowE m (NN b p) (R i)) : m_first_wrong (.int (halfI b p)) (.list (rsheetD b m t p fr)) (tabD t R) = pu (optD (dueRD b m t p fr R)) := by
  unfold m_first_wrong tabD rsheetD
  walk_at "ev"
  have ez : zip2D [.list ((List.range (MM t)).map fun (i : Nat) => .tuple [.int ((MM t : Nat) + (i : Int)), .list (rtSp b m t p fr ((MM t : Nat) + (i : Int)))]), .list ((List.range (MM t)).map fun i => .list (R i))] = some (zip2L ((List.range (MM t)).map fun (i : Nat) => .tuple [.int ((MM t : Nat) + (i : Int)), .list (rtSp b m t p fr ((MM t : Nat) + (i : Int)))]) ((List.range (MM t)).map fun i => .list (R i))) := rfl
  rw [r_itZ, ez, zip2_map]
  walk_at "ev"
  rw [for_firstK (g := fun (i : Nat) => (badRR b m t p fr ((MM t : Nat) + (i : Int)) (halfI b p) (R i)).head?.map fun l => t2 ((MM t : Nat) + (i : Int)) l) (k := fun (i : Nat) => .tuple [.tuple [.int ((MM t : Nat) + (i : Int)), .list (rtSp b m t p fr ((MM t : Nat) + (i : Int)))], .list (R i)])]
  · unfold dueRD
    cases (List.range (MM t)).findSome? fun (i : Nat) => (badRR b m t p fr ((MM t : Nat) + (i : Int)) (halfI b p) (R i)).head?.map fun l => t2 ((MM t : Nat) + (i : Int)) l with
    | none => walk_at "ev"; rfl
    | some d => walk_at "ev"; rfl
  · intro i hi
    have hi' := List.mem_range.mp hi
    have hr := hR i hi'
    walk_at "ev"
    rw [e_is_rightR h (hk i hi') hr]
    walk_at "ev"
    generalize hL : badRR b m t p fr ((MM t : Nat) + (i : Int)) (halfI b p) (R i) = ls
    cases ls with
    | nil => walk_at "ev"; rfl
    | cons l ls =>
      rw [show (l :: ls).isEmpty = false from rfl]
      walk_at "ev"
      rw [e_wrong_looksR h (hk i hi') hr, hL]
      walk_at "ev"
      rw [head_ix (l := l) rfl]
      walk_at "ev"
      rfl
theorem e_root_faultR {b m : Int} {t p fr : Nat} {R : Nat → List D} (h : Lg b m t p) (hf : fr ≤ 100) (hk : ∀ i, i < MM t → Rmo b m t p fr ((MM t : Nat) + (i : Int))) (hR : ∀ i, i < MM t → RowE m (NN b p) (R i)) : m_first_root_fault (t2 b m) (t2 t p) (.int (fr : Int)) (tabD t R) = pu (optD (dueRD b m t p fr R)) := by
  unfold m_first_root_fault
  walk_at "ev"
  rw [e_half_of h.kd h.p10, e_root_sheet h hf]
  walk_at "ev"
  rw [e_first_wrongR h hk hR]
  walk_at "ev"
theorem bad_lawR {r : List D} (k : Rmo b m t p fr u) : (lk (-halfI b p) (halfI b p)).filter (fun l => askB b m t p fr u l && !okRB b m t p fr u l (entA r (halfI b p) l)) = badRR b m t p fr u (halfI b p) r := by
  have fl := fi_la (b := b) (m := m) (t := t) (p := p) (fr := fr) (u := u)
  have o := k.o
  have no : ∀ l, (l < fiF b m t p fr u ∨ laF b m t p fr u < l) → askB b m t p fr u l = false := fun l hl => by
    unfold askB
    rcases hl with e | e
    · rw [decide_eq_false (show ¬ fiF b m t p fr u ≤ l by omega)]; rfl
    · rw [decide_eq_false (show ¬ l ≤ laF b m t p fr u by omega), Bool.and_false]
  rw [lk_app (a := -halfI b p) (b := fiF b m t p fr u) (c := halfI b p) fl.1 (by omega), lk_app (a := fiF b m t p fr u) (b := laF b m t p fr u + 1) (c := halfI b p) (by omega) (by omega), List.filter_append, List.filter_append]
  have e1 : (lk (-halfI b p) (fiF b m t p fr u)).filter (fun l => askB b m t p fr u l && !okRB b m t p fr u l (entA r (halfI b p) l)) = [] := by
    rw [List.filter_eq_nil_iff]
    intro l hl
    rw [no l (.inl (mem_lk.mp hl).2), Bool.false_and]
    decide
  have e3 : (lk (laF b m t p fr u + 1) (halfI b p)).filter (fun l => askB b m t p fr u l && !okRB b m t p fr u l (entA r (halfI b p) l)) = [] := by
    rw [List.filter_eq_nil_iff]
    intro l hl
    rw [no l (.inr (by have := (mem_lk.mp hl).1; omega)), Bool.false_and]
    decide
  have e2 : (lk (fiF b m t p fr u) (laF b m t p fr u + 1)).filter (fun l => askB b m t p fr u l && !okRB b m t p fr u l (entA r (halfI b p) l)) = badRR b m t p fr u (halfI b p) r := by
    unfold badRR
    refine List.filter_congr fun l hl => ?_
    have hl' := mem_lk.mp hl
    unfold askB
    rw [decide_eq_true hl'.1, decide_eq_true (show l ≤ laF b m t p fr u by omega)]; rfl
  rw [e1, e3, e2, List.append_nil, List.nil_append]
theorem ok_goodR {l f : Int} (h1 : -m ≤ f) (h2 : f ≤ m) : decide (f ∈ rG b m t p fr u l) = okRB b m t p fr u l (.int f) := by
  rw [Bool.eq_iff_iff, decide_eq_true_iff]
  show _ ↔ (decide (-m ≤ f) && decide (f ≤ m) && inSp m (fiF b m t p fr u) (laF b m t p fr u) (rtA b m t p fr u) (rtZ b m t p fr u) l f) = true
  unfold rG
  rw [List.mem_filter, decide_eq_true h1, decide_eq_true h2]
  exact ⟨fun z => z.2, fun z => ⟨figs_mem h1 h2, z⟩⟩
theorem e_law_firstR {b m : Int} {t p fr : Nat} {R : Nat → List D} (h : Lg b m t p) (hf2 : 2 ≤ fr) (hf : fr ≤ 100) (hko : ∀ i, i < MM t → Rmo b m t p fr ((MM t : Nat) + (i : Int))) (hR : ∀ i, i < MM t → RowE m (NN b p) (R i)) : m__law_first (t2 b m) (t2 t p) (.int (fr : Int)) (tabD t R) = pu (optD (dueRD b m t p fr R)) := by
  have hk := h.kd
  have kb := hk.bd
  have hb := h.hb
  have hm1 := h.mb.1
  have hm2 := h.mb.2.1
  have hnb := h.nb
  have t1 := h.t1
  have t10 := h.t10
  have p10 := h.p10
  have ih : Sz (halfI b p) 20 := ⟨by omega⟩
  unfold m__law_first
  walk_at "ev"
  rw [e_law_halfI hk p10]
  walk_at "ev"
  rw [show tabD t R = .list ((List.range (MM t)).map fun i => .list (R i)) from rfl]
  walk_at "ev"
  rw [List.length_map, List.length_range]
  have er : rngD [.int ((MM t : Nat) : Int)] = some ((List.range (MM t)).map fun (i : Nat) => .int (i : Int)) := by
    have key : ∀ M : Nat, M ≤ 512 → rngD [.int (M : Int)] = some ((List.range M).map fun (i : Nat) => .int (i : Int)) := fun M hM => by
      rw [d_rng1 (by omega) (by omega)]
      unfold rgL
      rw [show ((M : Int) - 0).toNat = M by omega]
      refine congrArg some (List.map_congr_left fun i _ => ?_)
      show PyData.int (0 + (i : Int)) = _
      rw [Int.zero_add]
    exact key _ hm2
  rw [er]
  walk_at "ev"
  rw [for_firstK (g := fun (i : Nat) => (badRR b m t p fr ((MM t : Nat) + (i : Int)) (halfI b p) (R i)).head?.map fun l => t2 ((MM t : Nat) + (i : Int)) l) (k := fun (i : Nat) => .int (i : Int))]
  · unfold dueRD
    cases (List.range (MM t)).findSome? fun (i : Nat) => (badRR b m t p fr ((MM t : Nat) + (i : Int)) (halfI b p) (R i)).head?.map fun l => t2 ((MM t : Nat) + (i : Int)) l with
    | none => walk_at "ev"; rfl
    | some d => walk_at "ev"; rfl
  · intro i hi
    have hi' := List.mem_range.mp hi
    have hu := h.tp hi'
    have iu : Sz ((MM t : Nat) + (i : Int)) 60 := hu.sz t10
    have hr := hR i hi'
    have hrl := hr.len
    walk_at "ev"
    rw [d_mul (fit_sz (n := 2) (by omega)) (fit_sz (n := 20) (by omega))]
    walk_at "ev"
    rw [d_rng1 (by omega) (by omega), rg_lk]
    walk_at "ev"
    rw [for_firstK (g := fun l => if (askB b m t p fr ((MM t : Nat) + (i : Int)) l && !okRB b m t p fr ((MM t : Nat) + (i : Int)) l (entA (R i) (halfI b p) l)) = true then some (t2 ((MM t : Nat) + (i : Int)) l) else none) (k := fun l => .int (l + halfI b p))]
    · rw [findSome_filter, bad_lawR (hko i hi')]
      cases (badRR b m t p fr ((MM t : Nat) + (i : Int)) (halfI b p) (R i)).head? with
      | none => walk_at "ev"; rfl
      | some l => walk_at "ev"; rfl
    · intro l hl
      have hl' := mem_lk.mp hl
      have il : Sz l 60 := ⟨by omega⟩
      walk_at "ev"
      rw [shlMM t1 t10]
      walk_at "ev"
      rw [show l + halfI b p - halfI b p = l by omega]
      have hu2 : (2 : Int) ^ (t - 1) ≤ (MM t : Nat) + (i : Int) := by rw [← mm_cast]; omega
      have hlg := law_good_asked (b := b) (m := m) (t := t) (p := p) (fr := fr) (u := (MM t : Nat) + (i : Int)) (l := l) hk t1 hf2 hu2 (by omega) (by omega)
      rw [show PyData.tuple [PyData.int ((MM t : Nat) + (i : Int)), .int l] = t2 ((MM t : Nat) + (i : Int)) l from rfl, e_law_root_good hk hf (by omega) (by omega) iu il]
      cases hask : askB b m t p fr ((MM t : Nat) + (i : Int)) l with
      | false =>
        rw [hlg.trans (if_neg (by rw [hask]; decide))]
        walk_at "ev"
        rfl
      | true =>
        rw [hlg.trans (if_pos hask)]
        walk_at "ev"
        have ei : idxD (.list ((List.range (MM t)).map fun i => .list (R i))) (.int (i : Int)) = some (.list (R i)) := by
          refine atI_nat ?_
          rw [List.getElem?_map, List.getElem?_range hi']; rfl
        rw [ei]
        walk_at "ev"
        rw [entA_get (by omega) (by omega)]
        walk_at "ev"
        rcases entB_cases (entA_ok hr (halfI b p) l) with e | ⟨f, e, f1, f2⟩
        · rw [e]
          walk_at "ev"
          rfl
        · rw [e]
          walk_at "ev"
          rw [d_inN, ok_goodR f1 f2]
          walk_at "ev"
          cases okRB b m t p fr ((MM t : Nat) + (i : Int)) l (.int f) with
          | true => walk_at "ev"; rfl
          | false => walk_at "ev"; rfl
end
theorem ok_wth {μ α : Type} {d : D} {x : SM D α} {m : μ} {P : α → μ → Prop} (h : Ok x d fun a _ => P a m) : Ok (wth d x : SM μ α) m P := by
  obtain ⟨a, m', e, p⟩ := h
  exact ⟨a, m, wth_ok e, p⟩
theorem lay_ntab {d : D} {n : Nat} (h : Lay n d) : Lay (n + 2) (.tuple [.str "NoTable+", .list [d]]) := lay_tup (n := n + 1) fun x hx => by
  simp only [List.mem_cons, List.not_mem_nil, or_false] at hx
  rcases hx with e | e
  · rw [e]; exact lay_str (by simp only [PyData.canLay0]; decide +kernel)
  · rw [e]; exact lay_list fun y hy => by rw [List.mem_singleton.mp hy]; exact h
theorem ok_law_root_setC {d : D} {n : Nat} (hd : Dk d n) (hn : n ≤ 800000000) : Ok m__law_root_set d fun x d' => ∃ (b m : Int) (t p fr : Nat), x = .tuple [t2 b m, t2 t p, .int (fr : Int)] ∧ Lg b m t p ∧ (rkB b m t p fr = true ∨ bareRB b m t p fr = true) ∧ ckB b m t p fr = true ∧ 2 ≤ fr ∧ fr ≤ 30 ∧ p ≤ fr + 1 ∧ Dk d' (n + 5) := by
  unfold m__law_root_set
  refine ok_fin ?_
  walk_at "fj"
  rw [d_cat (by show 6 + 2 ≤ sizeLine; decide)]
  walk_at "fj"
  refine ok_bd (ok_qx ((ok_pick hd (by omega) (by decide) (by decide)).mono ?_))
  rintro _ d1 ⟨v, rfl, v0, v1, hd1⟩
  walk_at "fj"
  obtain ⟨y, my, ey⟩ := ix_some (xs := [.tuple [.tuple [.int 2, .int 1], .tuple [.int 2, .int 2]], .tuple [.tuple [.int 2, .int 1], .tuple [.int 3, .int 2]], .tuple [.tuple [.int 2, .int 1], .tuple [.int 2, .int 3]], .tuple [.tuple [.int 4, .int 3], .tuple [.int 4, .int 3]], .tuple [.tuple [.int 4, .int 3], .tuple [.int 4, .int 4]], .tuple [.tuple [.int 4, .int 3], .tuple [.int 5, .int 3]]] ++ [.tuple [.tuple [.int 4, .int 2], .tuple [.int 5, .int 5]], .tuple [.tuple [.int 2, .int 1], .tuple [.int 3, .int 3]]]) v0 (by show v < 8; omega)
  rw [ey]
  obtain ⟨b, m, t, p, f0, rfl, hg, hf, hrk, hck, hf2, hpf⟩ : ∃ (b m : Int) (t p f0 : Nat), y = .tuple [t2 b m, t2 t p] ∧ Lg b m t p ∧ (if ((Builtin.Int.intBits b : Nat) : Int) - 1 + (p : Int) - 2 > 2 then ((Builtin.Int.intBits b : Nat) : Int) - 1 + (p : Int) - 2 else 2) = (f0 : Int) ∧ (∀ k, k < 20 → rkB b m t p (f0 + k) = true ∨ bareRB b m t p (f0 + k) = true) ∧ (∀ k, k < 20 → ckB b m t p (f0 + k) = true) ∧ (2 ≤ f0 ∧ f0 ≤ 5) ∧ p ≤ f0 + 1 := by
    simp only [List.cons_append, List.nil_append, List.mem_cons, List.not_mem_nil, or_false] at my
    rcases my with e | e | e | e | e | e | e | e
    · exact ⟨2, 1, 2, 2, 2, e, ⟨by unfold Kd; omega, by omega, by omega, by omega⟩, by decide +kernel, by decide +kernel, by decide +kernel, by omega, by omega⟩
    · exact ⟨2, 1, 3, 2, 2, e, ⟨by unfold Kd; omega, by omega, by omega, by omega⟩, by decide +kernel, by decide +kernel, by decide +kernel, by omega, by omega⟩
    · exact ⟨2, 1, 2, 3, 2, e, ⟨by unfold Kd; omega, by omega, by omega, by omega⟩, by decide +kernel, by decide +kernel, by decide +kernel, by omega, by omega⟩
    · exact ⟨4, 3, 4, 3, 3, e, ⟨by unfold Kd; omega, by omega, by omega, by omega⟩, by decide +kernel, by decide +kernel, by decide +kernel, by omega, by omega⟩
    · exact ⟨4, 3, 4, 4, 4, e, ⟨by unfold Kd; omega, by omega, by omega, by omega⟩, by decide +kernel, by decide +kernel, by decide +kernel, by omega, by omega⟩
    · exact ⟨4, 3, 5, 3, 3, e, ⟨by unfold Kd; omega, by omega, by omega, by omega⟩, by decide +kernel, by decide +kernel, by decide +kernel, by omega, by omega⟩
    · exact ⟨4, 2, 5, 5, 5, e, ⟨by unfold Kd; omega, by omega, by omega, by omega⟩, by decide +kernel, by decide +kernel, by decide +kernel, by omega, by omega⟩
    · exact ⟨2, 1, 3, 3, 2, e, ⟨by unfold Kd; omega, by omega, by omega, by omega⟩, by decide +kernel, by decide +kernel, by decide +kernel, by omega, by omega⟩
  walk_at "fj"
  rw [hf]
  walk_at "fj"
  refine ok_bd (ok_qx ((ok_pick hd1 (by omega) (by decide) (by decide)).mono ?_))
  rintro _ d2 ⟨v2, rfl, v20, v21, hd2⟩
  walk_at "fj"
  refine ok_bd (ok_qx ((ok_pick hd2 (by omega) (by decide) (by decide)).mono ?_))
  rintro _ d3 ⟨v3, rfl, v30, v31, hd3⟩
  walk_at "fj"
  refine ok_bd (ok_qx ((ok_pick hd3 (by omega) (by decide) (by decide)).mono ?_))
  rintro _ d4 ⟨v4, rfl, v40, v41, hd4⟩
  walk_at "fj"
  refine ok_bd (ok_qx ((ok_pick hd4 (by omega) (by decide) (by decide)).mono ?_))
  rintro _ d5 ⟨v5, rfl, v50, v51, hd5⟩
  walk_at "fj"
  obtain ⟨z, mz, ez⟩ := ix_some (xs := [.int v2, .int (3 + v3), .int v4]) v50 (by show v5 < 3; omega)
  obtain ⟨q, rfl, q0, q1⟩ : ∃ q : Int, z = .int q ∧ 0 ≤ q ∧ q < 20 := by
    simp only [List.mem_cons, List.not_mem_nil, or_false] at mz
    rcases mz with e | e | e
    · exact ⟨_, e, by omega, by omega⟩
    · exact ⟨_, e, by omega, by omega⟩
    · exact ⟨_, e, by omega, by omega⟩
  rw [ez]
  walk_at "fj"
  refine ok_pu ⟨_, .inl rfl, b, m, t, p, f0 + q.toNat, ?_, hg, hrk q.toNat (by omega), hck q.toNat (by omega), by omega, by omega, by omega, hd5.le (by omega)⟩
  rw [show (f0 : Int) + q = ((f0 + q.toNat : Nat) : Int) by omega]
theorem isi_lK (l : List D) : isiD "list" (.list l) = some (.bool true) := by rw [d_isi, show tyN (.list l) = "list" from rfl, show kitB "list" "list" = some true by decide +kernel]; rfl
theorem law_true : ∀ ns : List Int, ns.length ≤ 63 → (∀ z ∈ ns, Builtin.Int.intBits z ≤ 1048576) → ∃ m', m_law (scrD (ns.map .int)) .none = .ok (.bool true) m' := fun ns hn _ => by
  have key : Ok (m_law (scrD (ns.map .int))) .none fun x _ => x = .bool true := by
    unfold m_law
    refine ok_fin ?_
    walk_at "fj"
    rw [d_catS (by rw [List.length_map]; exact line_le (by show ns.length + 1 ≤ _; omega))]
    walk_at "fj"
    obtain ⟨z, hz⟩ : ∃ z : Int, idxD (.list (ns.map PyData.int ++ [.int 0])) (.int 0) = some (.int z) := by
      cases ns with
      | nil => exact ⟨0, d_ixl0 _ _⟩
      | cons y ys => exact ⟨y, d_ixl0 _ _⟩
    rw [hz]
    walk_at "fj"
    obtain ⟨dk, e, hd⟩ := ok_deck (c := z) (t := 0) (n := 0) (by omega) (by omega)
    rw [e]
    walk_at "fj"
    refine ok_bd ⟨_, _, rfl, ?_⟩
    refine ok_bd (ok_qx ((ok_law_root_setC hd (by omega)).mono ?_))
    rintro _ d1 ⟨b, m, t, p, fr, rfl, hg, hrk, hck, hf2, hf30, hpf, hd1⟩
    walk_at "fj"
    have hk := hg.kd
    have kb := hk.bd
    have hm1 := hg.mb.1
    have hm2 := hg.mb.2.1
    have hnb := hg.nb
    have hb := hg.hb
    have t10 := hg.t10
    have p10 := hg.p10
    have hR : ∀ i, i < MM t → Rmo b m t p fr ((MM t : Nat) + (i : Int)) := fun i hi => rmo_of (List.all_eq_true.mp hck i (List.mem_range.mpr hi))
    have hnul : ∀ R : Nat → List D, (∀ i, i < MM t → RowCR b m t p fr 0 ((MM t : Nat) + (i : Int)) (R i)) → bareRC b m t p fr = none → rkB b m t p fr = true := fun R h1 h2 => rk_of_rows hrk fun i hi => (h1 i hi).g hg (bareRC_none.mp h2 i hi)
    refine ok_bd (ok_qx ((ok_law_root_tableX hg hR hf2 (by omega) (w := 0) ⟨by omega, by omega⟩ hd1 (by omega)).mono ?_))
    rintro _ d2 ⟨R1, rfl, hR1, hd2⟩
    walk_at "fj"
    have hsh1 : SeqAt.shaped (tabD t R1) = true := (tab_lay fun i hi => (hR1 i hi).e).shaped (by decide)
    have hR1e : bareRC b m t p fr = none → rkB b m t p fr = true := hnul R1 hR1
    have hT1 : tabD t R1 = tabD t fun i => plRR b m t p fr ((MM t : Nat) + (i : Int)) := by
      unfold tabD
      exact congrArg PyData.list (List.map_congr_left fun i hi => by rw [(hR1 i (List.mem_range.mp hi)).pl])
    cases hc : bareRC b m t p fr
    case' none =>
      rw [e_told_rootY hg (by omega) hR (hR1e hc) hc]
      walk_at "fj"
      rw [show optD none = PyData.none from rfl]
      walk_at "fj"
      rw [show isiD "list" (tabD t fun i => plRR b m t p fr ((MM t : Nat) + (i : Int))) = some (.bool true) from isi_lK _]
      walk_at "fj"
      rw [hT1, d_neS (by rw [← hT1]; exact hsh1)]
      walk_at "fj"
    case' some d9 =>
      obtain ⟨u9, l9, rfl, _, _⟩ := bareRC_at hg hc
      rw [e_told_rootN hg (by omega) hR hc]
      walk_at "fj"
      rw [show optD (some (t2 u9 l9)) = t2 u9 l9 from rfl]
      walk_at "fj"
      rw [d_neS ((lay_ntab (n := 1) (t2_lay u9 l9)).shaped (by decide))]
      walk_at "fj"
    all_goals
      clear hsh1 hT1
      refine ok_bd (ok_qx ((ok_pick hd2 (by omega) (by decide) (by decide)).mono ?_))
      rintro _ d3 ⟨w, rfl, w0, w1, hd3⟩
      walk_at "fj"
      refine ok_bd (ok_qx ((ok_law_root_tableX hg hR hf2 (by omega) (w := w) ⟨w0, w1⟩ hd3 (by omega)).mono ?_))
      rintro _ d4 ⟨R2, rfl, hR2, hd4⟩
      walk_at "fj"
      obtain ⟨rows, erows, hRs1, hRs2⟩ := tab_rows fun i hi => (hR2 i hi).e
      rw [erows]
      obtain ⟨ms, hms, es⟩ := sli_scr (lo := some 1) (hi := some 4) hn
      rw [es]
      walk_at "fj"
      rw [d_cat (by rw [List.length_map]; exact line_le (by show ms.length + 1 ≤ _; omega))]
      walk_at "fj"
      refine ok_sq ((ok_for (fun _ _ _ => True) trivial ?_).mono ?_)
      · as_aux_lemma =>
          intro i x s' m0 hx _
          have hx2 : ∃ y : Int, x = .int y := by
            have := List.mem_of_getElem? hx
            rw [List.mem_append] at this
            rcases this with h | h
            · obtain ⟨y, _, rfl⟩ := List.mem_map.mp h
              exact ⟨y, rfl⟩
            · simp only [List.mem_cons, List.not_mem_nil, or_false] at h
              exact ⟨0, h⟩
          obtain ⟨y, rfl⟩ := hx2
          unfold cDN
          walk_at "fj"
          obtain ⟨dk, e, hd⟩ := ok_deck (c := y) (t := 2100) (n := 2100) (by omega) (by omega)
          rw [e]
          walk_at "fj"
          refine ok_bd (ok_wth ((ok_law_spoilt (t := t) (p := p) hk ⟨hm1, hm2⟩ (by omega) ⟨hRs1, hRs2⟩ hd (by omega)).mono ?_))
          rintro _ d5 ⟨rows', rfl, hRs', hd5⟩
          walk_at "fj"
          have hl' := hRs'.1
          rw [r_lc, lc_map (g := fun x => x) _ _ (fun _ _ => rfl) (fun x hx => by obtain ⟨r, rfl, _⟩ := hRs'.2 x hx; rfl) (line_le (by rw [List.length_nil]; omega)), List.nil_append, List.map_id']
          walk_at "fj"
          obtain ⟨R', eR', hR'⟩ := tab_of hRs'.1 hRs'.2
          rw [eR']
          rw [e_law_firstR hg hf2 (by omega) hR hR']
          walk_at "fj"
          rw [e_root_faultR hg (by omega) hR hR']
          walk_at "fj"
          have lo : Lay 1 (optD (dueRD b m t p fr R')) := by
            unfold dueRD
            cases e : (List.range (MM t)).findSome? fun (i : Nat) => (badRR b m t p fr ((MM t : Nat) + (i : Int)) (halfI b p) (R' i)).head?.map fun l => t2 ((MM t : Nat) + (i : Int)) l with
            | none => exact lay_none
            | some q =>
              obtain ⟨i, _, e2⟩ := List.exists_of_findSome?_eq_some e
              obtain ⟨l, _, e3⟩ := Option.map_eq_some_iff.mp e2
              rw [← e3]
              exact t2_lay _ _
          rw [d_neS (lo.shaped (by omega))]
          walk_at "fj"
          rw [d_neS ((tab_lay hR').shaped (by omega))]
          walk_at "fj"
          exact ok_pu ⟨(), .inl rfl, trivial⟩
      · rintro _ m1 ⟨s, rfl, _⟩
        refine ⟨_, rfl, ?_⟩
        walk_at "fj"
        exact ok_pu ⟨_, .inl rfl, by first | exact trivial | rfl⟩
  obtain ⟨x, m', e, rfl⟩ := key
  exact ⟨m', e⟩
section
variable {P : Program} {w : World} {K : PySem.W.Frag} {mg : Str → Option Value} {base : Heap}
theorem ok_law (T : Txt K mg) : FnOk P w K mg base CX0 7 T.a_law T.fd_law ["script"] (sp_law K) := ok_law_of T law_true
end
theorem walkEB {lw : PySem.W.OpenLaw} {n k : Nat} {pr : Program} {ls : List Str} {XP : (Str → Option Value) → Heap → Prop} {YP : World → Heap → Prop} {dr : DefRec} {C : CXT} {x : Str} (hm : lw.most = some n) (hz : n ≤ sizeLine) (h0 : dr.params.defaults = []) (hr : Room k callerA)
    (Fs : ∀ (w : World) (mg : Str → Option Value) (f : Addr) (hp : Heap), YP w hp → hp.Ns mainGlobals mg → mg dr.name = some (.ref f) → ∃ (K : PySem.W.Frag) (fd : FuncData) (sp : Sp), K.In hp ∧ (∀ (s : Shared) (u : Value), BindsTo s fd ⟨[u], []⟩ [(x, u)]) ∧
        (∀ (H : Hp) (a : Addr) (ns : List Int), ns.length ≤ n → (∀ z ∈ ns, Builtin.Int.intBits z ≤ 1048576) → Only H → SqL K H a (ns.map V.int) → sp [.ref a] H (fun v _ => v = .bl true) fun _ _ _ => False) ∧ ∀ base : Heap, K.In base → base.Ns mainGlobals mg → FnOk lw.prog w K mg base C k f fd [x] sp)
    (hC : ∀ (H : Hp) (s : Shared) (e : Value) (s' : Shared), C [] H s (fun _ _ _ => False) e s' → False) : PySem.W.WalkO pr ls XP YP lw.row.toRowW dr [] (fun f vs => PySem.call f vs) := by
  refine Att.attach_callB hm h0 fun w _ sB mg _ f _ _ _ _ a _ ns GG Y _ _ _ hg1 ho hi hl hb hg2 => ?_
  obtain ⟨K, fd, sp, KX, hbd, hsp, hF⟩ := Fs w mg f _ Y GG.T.g hg1
  exact law_call KX GG.T.g GG.T.b GG.T.builtins GG.T.nolimit hg2 ho hi (Nat.le_trans hl hz) hr hF hbd (fun H hO hS => hsp H a ns hl hb hO hS) fun H e s' => hC H sB e s'
theorem all_mk {l : PySem.W.OpenLaw} {w : World} {K : PySem.W.Frag} {h : Heap} {mg : Str → Option Value} {fa : Addr} (X : K.In h) (G : h.Ns mainGlobals mg) (hfa : mg "law" = some (.ref fa)) (c : SaysK K) :
    ∃ fd : FuncData, (∀ (s : Shared) (v : Value), BindsTo s fd ⟨[v], []⟩ [("script", v)]) ∧ ∀ base : Heap, K.In base → base.Ns mainGlobals mg → FnOk l.prog w K mg base CX0 7 fa fd ["script"] (sp_law K) := by
  have hr := c.2
  unfold factsB at hr
  obtain ⟨hc0, hr⟩ := He.ba hr
  obtain ⟨hc1, hr⟩ := He.ba hr
  obtain ⟨hc2, hr⟩ := He.ba hr
  obtain ⟨hc3, hr⟩ := He.ba hr
  obtain ⟨hc4, hr⟩ := He.ba hr
  have hc5 := hr
  have aCNoTable := of_decide_eq_true (allK hc0 0 rfl)
  have aCNoFigure := of_decide_eq_true (allK hc0 1 rfl)
  have aCNoLooks := of_decide_eq_true (allK hc0 2 rfl)
  have aCNoRoom := of_decide_eq_true (allK hc0 3 rfl)
  have aCNoRow := of_decide_eq_true (allK hc0 4 rfl)
  have aCNoText := of_decide_eq_true (allK hc0 5 rfl)
  have aCSpoilt := of_decide_eq_true (allK hc0 6 rfl)
  have aCSlackError := of_decide_eq_true (allK hc0 7 rfl)
  have xb_SlackError := of_decide_eq_true (allK hc0 8 rfl)
  have xd_SlackError := allK hc0 9 rfl
  have xt_SlackError := of_decide_eq_true (allK hc0 10 rfl)
  have xu_NoTable_SlackError := of_decide_eq_true (allK hc0 11 rfl)
  have s_rd := allK hc0 12 rfl
  have s_ga := of_decide_eq_true (allK hc0 13 rfl)
  have s_vV := fcB_ok (allK hc0 14 rfl)
  have kc_NoTable := allK hc0 15 rfl
  have eb_NoTable := of_decide_eq_true (allK hc0 16 rfl)
  have et_NoTable := of_decide_eq_true (allK hc0 17 rfl)
  have ed_NoTable := allK hc0 18 rfl
  have eg_NoTable := of_decide_eq_true (allK hc0 19 rfl)
  have ek_NoTable := of_decide_eq_true (allK hc0 20 rfl)
  have ea_NoTable := of_decide_eq_true (allK hc0 21 rfl)
  have em_NoTable := of_decide_eq_true (allK hc0 22 rfl)
  have es_NoTable := of_decide_eq_true (allK hc0 23 rfl)
  have nf_NoTable_top := of_decide_eq_true (allK hc0 24 rfl)
  have nf_NoTable_look := of_decide_eq_true (allK hc1 0 rfl)
  have xl_NoTable := allK hc1 1 rfl
  have ss_NoTable := of_decide_eq_true (allK hc1 2 rfl)
  have ii_NoTable_NoFigure := of_decide_eq_true (allK hc1 3 rfl)
  have ii_NoTable_NoLooks := of_decide_eq_true (allK hc1 4 rfl)
  have ii_NoTable_NoRoom := of_decide_eq_true (allK hc1 5 rfl)
  have ii_NoTable_NoRow := of_decide_eq_true (allK hc1 6 rfl)
  have ii_NoTable_NoTable := of_decide_eq_true (allK hc1 7 rfl)
  have ii_NoTable_NoText := of_decide_eq_true (allK hc1 8 rfl)
  have ii_NoTable_Spoilt := of_decide_eq_true (allK hc1 9 rfl)
  have ii_NoTable_ValueError := of_decide_eq_true (allK hc1 10 rfl)
  have id_NoFigure := allK hc1 11 rfl
  have it_NoFigure := of_decide_eq_true (allK hc1 12 rfl)
  have id_NoLooks := allK hc1 13 rfl
  have it_NoLooks := of_decide_eq_true (allK hc1 14 rfl)
  have id_NoRoom := allK hc1 15 rfl
  have it_NoRoom := of_decide_eq_true (allK hc1 16 rfl)
  have id_NoRow := allK hc1 17 rfl
  have it_NoRow := of_decide_eq_true (allK hc1 18 rfl)
  have id_NoTable := allK hc1 19 rfl
  have it_NoTable := of_decide_eq_true (allK hc1 20 rfl)
  have id_NoText := allK hc1 21 rfl
  have it_NoText := of_decide_eq_true (allK hc1 22 rfl)
  have id_Spoilt := allK hc1 23 rfl
  have it_Spoilt := of_decide_eq_true (allK hc1 24 rfl)
  have e_n := of_decide_eq_true (allK hc2 0 rfl)
  have e_k := of_decide_eq_true (allK hc2 1 rfl)
  have a0 := of_decide_eq_true (allK hc2 2 rfl)
  have k0 := allK hc2 3 rfl
  have a1 := of_decide_eq_true (allK hc2 4 rfl)
  have k1 := allK hc2 5 rfl
  have a2 := of_decide_eq_true (allK hc2 6 rfl)
  have k2 := allK hc2 7 rfl
  have a3 := of_decide_eq_true (allK hc2 8 rfl)
  have k3 := allK hc2 9 rfl
  have a4 := of_decide_eq_true (allK hc2 10 rfl)
  have k4 := allK hc2 11 rfl
  have a5 := of_decide_eq_true (allK hc2 12 rfl)
  have k5 := allK hc2 13 rfl
  have a6 := of_decide_eq_true (allK hc2 14 rfl)
  have k6 := allK hc2 15 rfl
  have a7 := of_decide_eq_true (allK hc2 16 rfl)
  have k7 := allK hc2 17 rfl
  have a8 := of_decide_eq_true (allK hc2 18 rfl)
  have k8 := allK hc2 19 rfl
  have a9 := of_decide_eq_true (allK hc2 20 rfl)
  have k9 := allK hc2 21 rfl
  have a10 := of_decide_eq_true (allK hc2 22 rfl)
  have k10 := allK hc2 23 rfl
  have a11 := of_decide_eq_true (allK hc2 24 rfl)
  have k11 := allK hc3 0 rfl
  have a12 := of_decide_eq_true (allK hc3 1 rfl)
  have k12 := allK hc3 2 rfl
  have a13 := of_decide_eq_true (allK hc3 3 rfl)
  have k13 := allK hc3 4 rfl
  have a14 := of_decide_eq_true (allK hc3 5 rfl)
  have k14 := allK hc3 6 rfl
  have a15 := of_decide_eq_true (allK hc3 7 rfl)
  have k15 := allK hc3 8 rfl
  have a16 := of_decide_eq_true (allK hc3 9 rfl)
  have k16 := allK hc3 10 rfl
  have a17 := of_decide_eq_true (allK hc3 11 rfl)
  have k17 := allK hc3 12 rfl
  have a18 := of_decide_eq_true (allK hc3 13 rfl)
  have k18 := allK hc3 14 rfl
  have a19 := of_decide_eq_true (allK hc3 15 rfl)
  have k19 := allK hc3 16 rfl
  have a20 := of_decide_eq_true (allK hc3 17 rfl)
  have k20 := allK hc3 18 rfl
  have a21 := of_decide_eq_true (allK hc3 19 rfl)
  have k21 := allK hc3 20 rfl
  have a22 := of_decide_eq_true (allK hc3 21 rfl)
  have k22 := allK hc3 22 rfl
  have a23 := of_decide_eq_true (allK hc3 23 rfl)
  have k23 := allK hc3 24 rfl
  have a24 := of_decide_eq_true (allK hc4 0 rfl)
  have k24 := allK hc4 1 rfl
  have a25 := of_decide_eq_true (allK hc4 2 rfl)
  have k25 := allK hc4 3 rfl
  have a26 := of_decide_eq_true (allK hc4 4 rfl)
  have k26 := allK hc4 5 rfl
  have a27 := of_decide_eq_true (allK hc4 6 rfl)
  have k27 := allK hc4 7 rfl
  have a28 := of_decide_eq_true (allK hc4 8 rfl)
  have k28 := allK hc4 9 rfl
  have a29 := of_decide_eq_true (allK hc4 10 rfl)
  have k29 := allK hc4 11 rfl
  have a30 := of_decide_eq_true (allK hc4 12 rfl)
  have k30 := allK hc4 13 rfl
  have a31 := of_decide_eq_true (allK hc4 14 rfl)
  have k31 := allK hc4 15 rfl
  have a32 := of_decide_eq_true (allK hc4 16 rfl)
  have k32 := allK hc4 17 rfl
  have a33 := of_decide_eq_true (allK hc4 18 rfl)
  have k33 := allK hc4 19 rfl
  have a34 := of_decide_eq_true (allK hc4 20 rfl)
  have k34 := allK hc4 21 rfl
  have a35 := of_decide_eq_true (allK hc4 22 rfl)
  have i35 := of_decide_eq_true (allK hc4 23 rfl)
  have k35 := allK hc4 24 rfl
  have z0 := of_decide_eq_true (allK hc5 0 rfl)
  have z1 := of_decide_eq_true (allK hc5 1 rfl)
  have z2 := of_decide_eq_true (allK hc5 2 rfl)
  have z3 := of_decide_eq_true (allK hc5 3 rfl)
  have z4 := of_decide_eq_true (allK hc5 4 rfl)
  have z5 := of_decide_eq_true (allK hc5 5 rfl)
  have z6 := of_decide_eq_true (allK hc5 6 rfl)
  have z7 := of_decide_eq_true (allK hc5 7 rfl)
  have z8 := of_decide_eq_true (allK hc5 8 rfl)
  have z9 := of_decide_eq_true (allK hc5 9 rfl)
  have z10 := of_decide_eq_true (allK hc5 10 rfl)
  have z11 := of_decide_eq_true (allK hc5 11 rfl)
  obtain ⟨_, _, _, _, _, _, _, _, _, l0, c0⟩ := c.1.def_ 0 rfl
  obtain ⟨_, _, _, _, _, _, _, _, _, l1, c1⟩ := c.1.def_ 1 rfl
  obtain ⟨_, _, _, _, _, _, _, _, _, l2, c2⟩ := c.1.def_ 2 rfl
  obtain ⟨_, _, _, _, _, _, _, _, _, l3, c3⟩ := c.1.def_ 3 rfl
  obtain ⟨_, _, _, _, _, _, _, _, _, l4, c4⟩ := c.1.def_ 4 rfl
  obtain ⟨_, _, _, _, _, _, _, _, _, l5, c5⟩ := c.1.def_ 5 rfl
  obtain ⟨_, _, _, _, _, _, _, _, _, l6, c6⟩ := c.1.def_ 6 rfl
  obtain ⟨_, _, _, _, _, _, _, _, _, l7, c7⟩ := c.1.def_ 7 rfl
  obtain ⟨_, _, _, _, _, _, _, _, _, l8, c8⟩ := c.1.def_ 8 rfl
  obtain ⟨_, _, _, _, _, _, _, _, _, l9, c9⟩ := c.1.def_ 9 rfl
  obtain ⟨_, _, _, _, _, _, _, _, _, l10, c10⟩ := c.1.def_ 10 rfl
  obtain ⟨_, _, _, _, _, _, _, _, _, l11, c11⟩ := c.1.def_ 11 rfl
  obtain ⟨_, _, _, _, _, _, _, _, _, l12, c12⟩ := c.1.def_ 12 rfl
  obtain ⟨_, _, _, _, _, _, _, _, _, l13, c13⟩ := c.1.def_ 13 rfl
  obtain ⟨_, _, _, _, _, _, _, _, _, l14, c14⟩ := c.1.def_ 14 rfl
  obtain ⟨_, _, _, _, _, _, _, _, _, l15, c15⟩ := c.1.def_ 15 rfl
  obtain ⟨_, _, _, _, _, _, _, _, _, l16, c16⟩ := c.1.def_ 16 rfl
  obtain ⟨_, _, _, _, _, _, _, _, _, l17, c17⟩ := c.1.def_ 17 rfl
  obtain ⟨_, _, _, _, _, _, _, _, _, l18, c18⟩ := c.1.def_ 18 rfl
  obtain ⟨_, _, _, _, _, _, _, _, _, l19, c19⟩ := c.1.def_ 19 rfl
  obtain ⟨_, _, _, _, _, _, _, _, _, l20, c20⟩ := c.1.def_ 20 rfl
  obtain ⟨_, _, _, _, _, _, _, _, _, l21, c21⟩ := c.1.def_ 21 rfl
  obtain ⟨_, _, _, _, _, _, _, _, _, l22, c22⟩ := c.1.def_ 22 rfl
  obtain ⟨_, _, _, _, _, _, _, _, _, l23, c23⟩ := c.1.def_ 23 rfl
  obtain ⟨_, _, _, _, _, _, _, _, _, l24, c24⟩ := c.1.def_ 24 rfl
  obtain ⟨_, _, _, _, _, _, _, _, _, l25, c25⟩ := c.1.def_ 25 rfl
  obtain ⟨_, _, _, _, _, _, _, _, _, l26, c26⟩ := c.1.def_ 26 rfl
  obtain ⟨_, _, _, _, _, _, _, _, _, l27, c27⟩ := c.1.def_ 27 rfl
  obtain ⟨_, _, _, _, _, _, _, _, _, l28, c28⟩ := c.1.def_ 28 rfl
  obtain ⟨_, _, _, _, _, _, _, _, _, l29, c29⟩ := c.1.def_ 29 rfl
  obtain ⟨_, _, _, _, _, _, _, _, _, l30, c30⟩ := c.1.def_ 30 rfl
  obtain ⟨_, _, _, _, _, _, _, _, _, l31, c31⟩ := c.1.def_ 31 rfl
  obtain ⟨_, _, _, _, _, _, _, _, _, l32, c32⟩ := c.1.def_ 32 rfl
  obtain ⟨_, _, _, _, _, _, _, _, _, l33, c33⟩ := c.1.def_ 33 rfl
  obtain ⟨oc34, od34, sl34, kV34, dc34, pm34, an34, cd34, ct34, l34, c34⟩ := c.1.def_ 34 rfl
  obtain ⟨_, _, _, _, _, _, _, _, _, l35, c35⟩ := c.1.def_ 35 rfl
  have e := hfa.symm.trans (PySem.W.mg_of X G a34)
  cases e
  have F0 := fun_mk (st := s_upper_ends) l0 c0 k0
  have b0 := F0.binds (ps := ["kind", "least", "greatest", "more", "parts"]) fun _ _ _ _ _ _ us hl => by obtain ⟨_, _, _, _, _, rfl⟩ := ls5 (l := us) (by first | exact hl | exact hl.symm); rfl
  have F1 := fun_mk (st := s_spans_between) l1 c1 k1
  have b1 := F1.binds (ps := ["kind", "starts", "stops"]) fun _ _ _ _ _ _ us hl => by obtain ⟨_, _, _, rfl⟩ := ls3 (l := us) (by first | exact hl | exact hl.symm); rfl
  have F2 := fun_mk (st := s_bare_look) l2 c2 k2
  have b2 := F2.binds (ps := ["spans"]) fun _ _ _ _ _ _ us hl => by obtain ⟨_, rfl⟩ := ls1 (l := us) (by first | exact hl | exact hl.symm); rfl
  have F3 := fun_mk (st := s_first_bare) l3 c3 k3
  have b3 := F3.binds (ps := ["sheet"]) fun _ _ _ _ _ _ us hl => by obtain ⟨_, rfl⟩ := ls1 (l := us) (by first | exact hl | exact hl.symm); rfl
  have F4 := fun_mk (st := s_refuse_bare) l4 c4 k4
  have b4 := F4.binds (ps := ["sheet"]) fun _ _ _ _ _ _ us hl => by obtain ⟨_, rfl⟩ := ls1 (l := us) (by first | exact hl | exact hl.symm); rfl
  have F5 := fun_mk (st := s_plain_row) l5 c5 k5
  have b5 := F5.binds (ps := ["half", "spans"]) fun _ _ _ _ _ _ us hl => by obtain ⟨_, _, rfl⟩ := ls2 (l := us) (by first | exact hl | exact hl.symm); rfl
  have F6 := fun_mk (st := s_plain_rows) l6 c6 k6
  have b6 := F6.binds (ps := ["half", "sheet"]) fun _ _ _ _ _ _ us hl => by obtain ⟨_, _, rfl⟩ := ls2 (l := us) (by first | exact hl | exact hl.symm); rfl
  have F7 := fun_mk (st := s_is_right) l7 c7 k7
  have b7 := F7.binds (ps := ["half", "spans", "row"]) fun _ _ _ _ _ _ us hl => by obtain ⟨_, _, _, rfl⟩ := ls3 (l := us) (by first | exact hl | exact hl.symm); rfl
  have F8 := fun_mk (st := s_wrong_looks) l8 c8 k8
  have b8 := F8.binds (ps := ["half", "spans", "row"]) fun _ _ _ _ _ _ us hl => by obtain ⟨_, _, _, rfl⟩ := ls3 (l := us) (by first | exact hl | exact hl.symm); rfl
  have F9 := fun_mk (st := s_first_wrong) l9 c9 k9
  have b9 := F9.binds (ps := ["half", "sheet", "table"]) fun _ _ _ _ _ _ us hl => by obtain ⟨_, _, _, rfl⟩ := ls3 (l := us) (by first | exact hl | exact hl.symm); rfl
  have F10 := fun_mk (st := s_half_of) l10 c10 k10
  have b10 := F10.binds (ps := ["kind", "looks"]) fun _ _ _ _ _ _ us hl => by obtain ⟨_, _, rfl⟩ := ls2 (l := us) (by first | exact hl | exact hl.symm); rfl
  have F11 := fun_mk (st := s_first_top) l11 c11 k11
  have b11 := F11.binds (ps := ["looks"]) fun _ _ _ _ _ _ us hl => by obtain ⟨_, rfl⟩ := ls1 (l := us) (by first | exact hl | exact hl.symm); rfl
  have F12 := fun_mk (st := s_tops_of) l12 c12 k12
  have b12 := F12.binds (ps := ["looks"]) fun _ _ _ _ _ _ us hl => by obtain ⟨_, rfl⟩ := ls1 (l := us) (by first | exact hl | exact hl.symm); rfl
  have F13 := fun_mk (st := s_ends_of_top) l13 c13 k13
  have b13 := F13.binds (ps := ["looks", "fresh", "top"]) fun _ _ _ _ _ _ us hl => by obtain ⟨_, _, _, rfl⟩ := ls3 (l := us) (by first | exact hl | exact hl.symm); rfl
  have F14 := fun_mk (st := s_curved) l14 c14 k14
  have b14 := F14.binds (ps := ["kind", "looks", "fresh", "slope", "x"]) fun _ _ _ _ _ _ us hl => by obtain ⟨_, _, _, _, _, rfl⟩ := ls5 (l := us) (by first | exact hl | exact hl.symm); rfl
  have F15 := fun_mk (st := s_start_of) l15 c15 k15
  have b15 := F15.binds (ps := ["kind", "looks", "fresh", "ends", "figure"]) fun _ _ _ _ _ _ us hl => by obtain ⟨_, _, _, _, _, rfl⟩ := ls5 (l := us) (by first | exact hl | exact hl.symm); rfl
  have F16 := fun_mk (st := s_asked_bounds) l16 c16 k16
  have b16 := F16.binds (ps := ["kind", "looks", "fresh", "ends"]) fun _ _ _ _ _ _ us hl => by obtain ⟨_, _, _, _, rfl⟩ := ls4 (l := us) (by first | exact hl | exact hl.symm); rfl
  have F17 := fun_mk (st := s_root_spans) l17 c17 k17
  have b17 := F17.binds (ps := ["kind", "looks", "fresh", "top"]) fun _ _ _ _ _ _ us hl => by obtain ⟨_, _, _, _, rfl⟩ := ls4 (l := us) (by first | exact hl | exact hl.symm); rfl
  have F18 := fun_mk (st := s_root_sheet) l18 c18 k18
  have b18 := F18.binds (ps := ["kind", "looks", "fresh"]) fun _ _ _ _ _ _ us hl => by obtain ⟨_, _, _, rfl⟩ := ls3 (l := us) (by first | exact hl | exact hl.symm); rfl
  have F19 := fun_mk (st := s_first_root_fault) l19 c19 k19
  have b19 := F19.binds (ps := ["kind", "looks", "fresh", "table"]) fun _ _ _ _ _ _ us hl => by obtain ⟨_, _, _, _, rfl⟩ := ls4 (l := us) (by first | exact hl | exact hl.symm); rfl
  have F20 := fun_mk (st := s_root_table) l20 c20 k20
  have b20 := F20.binds (ps := ["kind", "looks", "fresh"]) fun _ _ _ _ _ _ us hl => by obtain ⟨_, _, _, rfl⟩ := ls3 (l := us) (by first | exact hl | exact hl.symm); rfl
  have F21 := fun_mk (st := s__law_deck) l21 c21 k21
  have b21 := F21.binds (ps := ["cell", "turn"]) fun _ _ _ _ _ _ us hl => by obtain ⟨_, _, rfl⟩ := ls2 (l := us) (by first | exact hl | exact hl.symm); rfl
  have F22 := fun_mk (st := s__law_pick) l22 c22 k22
  have b22 := F22.binds (ps := ["deck", "many"]) fun _ _ _ _ _ _ us hl => by obtain ⟨_, _, rfl⟩ := ls2 (l := us) (by first | exact hl | exact hl.symm); rfl
  have F23 := fun_mk (st := s__law_half) l23 c23 k23
  have b23 := F23.binds (ps := ["kind", "looks"]) fun _ _ _ _ _ _ us hl => by obtain ⟨_, _, rfl⟩ := ls2 (l := us) (by first | exact hl | exact hl.symm); rfl
  have F24 := fun_mk (st := s__law_sides) l24 c24 k24
  have b24 := F24.binds (ps := ["kind", "looks", "fresh", "cell"]) fun _ _ _ _ _ _ us hl => by obtain ⟨_, _, _, _, rfl⟩ := ls4 (l := us) (by first | exact hl | exact hl.symm); rfl
  have F25 := fun_mk (st := s__law_cut) l25 c25 k25
  have b25 := F25.binds (ps := ["places", "x", "y", "w"]) fun _ _ _ _ _ _ us hl => by obtain ⟨_, _, _, _, rfl⟩ := ls4 (l := us) (by first | exact hl | exact hl.symm); rfl
  have F26 := fun_mk (st := s__law_places) l26 c26 k26
  have b26 := F26.binds (ps := ["kind", "looks", "fresh", "cell"]) fun _ _ _ _ _ _ us hl => by obtain ⟨_, _, _, _, rfl⟩ := ls4 (l := us) (by first | exact hl | exact hl.symm); rfl
  have F27 := fun_mk (st := s__law_root_good) l27 c27 k27
  have b27 := F27.binds (ps := ["kind", "looks", "fresh", "cell"]) fun _ _ _ _ _ _ us hl => by obtain ⟨_, _, _, _, rfl⟩ := ls4 (l := us) (by first | exact hl | exact hl.symm); rfl
  have F28 := fun_mk (st := s__law_root_set) l28 c28 k28
  have b28 := F28.binds (ps := ["deck"]) fun _ _ _ _ _ _ us hl => by obtain ⟨_, rfl⟩ := ls1 (l := us) (by first | exact hl | exact hl.symm); rfl
  have F29 := fun_mk (st := s__law_root_table) l29 c29 k29
  have b29 := F29.binds (ps := ["deck", "kind", "looks", "fresh", "way"]) fun _ _ _ _ _ _ us hl => by obtain ⟨_, _, _, _, _, rfl⟩ := ls5 (l := us) (by first | exact hl | exact hl.symm); rfl
  have F30 := fun_mk (st := s__law_spoilt) l30 c30 k30
  have b30 := F30.binds (ps := ["deck", "kind", "looks", "table"]) fun _ _ _ _ _ _ us hl => by obtain ⟨_, _, _, _, rfl⟩ := ls4 (l := us) (by first | exact hl | exact hl.symm); rfl
  have F31 := fun_mk (st := s__law_name_of) l31 c31 k31
  have b31 := F31.binds (ps := ["e"]) fun _ _ _ _ _ _ us hl => by obtain ⟨_, rfl⟩ := ls1 (l := us) (by first | exact hl | exact hl.symm); rfl
  have F32 := fun_mk (st := s__law_told) l32 c32 k32
  have b32 := F32.binds (ps := ["kind", "looks", "fresh"]) fun _ _ _ _ _ _ us hl => by obtain ⟨_, _, _, rfl⟩ := ls3 (l := us) (by first | exact hl | exact hl.symm); rfl
  have F33 := fun_mk (st := s__law_first) l33 c33 k33
  have b33 := F33.binds (ps := ["kind", "looks", "fresh", "table"]) fun _ _ _ _ _ _ us hl => by obtain ⟨_, _, _, _, rfl⟩ := ls4 (l := us) (by first | exact hl | exact hl.symm); rfl
  have F34 := fun_mk (st := s_law) l34 c34 k34
  have b34 := F34.binds (ps := ["script"]) fun _ _ _ _ _ _ us hl => by obtain ⟨_, rfl⟩ := ls1 (l := us) (by first | exact hl | exact hl.symm); rfl
  have F35 := fun_mk (st := s_NoTable_init) l35 c35 k35
  have b35 := F35.binds (ps := ["self", "top", "look"]) fun _ _ _ _ _ _ us hl => by obtain ⟨_, _, _, rfl⟩ := ls3 (l := us) (by first | exact hl | exact hl.symm); rfl
  obtain ⟨_, _, _, _, _, _, _, _, _, _, _, _, _, _, xe_NoTable⟩ := xlB_ok xl_NoTable
  let T : Txt K mg := { C_NoTable := _, g_NoTable := PySem.W.mg_of X G aCNoTable, C_NoFigure := _, g_NoFigure := PySem.W.mg_of X G aCNoFigure, C_NoLooks := _, g_NoLooks := PySem.W.mg_of X G aCNoLooks, C_NoRoom := _, g_NoRoom := PySem.W.mg_of X G aCNoRoom, C_NoRow := _, g_NoRow := PySem.W.mg_of X G aCNoRow, C_NoText := _, g_NoText := PySem.W.mg_of X G aCNoText, C_Spoilt := _, g_Spoilt := PySem.W.mg_of X G aCSpoilt, C_SlackError := _, g_SlackError := PySem.W.mg_of X G aCSlackError, xb_SlackError := xb_SlackError, xd_SlackError := xd_SlackError, xt_SlackError := xt_SlackError, xu_NoTable_SlackError := xu_NoTable_SlackError, s_rd := s_rd, s_ga := s_ga, s_vV := s_vV, kc_NoTable := kc_NoTable, eb_NoTable := eb_NoTable, et_NoTable := et_NoTable, ed_NoTable := ed_NoTable, eg_NoTable := eg_NoTable, ek_NoTable := ek_NoTable, ea_NoTable := ea_NoTable, em_NoTable := em_NoTable, es_NoTable := es_NoTable, nf_NoTable_top := nf_NoTable_top, nf_NoTable_look := nf_NoTable_look, ox_NoTable := ⟨⟨_, _, _, _, _, _, _, _, _, _, _, _, _, _, _, xe_NoTable, by rfl⟩, es_NoTable, eb_NoTable, et_NoTable, kc_NoTable⟩, ss_NoTable := ss_NoTable, ii_NoTable_NoFigure := ii_NoTable_NoFigure, ii_NoTable_NoLooks := ii_NoTable_NoLooks, ii_NoTable_NoRoom := ii_NoTable_NoRoom, ii_NoTable_NoRow := ii_NoTable_NoRow, ii_NoTable_NoTable := ii_NoTable_NoTable, ii_NoTable_NoText := ii_NoTable_NoText, ii_NoTable_Spoilt := ii_NoTable_Spoilt, ii_NoTable_ValueError := ii_NoTable_ValueError, id_NoFigure := id_NoFigure, it_NoFigure := it_NoFigure, id_NoLooks := id_NoLooks, it_NoLooks := it_NoLooks, id_NoRoom := id_NoRoom, it_NoRoom := it_NoRoom, id_NoRow := id_NoRow, it_NoRow := it_NoRow, id_NoTable := id_NoTable, it_NoTable := it_NoTable, id_NoText := id_NoText, it_NoText := it_NoText, id_Spoilt := id_Spoilt, it_Spoilt := it_Spoilt, e_n := e_n, e_k := e_k, a_upper_ends := _, fd_upper_ends := _, F_upper_ends := F0, m_upper_ends := PySem.W.mg_of X G a0, b_upper_ends := b0, a_spans_between := _, fd_spans_between := _, F_spans_between := F1, m_spans_between := PySem.W.mg_of X G a1, b_spans_between := b1, a_bare_look := _, fd_bare_look := _, F_bare_look := F2, m_bare_look := PySem.W.mg_of X G a2, b_bare_look := b2, a_first_bare := _, fd_first_bare := _, F_first_bare := F3, m_first_bare := PySem.W.mg_of X G a3, b_first_bare := b3, a_refuse_bare := _, fd_refuse_bare := _, F_refuse_bare := F4, m_refuse_bare := PySem.W.mg_of X G a4, b_refuse_bare := b4, a_plain_row := _, fd_plain_row := _, F_plain_row := F5, m_plain_row := PySem.W.mg_of X G a5, b_plain_row := b5, a_plain_rows := _, fd_plain_rows := _, F_plain_rows := F6, m_plain_rows := PySem.W.mg_of X G a6, b_plain_rows := b6, a_is_right := _, fd_is_right := _, F_is_right := F7, m_is_right := PySem.W.mg_of X G a7, b_is_right := b7, a_wrong_looks := _, fd_wrong_looks := _, F_wrong_looks := F8, m_wrong_looks := PySem.W.mg_of X G a8, b_wrong_looks := b8, a_first_wrong := _, fd_first_wrong := _, F_first_wrong := F9, m_first_wrong := PySem.W.mg_of X G a9, b_first_wrong := b9, a_half_of := _, fd_half_of := _, F_half_of := F10, m_half_of := PySem.W.mg_of X G a10, b_half_of := b10, a_first_top := _, fd_first_top := _, F_first_top := F11, m_first_top := PySem.W.mg_of X G a11, b_first_top := b11, a_tops_of := _, fd_tops_of := _, F_tops_of := F12, m_tops_of := PySem.W.mg_of X G a12, b_tops_of := b12, a_ends_of_top := _, fd_ends_of_top := _, F_ends_of_top := F13, m_ends_of_top := PySem.W.mg_of X G a13, b_ends_of_top := b13, a_curved := _, fd_curved := _, F_curved := F14, m_curved := PySem.W.mg_of X G a14, b_curved := b14, a_start_of := _, fd_start_of := _, F_start_of := F15, m_start_of := PySem.W.mg_of X G a15, b_start_of := b15, a_asked_bounds := _, fd_asked_bounds := _, F_asked_bounds := F16, m_asked_bounds := PySem.W.mg_of X G a16, b_asked_bounds := b16, a_root_spans := _, fd_root_spans := _, F_root_spans := F17, m_root_spans := PySem.W.mg_of X G a17, b_root_spans := b17, a_root_sheet := _, fd_root_sheet := _, F_root_sheet := F18, m_root_sheet := PySem.W.mg_of X G a18, b_root_sheet := b18, a_first_root_fault := _, fd_first_root_fault := _, F_first_root_fault := F19, m_first_root_fault := PySem.W.mg_of X G a19, b_first_root_fault := b19, a_root_table := _, fd_root_table := _, F_root_table := F20, m_root_table := PySem.W.mg_of X G a20, b_root_table := b20, a__law_deck := _, fd__law_deck := _, F__law_deck := F21, m__law_deck := PySem.W.mg_of X G a21, b__law_deck := b21, a__law_pick := _, fd__law_pick := _, F__law_pick := F22, m__law_pick := PySem.W.mg_of X G a22, b__law_pick := b22, a__law_half := _, fd__law_half := _, F__law_half := F23, m__law_half := PySem.W.mg_of X G a23, b__law_half := b23, a__law_sides := _, fd__law_sides := _, F__law_sides := F24, m__law_sides := PySem.W.mg_of X G a24, b__law_sides := b24, a__law_cut := _, fd__law_cut := _, F__law_cut := F25, m__law_cut := PySem.W.mg_of X G a25, b__law_cut := b25, a__law_places := _, fd__law_places := _, F__law_places := F26, m__law_places := PySem.W.mg_of X G a26, b__law_places := b26, a__law_root_good := _, fd__law_root_good := _, F__law_root_good := F27, m__law_root_good := PySem.W.mg_of X G a27, b__law_root_good := b27, a__law_root_set := _, fd__law_root_set := _, F__law_root_set := F28, m__law_root_set := PySem.W.mg_of X G a28, b__law_root_set := b28, a__law_root_table := _, fd__law_root_table := _, F__law_root_table := F29, m__law_root_table := PySem.W.mg_of X G a29, b__law_root_table := b29, a__law_spoilt := _, fd__law_spoilt := _, F__law_spoilt := F30, m__law_spoilt := PySem.W.mg_of X G a30, b__law_spoilt := b30, a__law_name_of := _, fd__law_name_of := _, F__law_name_of := F31, m__law_name_of := PySem.W.mg_of X G a31, b__law_name_of := b31, a__law_told := _, fd__law_told := _, F__law_told := F32, m__law_told := PySem.W.mg_of X G a32, b__law_told := b32, a__law_first := _, fd__law_first := _, F__law_first := F33, m__law_first := PySem.W.mg_of X G a33, b__law_first := b33, a_law := _, fd_law := _, F_law := F34, m_law := PySem.W.mg_of X G a34, b_law := b34, a_NoTable_init := _, fd_NoTable_init := _, F_NoTable_init := F35, ic_NoTable := a35, ti_NoTable := i35, b_NoTable_init := b35, z_range := PySem.W.mg_none_of X G z0, z_list := PySem.W.mg_none_of X G z1, z_zip := PySem.W.mg_none_of X G z2, z_max := PySem.W.mg_none_of X G z3, z_enumerate := PySem.W.mg_none_of X G z4, z_len := PySem.W.mg_none_of X G z5, z_min := PySem.W.mg_none_of X G z6, z_tuple := PySem.W.mg_none_of X G z7, z_abs := PySem.W.mg_none_of X G z8, z_int := PySem.W.mg_none_of X G z9, z_isinstance := PySem.W.mg_none_of X G z10, z_ValueError := PySem.W.mg_none_of X G z11 }
  exact ⟨PySem.W.fnOf "law" "law" (defArgs s_law) (defBody s_law) (defScope s_law) .none kV34 dc34 pm34 an34 cd34 ct34, fun s v => .of_eq rfl, fun base _ _ => ok_law T⟩
end My
open PySem PySem.W PySem.Calls PyProof.Rows
set_option maxRecDepth 100000 in
set_option maxHeartbeats 0 in
theorem PySem.Challenge.cw_slackfigures_k23_tables_for_roots_holds : PySem.Challenge.rw_slackfigures_k23_tables_for_roots.Holds := by
  w_on; o_law
  refine HandSHeadRun.head_any (r := OpenLaw.row PySem.Challenge.rw_slackfigures_k23_tables_for_roots) (q := view (OpenLaw.row PySem.Challenge.rw_slackfigures_k23_tables_for_roots).prog [47]) (H := My.hkK) (ob := My.obS) (M := 20000) (loose := My.looseK) (d := HandSHeadRun.topDef (OpenLaw.row PySem.Challenge.rw_slackfigures_k23_tables_for_roots).prog 47) (kwd := []) My.obS_eq
    (by kernel_rfl) (fun s => by kernel_rfl) My.run_k (by kernel_rfl) (by kernel_rfl) (by kernel_rfl) (by rfl) (by first | assumption | decide +kernel) (by decide +kernel) ⟨rfl, rfl, rfl, rfl, rfl, by decide +kernel⟩ ?hw ?hc
  case hw => w_witness2
  case hc =>
    refine My.walkEB (lw := PySem.Challenge.rw_slackfigures_k23_tables_for_roots) (n := 63) (k := 7) (x := "script") (C := L2.CX0) rfl (by decide) (by kernel_rfl) ⟨rfl, by decide, by decide⟩ ?F (fun _ _ _ _ z => z)
    intro w mg fa h Y G hmg0
    obtain ⟨K, KX, c⟩ := Y
    have hmg : mg ("law" : PySem.Str) = some (.ref fa) := by
      have e : (HandSHeadRun.topDef (OpenLaw.row PySem.Challenge.rw_slackfigures_k23_tables_for_roots).prog 47).name = ("law" : PySem.Str) := by kernel_rfl
      rw [← e]
      exact hmg0
    obtain ⟨fd, hb, hF⟩ := My.all_mk (l := PySem.Challenge.rw_slackfigures_k23_tables_for_roots) (w := w) KX G hmg c
    exact ⟨K, fd, My.sp_law K, KX, hb, fun H a ns hl hb2 _ hS => ⟨a, ns, rfl, hS, hl, hb2, fun _ => rfl⟩, hF⟩
