import PyProof.Rows.All
import Wide.All
import OpenK.AllK
import Wide.FinOn
import HandS.ForMost
import HandS.ForExc
import HandS.Walk
import HandS.Strs
import HandS.Deep
import HandS.Conv
import HandS.IsInst
import HandS.Style
import HandS.Evl
import HandS.Wide
import HandS.Set
import HandS.Nested
import HandS.EndTab
import KE.SortKeyHeap
import KE.KDictCopyH
import HandS.Head0
import HandS.Head1
import HandS.Head2
import HandS.Head3
import HandS.HeadEnd
import HandS.HeadHook1
import HandS.HeadHook2
import HandS.Words
import HandS.WordsExc
import HandS.ExcInit
import KE.KExcInit
import KE.KExcIs
import HandS.ExcOwn
import KE.KDictPairs
import KE.DataMinKey
import KE.DataCmp
import HandS.More
import HandS.Defaults
import HandS.Gcd
import HandS.Zip
import HandS.TryOnly
import HandS.Conv
import HandS.TupAny
import HandS.NoneIn
import KE.SortData
import KE.SortCalls
import KE.KDictKeyed
import PyProof.DictRoadsH
import PyProof.DictCompW
import HandS.DictComp
import HandS.DictTup
import HandS.RaiseMore
import HandS.Comp
import HandS.Lambda
import HandS.SortKw
import PyProof.ReprRoads
import PyProof.CallFns
import PyProof.ReprLen
import PyProof.StrLawsRepr
import PyProof.ReprText
import PyProof.DictItems
import KE.KRevSl
import KE.KDictWalk
import KE.GoesMore
import KE.GoesEnum
import KE.LtData
import HandS.New
import HandS.ExcValue
import HandS.MakeKw
import KE.DataMinMax
import KE.KDictDisplayH
import PyProof.Rows.TupDisplay
import HandS.StrMore
import HandS.Text
import HandS.FStr
import PyProof.StrCaseBound
import PyProof.StrLawsRepr
import PySem.Challenge.RW_rankedchains_k01_words_and_numbers
set_option Elab.async false
set_option maxRecDepth 100000
set_option maxHeartbeats 4000000
namespace Hd
set_option autoImplicit false
open PySem PySem.Spec PySem.W PyProof.Rows L2 He
theorem fun_of {K : PySem.W.Frag} {x qual : Str} {st : Stmt} {f : Addr} {fd : FuncData} {kws : List (Str × V)} (F : FunD K x qual (defArgs st) (defBody st) (defScope st) [] kws f fd) : Fun K x qual st f fd := by
  obtain ⟨⟨oc, od, dV, kV, doc, pm, an, cdv, ct, osl, e, lk, hc, hd, hk⟩, kp⟩ := F
  rcases hd with ⟨_, rfl⟩ | ⟨ne, _⟩
  · exact ⟨⟨oc, od, kV, doc, pm, an, cdv, ct, osl, e, lk, hc⟩, kp⟩
  · exact absurd rfl ne
/-- where a def's code stands, and its table -/
def fcode (K : PySem.W.Frag) (x : Str) : Addr := match K.lookup (ga K x) with
  | some ⟨_, _, .func fd, _⟩ => (match fd.code with | .ref c => c | _ => 0)
  | _ => 0
def ctab (K : PySem.W.Frag) (c : Addr) : Addr := match K.lookup c with
  | some ⟨_, _, .fields vs, _⟩ => (match (vs[11]? : Option Value) with | some (Value.ref p) => p | _ => 0)
  | _ => 0
def lamB (K : PySem.W.Frag) (x : Str) : Bool := (match K.lookup (ga K x) with
  | some ⟨_, _, .func fd, _⟩ => decide (fd.code = .ref (fcode K x))
  | _ => false) && (codeHdIn K (fcode K x) (ctab K (fcode K x)) && (K.lookup (ctab K (fcode K x))).isNone)
def tabB (g : Addr → Option Obj) (tb : Addr) : Bool := match g tb with
  | some ⟨c, d, .fields vs, sl⟩ => decide (c = .none) && (d.isNone && (vs.isEmpty && sl.isEmpty))
  | _ => false
theorem tabB_ok {g : Addr → Option Obj} {tb : Addr} (h : tabB g tb = true) : g tb = some (tabObj #[]) := by
  unfold tabB at h
  split at h
  · rename_i c d vs sl e
    rw [e]
    simp only [Bool.and_eq_true, decide_eq_true_eq, Option.isNone_iff_eq_none, Array.isEmpty_iff] at h
    obtain ⟨rfl, rfl, rfl, rfl⟩ := h
    rfl
  · cases h
/-- what stands at the end, at these addresses -/
def frX (g : Addr → Option Obj) (as : List Addr) : PySem.W.Frag := frG g as
theorem frX_in {h : Heap} {as : List Addr} : (frX h.get? as).In h := frG_in
def obsX (n : List Addr) (fa : List Fa) (fn : List DefD) (lams : List Str) (ex : PySem.W.Frag → Bool) (vf : PySem.W.Frag → List (Option (Option Value))) (g : Addr → Option Obj) : AlD × Bool × List (Option (Option Value)) :=
  (obsD fa fn (frX g n), (ex (frX g n) && lams.all fun x => lamB (frX g n) x && tabB g (ctab (frX g n) (fcode (frX g n) x))), vf (frX g n))
def hookX (n : List Addr) (fa : List Fa) (fn : List DefD) (lams : List Str) (ex : PySem.W.Frag → Bool) (vf : PySem.W.Frag → List (Option (Option Value))) (vv : List (Option (Option Value))) : PySem.W.Hook where
  α := AlD × Bool × List (Option (Option Value))
  obs s := obsX n fa fn lams ex vf s.heap.get?
  val _ := (valD fn, true, vv)
  says _ h := ∃ K : PySem.W.Frag, K.In h ∧ SaysD fa fn K ∧ ex K = true ∧ vf K = vv ∧ ∀ x ∈ lams, lamB K x = true ∧ h.get? (ctab K (fcode K x)) = some (tabObj #[])
  of w s e := by
    have e1 : obsD fa fn (frX s.heap.get? n) = valD fn := congrArg Prod.fst e
    have e2 : (ex (frX s.heap.get? n) && lams.all fun x => lamB (frX s.heap.get? n) x && tabB s.heap.get? (ctab (frX s.heap.get? n) (fcode (frX s.heap.get? n) x))) = true := congrArg (fun z => z.2.1) e
    have e3 : vf (frX s.heap.get? n) = vv := congrArg (fun z => z.2.2) e
    rw [Bool.and_eq_true, List.all_eq_true] at e2
    exact ⟨frX s.heap.get? n, frX_in, e1, e2.1, e3, fun x hx => by
      have := e2.2 x hx
      rw [Bool.and_eq_true] at this
      exact ⟨this.1, tabB_ok this.2⟩⟩
  keeps w h h' := fun ⟨K, k, c, e, v, l⟩ m => ⟨K, fun a o z => m a o (k a o z), c, e, v, fun x hx => ⟨(l x hx).1, m _ _ (l x hx).2⟩⟩
theorem obsX_eq {n : List Addr} {fa : List Fa} {fn : List DefD} {lams : List Str} {ex : PySem.W.Frag → Bool} {vf : PySem.W.Frag → List (Option (Option Value))} {vv : List (Option (Option Value))} {g : Addr → Option Obj} {s : Shared} (h : ∀ a, g a = s.heap.get? a) : obsX n fa fn lams ex vf g = (hookX n fa fn lams ex vf vv).obs s := by
  have e := funext h
  rw [e]
  rfl
theorem glo_ns {K : PySem.W.Frag} {x : Str} (h : Fa.ok K (.glo x) = true) : nsIn K mainGlobals x = some (some (.ref (ga K x))) := of_decide_eq_true h
theorem free_ns {K : PySem.W.Frag} {x : Str} (h : Fa.ok K (.free x) = true) : nsIn K mainGlobals x = some none := of_decide_eq_true h
theorem int_ns {K : PySem.W.Frag} {x : Str} {i : Int} (h : Fa.ok K (.int x i) = true) : ∃ tk, nsIn K mainGlobals x = some (some (.int i tk)) := by
  have h : (match nsIn K mainGlobals x with | some (some (Value.int j _)) => decide (j = i) | _ => false) = true := h
  split at h
  · rename_i j tk e
    rw [← of_decide_eq_true h]
    exact ⟨tk, e⟩
  · cases h
theorem str_ns {K : PySem.W.Frag} {x z : Str} (h : Fa.ok K (.str x z) = true) : ∃ tk, nsIn K mainGlobals x = some (some (.str z tk)) := by
  have h : (match nsIn K mainGlobals x with | some (some (Value.str j _)) => decide (j = z) | _ => false) = true := h
  split at h
  · rename_i j tk e
    rw [← of_decide_eq_true h]
    exact ⟨tk, e⟩
  · cases h
/-- a tuple at a place -/
def tupAt (K : PySem.W.Frag) (a : Addr) (vs : List V) : Bool := match K.lookup a with
  | some ⟨Value.type c, _, .seq its _, _⟩ => decide (c = "tuple") && (decide (its.size ≤ sizeLine) && relAll vs its.toList)
  | _ => false
theorem tupAt_ok {K : PySem.W.Frag} {a : Addr} {vs : List V} (h : tupAt K a vs = true) (H : Hp) : SqT K H a vs := by
  unfold tupAt at h
  split at h
  · rename_i c d its n sl e
    simp only [Bool.and_eq_true, decide_eq_true_eq] at h
    obtain ⟨rfl, h2, h3⟩ := h
    exact .inr ⟨_, its, n, e, rfl, rfl, h2, relAll_ok h3⟩
  · cases h
end Hd
namespace HdC
set_option autoImplicit false
open PySem PySem.Spec PySem.W
def testsOf (cx : Nat → Addr) : List Value := [.ref (cx 0), .ref (cx 1), .ref (cx 2), .ref (cx 3), .ref (cx 4), .ref (cx 5), .ref (cx 6), .ref (cx 12), .ref (cx 13), .ref (cx 14), .ref (cx 7), .ref (cx 8), .ref (cx 9), .ref (cx 15), .ref (cx 10), .ref (cx 11), .ref (cx 16), .type "ValueError", .ref (cx 17), .type "LookupError", .ref (cx 18), .type "RuntimeError"]
def nmOf : List Str := ["row", "polynomial", "ranking", "chain", "data", "jet", "paper", "twice", "place", "great", "unknown", "equation", "case", "nothing", "contradicted", "knotted", "ours", "value", "miss", "lookup", "end", "runtime"]
def kb : Nat → List Bool
  | 0 => [true, false, false, false, false, false, false, false, false, false, false, false, false, false, false, false, true, true, false, false, false, false]
  | 1 => [false, true, false, false, false, false, false, false, false, false, false, false, false, false, false, false, true, true, false, false, false, false]
  | 2 => [false, false, true, false, false, false, false, false, false, false, false, false, false, false, false, false, true, true, false, false, false, false]
  | 3 => [false, false, false, true, false, false, false, false, false, false, false, false, false, false, false, false, true, true, false, false, false, false]
  | 4 => [false, false, false, false, true, false, false, false, false, false, false, false, false, false, false, false, true, true, false, false, false, false]
  | 5 => [false, false, false, false, false, true, false, false, false, false, false, false, false, false, false, false, true, true, false, false, false, false]
  | 6 => [false, false, false, false, false, false, true, false, false, false, false, false, false, false, false, false, true, true, false, false, false, false]
  | 7 => [false, false, false, false, false, false, false, false, false, false, true, false, false, false, false, false, false, false, true, true, false, false]
  | 8 => [false, false, false, false, false, false, false, false, false, false, false, true, false, false, false, false, false, false, true, true, false, false]
  | 9 => [false, false, false, false, false, false, false, false, false, false, false, false, true, false, false, false, false, false, true, true, false, false]
  | 10 => [false, false, false, false, false, false, false, false, false, false, false, false, false, false, true, false, false, false, false, false, true, true]
  | 11 => [false, false, false, false, false, false, false, false, false, false, false, false, false, false, false, true, false, false, false, false, true, true]
  | 12 => [false, false, false, false, false, false, false, true, false, false, false, false, false, false, false, false, true, true, false, false, false, false]
  | 13 => [false, false, false, false, false, false, false, false, true, false, false, false, false, false, false, false, true, true, false, false, false, false]
  | 14 => [false, false, false, false, false, false, false, false, false, true, false, false, false, false, false, false, true, true, false, false, false, false]
  | 15 => [false, false, false, false, false, false, false, false, false, false, false, false, false, true, false, false, false, false, true, true, false, false]
  | _ => []
def bmI : Nat → List Value
  | 0 => [.type "ValueError", .type "Exception", .type "BaseException", .type "object"]
  | 1 => [.type "ValueError", .type "Exception", .type "BaseException", .type "object"]
  | 2 => [.type "ValueError", .type "Exception", .type "BaseException", .type "object"]
  | 3 => [.type "ValueError", .type "Exception", .type "BaseException", .type "object"]
  | 4 => [.type "ValueError", .type "Exception", .type "BaseException", .type "object"]
  | 5 => [.type "ValueError", .type "Exception", .type "BaseException", .type "object"]
  | 6 => [.type "ValueError", .type "Exception", .type "BaseException", .type "object"]
  | 7 => [.type "LookupError", .type "Exception", .type "BaseException", .type "object"]
  | 8 => [.type "LookupError", .type "Exception", .type "BaseException", .type "object"]
  | 9 => [.type "LookupError", .type "Exception", .type "BaseException", .type "object"]
  | 10 => [.type "RuntimeError", .type "Exception", .type "BaseException", .type "object"]
  | 11 => [.type "RuntimeError", .type "Exception", .type "BaseException", .type "object"]
  | 12 => [.type "ValueError", .type "Exception", .type "BaseException", .type "object"]
  | 13 => [.type "ValueError", .type "Exception", .type "BaseException", .type "object"]
  | 14 => [.type "ValueError", .type "Exception", .type "BaseException", .type "object"]
  | 15 => [.type "LookupError", .type "Exception", .type "BaseException", .type "object"]
  | _ => []
def nwI : Nat → String
  | 0 => "ValueError.__new__"
  | 1 => "ValueError.__new__"
  | 2 => "ValueError.__new__"
  | 3 => "ValueError.__new__"
  | 4 => "ValueError.__new__"
  | 5 => "ValueError.__new__"
  | 6 => "ValueError.__new__"
  | 7 => "LookupError.__new__"
  | 8 => "LookupError.__new__"
  | 9 => "LookupError.__new__"
  | 10 => "RuntimeError.__new__"
  | 11 => "RuntimeError.__new__"
  | 12 => "ValueError.__new__"
  | 13 => "ValueError.__new__"
  | 14 => "ValueError.__new__"
  | 15 => "LookupError.__new__"
  | _ => ""
def cxOfL (l : List Addr) : Nat → Addr := fun i => l.getD i 0
/-- the facts of an own exception class, asked at once -/
def xcB (K : PySem.W.Frag) (C : Addr) (bmB : List Value) (newId : String) : Bool :=
  PySem.W.excInitIn K C bmB newId && PySem.W.hasDictIn K C && decide (PySem.W.findIn K (.ref C) "__setattr__" = some (some (.builtin "object.__setattr__"))) && decide (PySem.W.findIn K (.ref C) "__getattribute__" = some (some (.builtin "BaseException.__getattribute__"))) &&
  decide (PySem.W.findIn K (.ref C) "__getattr__" = some none) && decide (PySem.W.subIn K (.ref C) (.type "BaseException") = some true) && decide (PySem.W.findIn K (.ref C) "__class__" = some (some (.builtin "object.__class__"))) &&
  decide (PySem.W.specialIn K (.builtin "object.__class__") "__get__" = some (some (.builtin "getset_descriptor.__get__"))) && decide (PySem.W.takesIn K (.builtin "object.__class__") = some true) && decide (PySem.W.mroIn K C (.type "object") = some true) && PySem.W.keepIn K (.ref C)
def sysB (K : PySem.W.Frag) : Bool := match K.lookup PySem.sysModules with
  | some o => decide (o.cls = .type "dict")
  | none => false
end HdC
namespace K12
set_option autoImplicit false
open PySem PySem.Spec PySem.W PyProof.Rows L2 HdC
abbrev hS (i : Nat) : Stmt := PySem.Challenge.pw_rankedchains_k01_words_and_numbers.main.body.getD i (.Pass ⟨0, 0, 0, 0⟩)
def hd0 : He.DefD := ⟨("_law_draw", none), "_law_draw", "_law_draw", defArgs (hS 44), defBody (hS 44), defScope (hS 44), [], []⟩
def hd1 : He.DefD := ⟨("_law_mixed", none), "_law_mixed", "_law_mixed", defArgs (hS 43), defBody (hS 43), defScope (hS 43), [], []⟩
def hd2 : He.DefD := ⟨("_law_digit", none), "_law_digit", "_law_digit", defArgs (hS 45), defBody (hS 45), defScope (hS 45), [], []⟩
def hd3 : He.DefD := ⟨("_law_texts", none), "_law_texts", "_law_texts", defArgs (hS 49), defBody (hS 49), defScope (hS 49), [], []⟩
def hd4 : He.DefD := ⟨("_law_lowest", none), "_law_lowest", "_law_lowest", defArgs (hS 47), defBody (hS 47), defScope (hS 47), [], []⟩
def hd5 : He.DefD := ⟨("_law_fraction", none), "_law_fraction", "_law_fraction", defArgs (hS 52), defBody (hS 52), defScope (hS 52), [], []⟩
def hd6 : He.DefD := ⟨("sum_of", none), "sum_of", "sum_of", defArgs (hS 36), defBody (hS 36), defScope (hS 36), [], []⟩
def hd7 : He.DefD := ⟨("difference", none), "difference", "difference", defArgs (hS 37), defBody (hS 37), defScope (hS 37), [], []⟩
def hd8 : He.DefD := ⟨("product", none), "product", "product", defArgs (hS 38), defBody (hS 38), defScope (hS 38), [], []⟩
def hd9 : He.DefD := ⟨("is_whole", none), "is_whole", "is_whole", defArgs (hS 25), defBody (hS 25), defScope (hS 25), [], []⟩
def hd10 : He.DefD := ⟨("lowest", none), "lowest", "lowest", defArgs (hS 35), defBody (hS 35), defScope (hS 35), [], []⟩
def hd11 : He.DefD := ⟨("fraction", none), "fraction", "fraction", defArgs (hS 34), defBody (hS 34), defScope (hS 34), [.int 1], []⟩
def hd12 : He.DefD := ⟨("quotient", none), "quotient", "quotient", defArgs (hS 39), defBody (hS 39), defScope (hS 39), [], []⟩
def hd13 : He.DefD := ⟨("_law_kinds", none), "_law_kinds", "_law_kinds", defArgs (hS 46), defBody (hS 46), defScope (hS 46), [], []⟩
def hd14 : He.DefD := ⟨("_law_told", none), "_law_told", "_law_told", defArgs (hS 50), defBody (hS 50), defScope (hS 50), [], []⟩
def hd15 : He.DefD := ⟨("whole_text", none), "whole_text", "whole_text", defArgs (hS 41), defBody (hS 41), defScope (hS 41), [], []⟩
def hd16 : He.DefD := ⟨("number_text", none), "number_text", "number_text", defArgs (hS 40), defBody (hS 40), defScope (hS 40), [], []⟩
def hd17 : He.DefD := ⟨("_law_reckoned_right", none), "_law_reckoned_right", "_law_reckoned_right", defArgs (hS 51), defBody (hS 51), defScope (hS 51), [], []⟩
def hd18 : He.DefD := ⟨("is_fraction", none), "is_fraction", "is_fraction", defArgs (hS 33), defBody (hS 33), defScope (hS 33), [], []⟩
def hd19 : He.DefD := ⟨("is_axis", none), "is_axis", "is_axis", defArgs (hS 28), defBody (hS 28), defScope (hS 28), [], []⟩
def hd20 : He.DefD := ⟨("is_among", none), "is_among", "is_among", defArgs (hS 26), defBody (hS 26), defScope (hS 26), [], []⟩
def hd21 : He.DefD := ⟨("is_name", none), "is_name", "is_name", defArgs (hS 27), defBody (hS 27), defScope (hS 27), [], []⟩
def hd22 : He.DefD := ⟨("words_of", none), "words_of", "words_of", defArgs (hS 29), defBody (hS 29), defScope (hS 29), [], []⟩
def hd23 : He.DefD := ⟨("_law_word_right", none), "_law_word_right", "_law_word_right", defArgs (hS 48), defBody (hS 48), defScope (hS 48), [], []⟩
def hd24 : He.DefD := ⟨("law", none), "law", "law", defArgs (hS 53), defBody (hS 53), defScope (hS 53), [], []⟩
def hfn : List He.DefD := ([hd0, hd1, hd2, hd3, hd4, hd5, hd6, hd7, hd8, hd9, hd10, hd11, hd12, hd13] : List He.DefD) ++ ([hd14, hd15, hd16, hd17, hd18, hd19, hd20, hd21, hd22, hd23, hd24] : List He.DefD)
def hfa : List He.Fa := ([.glo "_law_draw", .glo "_law_mixed", .glo "_law_digit", .glo "_law_texts", .glo "_law_lowest", .glo "_law_fraction", .glo "sum_of", .glo "difference", .glo "product", .glo "is_whole", .glo "lowest", .glo "fraction", .glo "quotient", .glo "_law_kinds"] : List He.Fa) ++ ([.glo "_law_told", .glo "whole_text", .glo "number_text", .glo "_law_reckoned_right", .glo "is_fraction", .glo "is_axis", .glo "is_among", .glo "is_name", .glo "words_of", .glo "_law_word_right", .glo "law", .glo "BadRow", .glo "BadPolynomial", .glo "BadRanking"] : List He.Fa) ++ ([.glo "BadChain", .glo "BadData", .glo "BadJet", .glo "BadPaper", .glo "NoUnknown", .glo "NoEquation", .glo "NoCase", .glo "Contradicted", .glo "Knotted", .glo "Twice", .glo "OutOfPlace", .glo "TooGreat", .glo "Nothing", .glo "ChainError"] : List He.Fa) ++ ([.glo "MissError", .glo "CaseError", .free "LookupError", .free "RuntimeError", .free "ValueError", .free "abs", .free "all", .free "bool", .free "divmod", .free "enumerate", .free "int", .free "isinstance", .free "len", .free "list"] : List He.Fa) ++ ([.free "range", .free "repr", .free "str", .free "sum", .free "tuple", .int "MOST_LETTERS" 8, .str "LETTERS" "abcdefghijklmnopqrstuvwxyz", .glo "AXES", .glo "NOUGHT", .glo "ONE", .noat "BadRow" "row", .noat "BadRow" "word", .noat "BadPolynomial" "number", .noat "BadRanking" "place"] : List He.Fa) ++ ([.noat "BadChain" "place", .noat "BadData" "place", .noat "BadJet" "place", .noat "BadPaper" "place", .noat "NoUnknown" "name", .noat "NoEquation" "number", .noat "NoCase" "number", .noat "Contradicted" "number", .noat "Knotted" "number", .exm "BadRow" "ChainError" true, .exm "BadPolynomial" "ChainError" true, .exm "BadRanking" "ChainError" true, .exm "BadChain" "ChainError" true, .exm "BadData" "ChainError" true] : List He.Fa) ++ ([.exm "BadJet" "ChainError" true, .exm "BadPaper" "ChainError" true, .exm "Twice" "ChainError" true, .exm "OutOfPlace" "ChainError" true, .exm "TooGreat" "ChainError" true, .keep "OutOfPlace"] : List He.Fa)
def haddr : List Addr := ([3, 2, 6, 4, 52, 72, 92, 112, 132, 152, 172, 192, 204, 216] : List Addr) ++ ([228, 240, 260, 279, 298, 310, 322, 342, 361, 364, 371, 378, 383, 390] : List Addr) ++ ([397, 398, 399, 406, 414, 421, 428, 435, 442, 449, 456, 463, 470, 477] : List Addr) ++ ([484, 489, 496, 501, 506, 513, 520, 527, 532, 0, 51, 71, 91, 111] : List Addr) ++ ([131, 151, 171, 191, 203, 215, 227, 239, 259, 278, 297, 309, 321, 341] : List Addr) ++ ([360, 370, 377, 382, 389, 396, 405, 413, 407, 420, 427, 434, 441, 448] : List Addr) ++ ([455, 462, 469, 476, 483, 488, 495, 500, 505, 512, 519, 526, 531, 50] : List Addr) ++ ([53, 69, 70, 89, 90, 109, 110, 129, 130, 149, 150, 169, 170, 189] : List Addr) ++ ([190, 202, 214, 226, 238, 241, 257, 258, 276, 277, 295, 296, 308, 320] : List Addr) ++ ([323, 339, 340, 358, 359, 365, 367, 368, 372, 374, 375, 379, 384, 386] : List Addr) ++ ([387, 391, 393, 394, 400, 402, 403, 408, 410, 411, 415, 417, 418, 422] : List Addr) ++ ([424, 425, 429, 431, 432, 436, 438, 439, 443, 445, 446, 450, 452, 453] : List Addr) ++ ([457, 459, 460, 464, 466, 467, 471, 473, 474, 478, 480, 481, 485, 490] : List Addr) ++ ([492, 493, 497, 502, 507, 509, 510, 514, 516, 517, 521, 523, 524, 528] : List Addr) ++ ([68, 88, 82, 108, 102, 128, 122, 148, 142, 168, 162, 188, 182, 256] : List Addr) ++ ([275, 294, 338, 357, 1] : List Addr)
def hnames : List Str := (["gcd", "__name__", "ChainError", "BadRow", "BadPolynomial", "BadRanking", "BadChain", "BadData", "BadJet", "BadPaper", "Twice", "OutOfPlace", "TooGreat", "MissError"] : List Str) ++ (["NoUnknown", "NoEquation", "NoCase", "Nothing", "CaseError", "Contradicted", "Knotted", "AXES", "LETTERS", "MOST_LETTERS", "is_whole", "is_among", "is_name", "is_axis"] : List Str) ++ (["words_of", "NOUGHT", "ONE", "is_fraction", "fraction", "lowest", "sum_of", "difference", "product", "quotient", "number_text", "whole_text", "_law_mixed", "_law_draw"] : List Str) ++ (["_law_digit", "_law_kinds", "_law_lowest", "_law_word_right", "_law_texts", "_law_told", "_law_reckoned_right", "_law_fraction"] : List Str)
def hx_x0 (K : PySem.W.Frag) : Bool := xcB K (He.ga K "BadRow") (bmI 0) (nwI 0)
def hx_x1 (K : PySem.W.Frag) : Bool := xcB K (He.ga K "BadPolynomial") (bmI 1) (nwI 1)
def hx_x2 (K : PySem.W.Frag) : Bool := xcB K (He.ga K "BadRanking") (bmI 2) (nwI 2)
def hx_x3 (K : PySem.W.Frag) : Bool := xcB K (He.ga K "BadChain") (bmI 3) (nwI 3)
def hx_x4 (K : PySem.W.Frag) : Bool := xcB K (He.ga K "BadData") (bmI 4) (nwI 4)
def hx_x5 (K : PySem.W.Frag) : Bool := xcB K (He.ga K "BadJet") (bmI 5) (nwI 5)
def hx_x6 (K : PySem.W.Frag) : Bool := xcB K (He.ga K "BadPaper") (bmI 6) (nwI 6)
def hx_x7 (K : PySem.W.Frag) : Bool := xcB K (He.ga K "NoUnknown") (bmI 7) (nwI 7)
def hx_x8 (K : PySem.W.Frag) : Bool := xcB K (He.ga K "NoEquation") (bmI 8) (nwI 8)
def hx_x9 (K : PySem.W.Frag) : Bool := xcB K (He.ga K "NoCase") (bmI 9) (nwI 9)
def hx_x10 (K : PySem.W.Frag) : Bool := xcB K (He.ga K "Contradicted") (bmI 10) (nwI 10)
def hx_x11 (K : PySem.W.Frag) : Bool := xcB K (He.ga K "Knotted") (bmI 11) (nwI 11)
def hx_x12 (K : PySem.W.Frag) : Bool := xcB K (He.ga K "Twice") (bmI 12) (nwI 12)
def hx_x13 (K : PySem.W.Frag) : Bool := xcB K (He.ga K "OutOfPlace") (bmI 13) (nwI 13)
def hx_x14 (K : PySem.W.Frag) : Bool := xcB K (He.ga K "TooGreat") (bmI 14) (nwI 14)
def hx_x15 (K : PySem.W.Frag) : Bool := xcB K (He.ga K "Nothing") (bmI 15) (nwI 15)
def hx_q13 (K : PySem.W.Frag) : Bool := PySem.W.excIn K (He.ga K "OutOfPlace") (bmI 13) (nwI 13)
def hx_q12 (K : PySem.W.Frag) : Bool := PySem.W.excIn K (He.ga K "Twice") (bmI 12) (nwI 12)
def hx_q14 (K : PySem.W.Frag) : Bool := PySem.W.excIn K (He.ga K "TooGreat") (bmI 14) (nwI 14)
def hx_q15 (K : PySem.W.Frag) : Bool := PySem.W.excIn K (He.ga K "Nothing") (bmI 15) (nwI 15)
def hx_kt0 (K : PySem.W.Frag) : Bool := decide ((testsOf (cxOfL [(He.ga K "BadRow"), (He.ga K "BadPolynomial"), (He.ga K "BadRanking"), (He.ga K "BadChain"), (He.ga K "BadData"), (He.ga K "BadJet"), (He.ga K "BadPaper"), (He.ga K "NoUnknown"), (He.ga K "NoEquation"), (He.ga K "NoCase"), (He.ga K "Contradicted"), (He.ga K "Knotted"), (He.ga K "Twice"), (He.ga K "OutOfPlace"), (He.ga K "TooGreat"), (He.ga K "Nothing"), (He.ga K "ChainError"), (He.ga K "MissError"), (He.ga K "CaseError")])).map (PySem.W.kitOne K (.ref (He.ga K "BadRow"))) = (kb 0).map some)
def hx_kt1 (K : PySem.W.Frag) : Bool := decide ((testsOf (cxOfL [(He.ga K "BadRow"), (He.ga K "BadPolynomial"), (He.ga K "BadRanking"), (He.ga K "BadChain"), (He.ga K "BadData"), (He.ga K "BadJet"), (He.ga K "BadPaper"), (He.ga K "NoUnknown"), (He.ga K "NoEquation"), (He.ga K "NoCase"), (He.ga K "Contradicted"), (He.ga K "Knotted"), (He.ga K "Twice"), (He.ga K "OutOfPlace"), (He.ga K "TooGreat"), (He.ga K "Nothing"), (He.ga K "ChainError"), (He.ga K "MissError"), (He.ga K "CaseError")])).map (PySem.W.kitOne K (.ref (He.ga K "BadPolynomial"))) = (kb 1).map some)
def hx_kt2 (K : PySem.W.Frag) : Bool := decide ((testsOf (cxOfL [(He.ga K "BadRow"), (He.ga K "BadPolynomial"), (He.ga K "BadRanking"), (He.ga K "BadChain"), (He.ga K "BadData"), (He.ga K "BadJet"), (He.ga K "BadPaper"), (He.ga K "NoUnknown"), (He.ga K "NoEquation"), (He.ga K "NoCase"), (He.ga K "Contradicted"), (He.ga K "Knotted"), (He.ga K "Twice"), (He.ga K "OutOfPlace"), (He.ga K "TooGreat"), (He.ga K "Nothing"), (He.ga K "ChainError"), (He.ga K "MissError"), (He.ga K "CaseError")])).map (PySem.W.kitOne K (.ref (He.ga K "BadRanking"))) = (kb 2).map some)
def hx_kt3 (K : PySem.W.Frag) : Bool := decide ((testsOf (cxOfL [(He.ga K "BadRow"), (He.ga K "BadPolynomial"), (He.ga K "BadRanking"), (He.ga K "BadChain"), (He.ga K "BadData"), (He.ga K "BadJet"), (He.ga K "BadPaper"), (He.ga K "NoUnknown"), (He.ga K "NoEquation"), (He.ga K "NoCase"), (He.ga K "Contradicted"), (He.ga K "Knotted"), (He.ga K "Twice"), (He.ga K "OutOfPlace"), (He.ga K "TooGreat"), (He.ga K "Nothing"), (He.ga K "ChainError"), (He.ga K "MissError"), (He.ga K "CaseError")])).map (PySem.W.kitOne K (.ref (He.ga K "BadChain"))) = (kb 3).map some)
def hx_kt4 (K : PySem.W.Frag) : Bool := decide ((testsOf (cxOfL [(He.ga K "BadRow"), (He.ga K "BadPolynomial"), (He.ga K "BadRanking"), (He.ga K "BadChain"), (He.ga K "BadData"), (He.ga K "BadJet"), (He.ga K "BadPaper"), (He.ga K "NoUnknown"), (He.ga K "NoEquation"), (He.ga K "NoCase"), (He.ga K "Contradicted"), (He.ga K "Knotted"), (He.ga K "Twice"), (He.ga K "OutOfPlace"), (He.ga K "TooGreat"), (He.ga K "Nothing"), (He.ga K "ChainError"), (He.ga K "MissError"), (He.ga K "CaseError")])).map (PySem.W.kitOne K (.ref (He.ga K "BadData"))) = (kb 4).map some)
def hx_kt5 (K : PySem.W.Frag) : Bool := decide ((testsOf (cxOfL [(He.ga K "BadRow"), (He.ga K "BadPolynomial"), (He.ga K "BadRanking"), (He.ga K "BadChain"), (He.ga K "BadData"), (He.ga K "BadJet"), (He.ga K "BadPaper"), (He.ga K "NoUnknown"), (He.ga K "NoEquation"), (He.ga K "NoCase"), (He.ga K "Contradicted"), (He.ga K "Knotted"), (He.ga K "Twice"), (He.ga K "OutOfPlace"), (He.ga K "TooGreat"), (He.ga K "Nothing"), (He.ga K "ChainError"), (He.ga K "MissError"), (He.ga K "CaseError")])).map (PySem.W.kitOne K (.ref (He.ga K "BadJet"))) = (kb 5).map some)
def hx_kt6 (K : PySem.W.Frag) : Bool := decide ((testsOf (cxOfL [(He.ga K "BadRow"), (He.ga K "BadPolynomial"), (He.ga K "BadRanking"), (He.ga K "BadChain"), (He.ga K "BadData"), (He.ga K "BadJet"), (He.ga K "BadPaper"), (He.ga K "NoUnknown"), (He.ga K "NoEquation"), (He.ga K "NoCase"), (He.ga K "Contradicted"), (He.ga K "Knotted"), (He.ga K "Twice"), (He.ga K "OutOfPlace"), (He.ga K "TooGreat"), (He.ga K "Nothing"), (He.ga K "ChainError"), (He.ga K "MissError"), (He.ga K "CaseError")])).map (PySem.W.kitOne K (.ref (He.ga K "BadPaper"))) = (kb 6).map some)
def hx_kt7 (K : PySem.W.Frag) : Bool := decide ((testsOf (cxOfL [(He.ga K "BadRow"), (He.ga K "BadPolynomial"), (He.ga K "BadRanking"), (He.ga K "BadChain"), (He.ga K "BadData"), (He.ga K "BadJet"), (He.ga K "BadPaper"), (He.ga K "NoUnknown"), (He.ga K "NoEquation"), (He.ga K "NoCase"), (He.ga K "Contradicted"), (He.ga K "Knotted"), (He.ga K "Twice"), (He.ga K "OutOfPlace"), (He.ga K "TooGreat"), (He.ga K "Nothing"), (He.ga K "ChainError"), (He.ga K "MissError"), (He.ga K "CaseError")])).map (PySem.W.kitOne K (.ref (He.ga K "NoUnknown"))) = (kb 7).map some)
def hx_kt8 (K : PySem.W.Frag) : Bool := decide ((testsOf (cxOfL [(He.ga K "BadRow"), (He.ga K "BadPolynomial"), (He.ga K "BadRanking"), (He.ga K "BadChain"), (He.ga K "BadData"), (He.ga K "BadJet"), (He.ga K "BadPaper"), (He.ga K "NoUnknown"), (He.ga K "NoEquation"), (He.ga K "NoCase"), (He.ga K "Contradicted"), (He.ga K "Knotted"), (He.ga K "Twice"), (He.ga K "OutOfPlace"), (He.ga K "TooGreat"), (He.ga K "Nothing"), (He.ga K "ChainError"), (He.ga K "MissError"), (He.ga K "CaseError")])).map (PySem.W.kitOne K (.ref (He.ga K "NoEquation"))) = (kb 8).map some)
def hx_kt9 (K : PySem.W.Frag) : Bool := decide ((testsOf (cxOfL [(He.ga K "BadRow"), (He.ga K "BadPolynomial"), (He.ga K "BadRanking"), (He.ga K "BadChain"), (He.ga K "BadData"), (He.ga K "BadJet"), (He.ga K "BadPaper"), (He.ga K "NoUnknown"), (He.ga K "NoEquation"), (He.ga K "NoCase"), (He.ga K "Contradicted"), (He.ga K "Knotted"), (He.ga K "Twice"), (He.ga K "OutOfPlace"), (He.ga K "TooGreat"), (He.ga K "Nothing"), (He.ga K "ChainError"), (He.ga K "MissError"), (He.ga K "CaseError")])).map (PySem.W.kitOne K (.ref (He.ga K "NoCase"))) = (kb 9).map some)
def hx_kt10 (K : PySem.W.Frag) : Bool := decide ((testsOf (cxOfL [(He.ga K "BadRow"), (He.ga K "BadPolynomial"), (He.ga K "BadRanking"), (He.ga K "BadChain"), (He.ga K "BadData"), (He.ga K "BadJet"), (He.ga K "BadPaper"), (He.ga K "NoUnknown"), (He.ga K "NoEquation"), (He.ga K "NoCase"), (He.ga K "Contradicted"), (He.ga K "Knotted"), (He.ga K "Twice"), (He.ga K "OutOfPlace"), (He.ga K "TooGreat"), (He.ga K "Nothing"), (He.ga K "ChainError"), (He.ga K "MissError"), (He.ga K "CaseError")])).map (PySem.W.kitOne K (.ref (He.ga K "Contradicted"))) = (kb 10).map some)
def hx_kt11 (K : PySem.W.Frag) : Bool := decide ((testsOf (cxOfL [(He.ga K "BadRow"), (He.ga K "BadPolynomial"), (He.ga K "BadRanking"), (He.ga K "BadChain"), (He.ga K "BadData"), (He.ga K "BadJet"), (He.ga K "BadPaper"), (He.ga K "NoUnknown"), (He.ga K "NoEquation"), (He.ga K "NoCase"), (He.ga K "Contradicted"), (He.ga K "Knotted"), (He.ga K "Twice"), (He.ga K "OutOfPlace"), (He.ga K "TooGreat"), (He.ga K "Nothing"), (He.ga K "ChainError"), (He.ga K "MissError"), (He.ga K "CaseError")])).map (PySem.W.kitOne K (.ref (He.ga K "Knotted"))) = (kb 11).map some)
def hx_kt12 (K : PySem.W.Frag) : Bool := decide ((testsOf (cxOfL [(He.ga K "BadRow"), (He.ga K "BadPolynomial"), (He.ga K "BadRanking"), (He.ga K "BadChain"), (He.ga K "BadData"), (He.ga K "BadJet"), (He.ga K "BadPaper"), (He.ga K "NoUnknown"), (He.ga K "NoEquation"), (He.ga K "NoCase"), (He.ga K "Contradicted"), (He.ga K "Knotted"), (He.ga K "Twice"), (He.ga K "OutOfPlace"), (He.ga K "TooGreat"), (He.ga K "Nothing"), (He.ga K "ChainError"), (He.ga K "MissError"), (He.ga K "CaseError")])).map (PySem.W.kitOne K (.ref (He.ga K "Twice"))) = (kb 12).map some)
def hx_kt13 (K : PySem.W.Frag) : Bool := decide ((testsOf (cxOfL [(He.ga K "BadRow"), (He.ga K "BadPolynomial"), (He.ga K "BadRanking"), (He.ga K "BadChain"), (He.ga K "BadData"), (He.ga K "BadJet"), (He.ga K "BadPaper"), (He.ga K "NoUnknown"), (He.ga K "NoEquation"), (He.ga K "NoCase"), (He.ga K "Contradicted"), (He.ga K "Knotted"), (He.ga K "Twice"), (He.ga K "OutOfPlace"), (He.ga K "TooGreat"), (He.ga K "Nothing"), (He.ga K "ChainError"), (He.ga K "MissError"), (He.ga K "CaseError")])).map (PySem.W.kitOne K (.ref (He.ga K "OutOfPlace"))) = (kb 13).map some)
def hx_kt14 (K : PySem.W.Frag) : Bool := decide ((testsOf (cxOfL [(He.ga K "BadRow"), (He.ga K "BadPolynomial"), (He.ga K "BadRanking"), (He.ga K "BadChain"), (He.ga K "BadData"), (He.ga K "BadJet"), (He.ga K "BadPaper"), (He.ga K "NoUnknown"), (He.ga K "NoEquation"), (He.ga K "NoCase"), (He.ga K "Contradicted"), (He.ga K "Knotted"), (He.ga K "Twice"), (He.ga K "OutOfPlace"), (He.ga K "TooGreat"), (He.ga K "Nothing"), (He.ga K "ChainError"), (He.ga K "MissError"), (He.ga K "CaseError")])).map (PySem.W.kitOne K (.ref (He.ga K "TooGreat"))) = (kb 14).map some)
def hx_kt15 (K : PySem.W.Frag) : Bool := decide ((testsOf (cxOfL [(He.ga K "BadRow"), (He.ga K "BadPolynomial"), (He.ga K "BadRanking"), (He.ga K "BadChain"), (He.ga K "BadData"), (He.ga K "BadJet"), (He.ga K "BadPaper"), (He.ga K "NoUnknown"), (He.ga K "NoEquation"), (He.ga K "NoCase"), (He.ga K "Contradicted"), (He.ga K "Knotted"), (He.ga K "Twice"), (He.ga K "OutOfPlace"), (He.ga K "TooGreat"), (He.ga K "Nothing"), (He.ga K "ChainError"), (He.ga K "MissError"), (He.ga K "CaseError")])).map (PySem.W.kitOne K (.ref (He.ga K "Nothing"))) = (kb 15).map some)
def hx_sysF (K : PySem.W.Frag) : Bool := HdC.sysB K
def hx_vAX (K : PySem.W.Frag) : Bool := Hd.tupAt K (He.ga K "AXES") [.str "x", .str "y"]
def hx_vNO (K : PySem.W.Frag) : Bool := Hd.tupAt K (He.ga K "NOUGHT") [.int 0, .int 1]
def hx_vON (K : PySem.W.Frag) : Bool := Hd.tupAt K (He.ga K "ONE") [.int 1, .int 1]
def hx_ty13 (K : PySem.W.Frag) : Bool := decide (PySem.W.typeIn K (.ref (He.ga K "OutOfPlace")) = some (.type "type"))
def hexs : List (PySem.W.Frag → Bool) := ([hx_x0, hx_x1, hx_x2, hx_x3, hx_x4, hx_x5, hx_x6, hx_x7, hx_x8, hx_x9, hx_x10, hx_x11, hx_x12, hx_x13] : List (PySem.W.Frag → Bool)) ++ ([hx_x14, hx_x15, hx_q13, hx_q12, hx_q14, hx_q15, hx_kt0, hx_kt1, hx_kt2, hx_kt3, hx_kt4, hx_kt5, hx_kt6, hx_kt7] : List (PySem.W.Frag → Bool)) ++ ([hx_kt8, hx_kt9, hx_kt10, hx_kt11, hx_kt12, hx_kt13, hx_kt14, hx_kt15, hx_sysF, hx_vAX, hx_vNO, hx_vON, hx_ty13] : List (PySem.W.Frag → Bool))
def hex (K : PySem.W.Frag) : Bool := hexs.all fun e => e K
def hlams : List Str := []
theorem hex_at {K : PySem.W.Frag} (h : hex K = true) (i : Nat) {e : PySem.W.Frag → Bool} (q : hexs[i]? = some e) : e K = true := List.all_eq_true.mp h e (List.mem_of_getElem? q)
abbrev hR : PySem.W.OpenRow := PySem.W.OpenLaw.row PySem.Challenge.rw_rankedchains_k01_words_and_numbers
def hvf (K : PySem.W.Frag) : List (Option (Option Value)) := [PySem.W.nsIn K mainGlobals "gcd"]
def hvv : List (Option (Option Value)) := [some (some (.builtin "math.gcd"))]
abbrev hk : PySem.W.Hook := Hd.hookX haddr hfa hfn hlams hex hvf hvv
def hob (s : PySem.W.SharedT) : He.AlD × Bool × List (Option (Option Value)) := Hd.obsX haddr hfa hfn hlams hex hvf (HandSHeadRun.getT s)
theorem hob_eq (s : PySem.W.SharedT) : hob s = hk.obs s.abs := Hd.obsX_eq (HandSHeadRun.getT_eq s)
set_option maxRecDepth 100000 in
set_option maxHeartbeats 0 in
theorem hrun (w : World) : HandSHeadRun.RunEqI hR (PySem.W.view hR.prog [0, 53]) hk hob 7000 hnames w := by
  unfold HandSHeadRun.RunEqI
  kernel_rfl
end K12
namespace My
open PySem L2
theorem isP {p : Prop} (h : p) : p := h
theorem new {H : Hp} {p : Addr} {o : HO} (hp : H p = none) : Same H (upd H p o) := fun b u e => by
  rw [upd_ne (ne_of_none e hp)]
  exact e
theorem new2 {H : Hp} {p : Addr} {o o' : HO} (hp : H p = none) : Same H (upd (upd H p o) p o') := fun b u e => by
  rw [upd_ne (ne_of_none e hp), upd_ne (ne_of_none e hp)]
  exact e
theorem lstNew {K : PySem.W.Frag} {H : Hp} {p : Addr} {xs : List V} : SqL K (upd H p (.lst xs)) p xs := .inl (.inl upd_same)
theorem atIn {α : Type} (xs : List α) (i : Int) (h0 : 0 ≤ i) (h1 : i < xs.length) : ∃ v, v ∈ xs ∧ atI xs i = some v := by
  obtain ⟨n, rfl⟩ : ∃ n : Nat, i = (n : Int) := ⟨i.toNat, by omega⟩
  have hn : n < xs.length := by omega
  exact ⟨xs[n], List.getElem_mem hn, atI_nat (List.getElem?_eq_getElem hn)⟩
theorem cutTo (xs : List V) (k : Nat) : cutV xs none (some (k : Int)) = xs.take k := by
  unfold cutV
  rw [HT.sIx_none, HT.sIx_nat, List.drop_zero, Nat.sub_zero]
  by_cases h : k ≤ xs.length
  · rw [Nat.min_eq_left h]
  · rw [Nat.min_eq_right (by omega), List.take_length, List.take_of_length_le (by omega)]
theorem small {n : Nat} (h : n ≤ 1000) : n ≤ sizeLine := Nat.le_of_lt (small1000 h)
end My
namespace My
set_option autoImplicit false
open PySem L2 Evl
/-- what is known of a value, whatever is made beside -/
structure Pr where
  P : V → Hp → Prop
  m : ∀ {v : V} {H H' : Hp}, Ex H H' → P v H → P v H'
def AllP : List Pr → List V → Hp → Prop
  | [], [], _ => True
  | p :: ps, v :: vs, H => p.P v H ∧ AllP ps vs H
  | [], _ :: _, _ => False
  | _ :: _, [], _ => False
theorem AllP.m {H H' : Hp} (e : Ex H H') : ∀ {ps : List Pr} {vs : List V}, AllP ps vs H → AllP ps vs H'
  | [], [], _ => trivial
  | _ :: _, _ :: _, h => ⟨Pr.m _ e h.1, AllP.m e h.2⟩
theorem AllP.len {H : Hp} : ∀ {ps : List Pr} {vs : List V}, AllP ps vs H → vs.length = ps.length
  | [], [], _ => rfl
  | _ :: _, _ :: _, h => congrArg Nat.succ (AllP.len h.2)
theorem AllP.app {H : Hp} : ∀ {ps qs : List Pr} {vs ws : List V}, AllP ps vs H → AllP qs ws H → AllP (ps ++ qs) (vs ++ ws) H
  | [], _, [], _, _, h => h
  | _ :: _, _, _ :: _, _, a, h => ⟨a.1, AllP.app a.2 h⟩
theorem AllP.get {H : Hp} : ∀ {ps : List Pr} {vs : List V} {i : Nat} {v : V}, AllP ps vs H → vs[i]? = some v → ∃ p, ps[i]? = some p ∧ p.P v H
  | [], [], i, v, _, h => by simp at h
  | p :: _, w :: _, 0, v, a, h => by
    obtain rfl : w = v := Option.some.inj h
    exact ⟨p, rfl, a.1⟩
  | _ :: _, _ :: _, i + 1, v, a, h => AllP.get (i := i) a.2 h
theorem AllP.at {H : Hp} : ∀ {ps : List Pr} {vs : List V} {i : Nat} {p : Pr}, AllP ps vs H → ps[i]? = some p → ∃ v, vs[i]? = some v ∧ p.P v H
  | [], [], i, v, _, h => by simp at h
  | q :: _, w :: _, 0, p, a, h => by
    obtain rfl : q = p := Option.some.inj h
    exact ⟨w, rfl, a.1⟩
  | _ :: _, _ :: _, i + 1, v, a, h => AllP.at (i := i) a.2 h
/-- without tables of code -/
def NoTab (B : Hp) : Prop := ∀ b ps, B b ≠ some (.tbl ps)
/-- from what is known, B, within the heap H, to B' within H': what is known of B' leans on nothing else that stood in H -/
structure Gr (B H B' H' : Hp) : Prop where
  a : Ex H H'
  b : Ex B B'
  c : Ex B' H'
  d : ∀ x, B x = none → H x ≠ none → B' x = none
  e : NoTab B → NoTab B'
theorem Gr.refl {B H : Hp} (e : Ex B H) : Gr B H B H := ⟨Ex.refl H, Ex.refl B, e, fun _ h _ => h, id⟩
theorem has {H H' : Hp} {x : Addr} (e : Ex H H') (h : H x ≠ none) : H' x ≠ none := by
  cases q : H x with
  | none => exact absurd q h
  | some o =>
    rw [e x o q]
    exact fun z => nomatch z
theorem Gr.trans {B H B1 H1 B2 H2 : Hp} (g : Gr B H B1 H1) (k : Gr B1 H1 B2 H2) : Gr B H B2 H2 :=
  ⟨g.a.trans k.a, g.b.trans k.b, k.c, fun x hb hh => k.d x (g.d x hb hh) (has g.a hh), fun z => k.e (g.e z)⟩
/-- nothing new is known -/
theorem Gr.wide {B H H1 : Hp} (e : Ex B H) (k : Ex H H1) : Gr B H B H1 := ⟨k, Ex.refl B, e.trans k, fun _ h _ => h, id⟩
/-- a new object -/
theorem Gr.new {B H : Hp} {r : Addr} (o : HO) (e : Ex B H) (hr : H r = none) (ho : ∀ ps, o ≠ .tbl ps := by intro _ z; cases z) : Gr B H (upd B r o) (upd H r o) :=
  ⟨Ex.new hr, Ex.new (fresh_back e hr), fun a u h => by
    by_cases q : a = r
    · subst q
      rw [upd_same] at h ⊢
      exact h
    · rw [upd_ne q] at h ⊢
      exact e a u h, fun x hb hh => by
    by_cases q : x = r
    · subst q
      exact absurd hr hh
    · rw [upd_ne q]
      exact hb, fun z b ps q => by
    by_cases n : b = r
    · subst n
      rw [upd_same] at q
      exact ho ps (Option.some.inj q)
    · rw [upd_ne n] at q
      exact z b ps q⟩
/-- two parts of one heap together -/
def both (B C : Hp) : Hp := fun b => match B b with
  | some o => some o
  | none => C b
theorem both_l {B C : Hp} : Ex B (both B C) := fun a o h => by
  unfold both
  rw [h]
theorem both_r {B C H : Hp} (e : Ex B H) (k : Ex C H) : Ex C (both B C) := fun a o h => by
  unfold both
  cases q : B a with
  | none => exact h
  | some u =>
    have h1 := e a u q
    have h2 := k a o h
    rw [h1] at h2
    exact h2
theorem both_in {B C H : Hp} (e : Ex B H) (k : Ex C H) : Ex (both B C) H := fun a o h => by
  unfold both at h
  cases q : B a with
  | none =>
    rw [q] at h
    exact k a o h
  | some u =>
    rw [q] at h
    obtain rfl : u = o := Option.some.inj h
    exact e a u q
theorem both_none {B C : Hp} {x : Addr} (h : B x = none) (k : C x = none) : both B C x = none := by
  unfold both
  rw [h]
  exact k
theorem both_nt {B C : Hp} (h : NoTab B) (k : NoTab C) : NoTab (both B C) := fun b ps q => by
  unfold both at q
  cases z : B b with
  | none =>
    rw [z] at q
    exact k b ps q
  | some o =>
    rw [z] at q
    have q : some o = some (HO.tbl ps) := q
    rw [q] at z
    exact h b ps z
/-- one behind the other, each from the same B -/
theorem Gr.join {B H B1 H1 B2 H2 : Hp} (g : Gr B H B1 H1) (k : Gr B H1 B2 H2) : Gr B H (both B1 B2) H2 :=
  ⟨g.a.trans k.a, g.b.trans both_l, both_in (g.c.trans k.a) k.c, fun x hb hh => both_none (g.d x hb hh) (k.d x hb (has g.a hh)), fun z => both_nt (g.e z) (k.e z)⟩
/-- without D -/
def wo (D : Addr) (H : Hp) : Hp := fun b => if b = D then none else H b
theorem wo_ne {D b : Addr} {H : Hp} (n : b ≠ D) : wo D H b = H b := if_neg n
theorem wo_same {D : Addr} {H : Hp} : wo D H D = none := if_pos rfl
theorem wo_some {D b : Addr} {H : Hp} {o : HO} (h : wo D H b = some o) : b ≠ D ∧ H b = some o := by
  by_cases n : b = D
  · rw [n, wo_same] at h
    exact nomatch h
  · rw [wo_ne n] at h
    exact ⟨n, h⟩
theorem wo_ex {D : Addr} {H : Hp} : Ex (wo D H) H := fun _ _ e => (wo_some e).2
theorem ex_wo {B H : Hp} {D : Addr} (e : Ex B H) (h : B D = none) : Ex B (wo D H) := fun b o k => by
  rw [wo_ne (ne_of_none k h)]
  exact e b o k
theorem wo_none {B H : Hp} {D : Addr} (e : Ex B (wo D H)) : B D = none := by
  cases q : B D with
  | none => rfl
  | some o =>
    have := e _ _ q
    rw [wo_same] at this
    exact nomatch this
theorem wo_new {H : Hp} {D : Addr} {o : HO} (h : H D = none) : wo D (upd H D o) = H := funext fun b => by
  by_cases n : b = D
  · rw [n, wo_same, h]
  · rw [wo_ne n, upd_ne n]
theorem wo_upd {H : Hp} {D : Addr} {o : HO} : wo D (upd H D o) = wo D H := funext fun b => by
  by_cases n : b = D
  · rw [n, wo_same, wo_same]
  · rw [wo_ne n, wo_ne n, upd_ne n]
/-- what a turn adds, the list at D left aside -/
theorem Gr.side {B H B1 H1 B2 H2 : Hp} {D : Addr} (g : Gr B H B1 (wo D H1)) (hD : H1 D ≠ none) (k : Gr B1 H1 B2 H2) : Gr B H B2 (wo D H2) :=
  ⟨fun b o e => by
    obtain ⟨n, q⟩ := wo_some (g.a b o e)
    rw [wo_ne n]
    exact k.a b o q, g.b.trans k.b, ex_wo k.c (k.d D (wo_none g.c) hD), fun x hb hh => k.d x (g.d x hb hh) (has wo_ex (has g.a hh)), fun z => k.e (g.e z)⟩
/-- just this value -/
def IsV (x : V) : Pr := ⟨fun v _ => v = x, fun _ h => h⟩
/-- a new list | a list | a tuple, of what -/
def LsP (ps : List Pr) : Pr := ⟨fun v H => ∃ p xs, v = .ref p ∧ H p = some (.lst xs) ∧ AllP ps xs H, fun e ⟨p, xs, a, b, c⟩ => ⟨p, xs, a, e _ _ b, c.m e⟩⟩
def LqP (K : PySem.W.Frag) (ps : List Pr) : Pr := ⟨fun v H => ∃ p xs, v = .ref p ∧ SqL K H p xs ∧ AllP ps xs H, fun e ⟨p, xs, a, b, c⟩ => ⟨p, xs, a, ex_l e b, c.m e⟩⟩
def TuP (K : PySem.W.Frag) (ps : List Pr) : Pr := ⟨fun v H => ∃ p xs, v = .ref p ∧ SqT K H p xs ∧ AllP ps xs H, fun e ⟨p, xs, a, b, c⟩ => ⟨p, xs, a, ex_t e b, c.m e⟩⟩
theorem lq_ls {K : PySem.W.Frag} {ps : List Pr} {v : V} {H : Hp} (h : (LsP ps).P v H) : (LqP K ps).P v H := by
  obtain ⟨p, xs, a, b, c⟩ := h
  exact ⟨p, xs, a, sq_of b, c⟩
mutual
theorem dp_m {K : PySem.W.Frag} {H H' : Hp} (e : Ex H H') : ∀ {d : PyData} {v : V}, Dp K H v d → Dp K H' v d
  | _, _, .non => .non
  | _, _, .bl b => .bl b
  | _, _, .int i => .int i
  | _, _, .str x => .str x
  | _, _, .lst a b => .lst (ex_l e a) (dps_m e b)
  | _, _, .tup a b => .tup (ex_t e a) (dps_m e b)
theorem dps_m {K : PySem.W.Frag} {H H' : Hp} (e : Ex H H') : ∀ {ds : List PyData} {vs : List V}, DpAll K H vs ds → DpAll K H' vs ds
  | _, _, .nil => .nil
  | _, _, .cons a b => .cons (dp_m e a) (dps_m e b)
end
/-- plain data -/
def IsD (K : PySem.W.Frag) (d : PyData) : Pr := ⟨fun v H => Dp K H v d, fun e h => dp_m e h⟩
theorem dps_of {K : PySem.W.Frag} {H : Hp} : ∀ {ds : List PyData} {vs : List V}, AllP (ds.map (IsD K)) vs H → DpAll K H vs ds
  | [], [], _ => .nil
  | _ :: _, _ :: _, h => .cons h.1 (dps_of h.2)
/-- an expression gives such a value, over all that stands beside -/
def EvP (te : TE) (σ : L2.St) (B : Hp) (p : Pr) : Prop := ∀ H1, Ex B H1 → ∀ Q : VK, (∀ v B' H2, Gr B H1 B' H2 → p.P v B' → Q v H2) → te σ H1 Q
def EvPs (ta : TA) (σ : L2.St) (B : Hp) (ps : List Pr) : Prop := ∀ H1, Ex B H1 → ∀ Q : List V → Hp → Prop, (∀ vs B' H2, Gr B H1 B' H2 → AllP ps vs B' → Q vs H2) → ta σ H1 Q
section
variable {te ta tb : TE} {t tr : TA} {σ : L2.St} {B B' H : Hp} {p q : Pr} {ps qs : List Pr} {v : V} {K : PySem.W.Frag} {D : Ends}
theorem EvP.mono (e : Ex B B') (h : EvP te σ B p) : EvP te σ B' p := fun H1 a Q k => h H1 (e.trans a) Q fun v C H2 g b =>
  k v (both B' C) H2 ⟨g.a, both_l, both_in (a.trans g.a) g.c, fun x hb hh => both_none hb (g.d x (fresh_back e hb) hh), fun z => both_nt z (g.e fun b ps q => z b ps (e _ _ q))⟩ (p.m (both_r (a.trans g.a) g.c) b)
theorem EvP.imp (h : EvP te σ B p) (i : ∀ v B1, Ex B B1 → p.P v B1 → q.P v B1) : EvP te σ B q := fun H1 a _ k => h H1 a _ fun v B2 H2 g b => k v B2 H2 g (i v B2 g.b b)
theorem p_var {i : Nat} (h : σ[i]? = some (some v)) (hp : p.P v B) : EvP (tVar i) σ B p := fun H1 a _ k => ⟨v, h, k v B H1 (Gr.refl a) hp⟩
theorem p_c : EvP (tC v) σ B (IsV v) := fun H1 a _ k => k v B H1 (Gr.refl a) rfl
theorem p_ev (h : Ev te σ B v) : EvP te σ B (IsV v) := fun H1 a _ k => h H1 a _ fun H2 e => k v B H2 (Gr.wide a e) rfl
theorem ev_p (h : EvP te σ B (IsV v)) : Ev te σ B v := fun H1 a _ k => h H1 a _ fun w B2 H2 g b => by
  obtain rfl : w = v := b
  exact k H2 g.a
theorem q_nil : EvPs tNil σ B [] := fun H1 a _ k => k [] B H1 (Gr.refl a) trivial
theorem q_cons (h : EvP te σ B p) (hr : EvPs tr σ B ps) : EvPs (tCons te tr) σ B (p :: ps) := fun H1 a _ k =>
  h H1 a _ fun v B2 H2 g b => hr H2 (g.b.trans g.c) _ fun vs B3 H3 g3 b3 => k (v :: vs) (both B2 B3) H3 (g.join g3) ⟨p.m both_l b, b3.m (both_r (g.c.trans g3.a) g3.c)⟩
theorem p_lst (h : EvPs t σ B ps) (hl : ps.length ≤ 100000) : EvP (tLst t) σ B (LsP ps) := fun H1 a _ k =>
  h H1 a _ fun vs B2 H2 g b => ⟨sz_of (by rw [b.len]; exact hl), fun r hr => k _ _ _ (g.trans (Gr.new _ g.c hr)) ⟨r, vs, rfl, upd_same, b.m (Ex.new (fresh_back g.c hr))⟩⟩
theorem p_tup (h : EvPs t σ B ps) (hl : ps.length ≤ 100000) : EvP (tTup t) σ B (TuP K ps) := fun H1 a _ k =>
  h H1 a _ fun vs B2 H2 g b => ⟨sz_of (by rw [b.len]; exact hl), fun r hr => k _ _ _ (g.trans (Gr.new _ g.c hr)) ⟨r, vs, rfl, st_of upd_same, b.m (Ex.new (fresh_back g.c hr))⟩⟩
theorem p_cat (ha : EvP ta σ B (LsP ps)) (hb : EvP tb σ B (LsP qs)) (hl : ps.length + qs.length ≤ 100000) : EvP (tOp rCat ta tb) σ B (LsP (ps ++ qs)) := fun H1 a Q k =>
  ha H1 a _ fun v B2 H2 g b => hb H2 (g.b.trans g.c) _ fun w B3 H3 g3 b3 => by
    obtain ⟨p, xs, rfl, hp, hx⟩ := b
    obtain ⟨q, ys, rfl, hq, hy⟩ := b3
    have l1 := hx.len
    have l2 := hy.len
    have gj := g.join g3
    refine ⟨p, q, xs, ys, rfl, rfl, g3.a _ _ (g.c _ _ hp), g3.c _ _ hq, sz_of (by omega), fun r hr => k _ _ _ (gj.trans (Gr.new _ gj.c hr)) ⟨r, xs ++ ys, rfl, upd_same, ?_⟩⟩
    have en : Ex (both B2 B3) (upd (both B2 B3) r (.lst (xs ++ ys))) := Ex.new (fresh_back gj.c hr)
    exact (hx.m (both_l.trans en)).app (hy.m ((both_r (g.c.trans g3.a) g3.c).trans en))
/-- of data -/
theorem d_lst {ds : List PyData} (h : EvP te σ B (LsP (ds.map (IsD K)))) : EvP te σ B (IsD K (.list ds)) := h.imp fun v H1 _ b => by
  obtain ⟨r, xs, rfl, hr, hx⟩ := b
  exact .lst (sq_of hr) (dps_of hx)
theorem d_str {x : Str} (h : EvP te σ B (IsV (.str x))) : EvP te σ B (IsD K (.str x)) := h.imp fun v H1 _ b => by
  obtain rfl : v = V.str x := b
  exact .str x
theorem d_bl {x : Bool} (h : EvP te σ B (IsV (.bl x))) : EvP te σ B (IsD K (.bool x)) := h.imp fun v H1 _ b => by
  obtain rfl : v = V.bl x := b
  exact .bl x
theorem ev_eqD {d e : PyData} (ha : EvP ta σ B (IsD K d)) (hb : EvP tb σ B (IsD K e)) (hd : SeqAt.shaped d = true) (he : SeqAt.shaped e = true) : Ev (tOp (rEqD K) ta tb) σ B (.bl (PyData.eqv d e)) := fun H1 a Q k =>
  ha H1 a _ fun v B2 H2 g b => hb H2 (g.b.trans g.c) _ fun w B3 H3 g3 b3 => ⟨d, e, dp_m (g.c.trans g3.a) b, dp_m g3.c b3, hd, he, k H3 (g.a.trans g3.a)⟩
theorem ev_neD {d e : PyData} (ha : EvP ta σ B (IsD K d)) (hb : EvP tb σ B (IsD K e)) (hd : SeqAt.shaped d = true) (he : SeqAt.shaped e = true) : Ev (tOp (rNeD K) ta tb) σ B (.bl (!PyData.eqv d e)) := fun H1 a Q k =>
  ha H1 a _ fun v B2 H2 g b => hb H2 (g.b.trans g.c) _ fun w B3 H3 g3 b3 => ⟨d, e, dp_m (g.c.trans g3.a) b, dp_m g3.c b3, hd, he, k H3 (g.a.trans g3.a)⟩
theorem ps_asg {i : Nat} (a : Ex B H) (h : EvP te σ B p) (k : ∀ v B1 H1, Gr B H B1 H1 → p.P v B1 → D.nx (σ.set i (some v)) H1) : tAsg te (gName i) D σ H := h H a _ k
theorem ps_asgN {i : Nat} (σ' : V → L2.St) (a : Ex B H) (h : EvP te σ B p) (k : ∀ v B1 H1, Gr B H B1 H1 → p.P v B1 → D.nx (σ' v) H1) (e : ∀ v, σ.set i (some v) = σ' v := by intro _; rfl) : tAsg te (gName i) D σ H := h H a _ fun v B1 H1 g b => by
  have := k v B1 H1 g b
  rw [← e v] at this
  exact this
theorem ps_ret (a : Ex B H) (h : EvP te σ B p) (k : ∀ v B1 H1, Gr B H B1 H1 → p.P v B1 → D.rt v H1) : tRet te D σ H := h H a _ k
/-- a call: what the def is handed, what it tells -/
def SpOk (sp : Sp) (ps : List Pr) (p : Pr) : Prop := ∀ vs B H Q E, Ex B H → AllP ps vs B → (∀ u B' H', Gr B H B' H' → p.P u B' → Q u H') → sp vs H Q E
theorem p_call {sp : Sp} (h : EvPs t σ B ps) (hs : SpOk sp ps p) : EvP (tCall sp [] E0 t) σ B p := fun H1 a Q k =>
  h H1 a _ fun vs B2 H2 g b => by
    rw [List.append_nil]
    exact hs vs B2 H2 Q E0 g.c b fun u B3 H3 g3 c => k u B3 H3 (g.trans g3) c
/-- a comprehension over a list, some items left out -/
theorem p_lc {g : TG} {tt : TT} {vs : List Nat} (h : EvP ta σ B (LqP K ps)) (hl : ps.length ≤ 100000) (keep : Nat → Bool) (res : Nat → Pr)
    (step : ∀ i p v B1, ps[i]? = some p → Ex B B1 → p.P v B1 → ∃ σ2, wipe σ2 vs = wipe σ vs ∧ (∀ H2 Q, Ex B1 H2 → Q σ2 H2 → g v (wipe σ vs) H2 Q) ∧ EvT tt σ2 B1 (keep i) ∧ (keep i = true → EvP te σ2 B1 (res i))) :
    EvP (tLc (iList K ta) g tt te vs) σ B (LsP (((List.range ps.length).filter keep).map res)) := fun H1 a Q k =>
  h H1 a _ fun v B2 H2 gr b => by
    obtain ⟨l, xs, rfl, hx, hal⟩ := b
    have hlen := hal.len
    refine ⟨l, rfl, ⟨xs, ex_l gr.c hx⟩, fun Dd hD => ?_⟩
    refine lc_list (K := K) (a := l) (xs := xs) (fun i H3 => ∃ B3 acc, Gr B2 H2 B3 (wo Dd H3) ∧ H3 Dd = some (.lst acc) ∧ AllP (((List.range i).filter keep).map res) acc B3) ?_ ?_ ?_ ?_
    · exact ⟨B2, [], by rw [wo_new hD]; exact Gr.refl gr.c, upd_same, trivial⟩
    · rintro i H3 _ ⟨B3, acc, g3, _, _⟩
      exact ex_l (g3.b.trans (g3.c.trans wo_ex)) hx
    · rintro i x H3 hi ⟨B3, acc, g3, hDd, hacc⟩
      obtain ⟨p, hp, px⟩ := hal.get hi
      have hil : i < xs.length := (List.getElem?_eq_some_iff.mp hi).1
      have exB : Ex B3 H3 := g3.c.trans wo_ex
      have hB3 : B3 Dd = none := wo_none g3.c
      have some3 : H3 Dd ≠ none := by
        rw [hDd]
        exact fun z => nomatch z
      obtain ⟨σ2, hw, hg, ht, he⟩ := step i p x B3 hp (gr.b.trans g3.b) (p.m g3.b px)
      refine hg H3 _ exB ⟨hw, ht H3 exB _ fun H4 e4 => ?_⟩
      have e34 : Ex B3 H4 := exB.trans e4
      have hD4 := e4 _ _ hDd
      have g4 : Gr B2 H2 B3 (wo Dd H4) := g3.side some3 (Gr.wide exB e4)
      have some4 : H4 Dd ≠ none := has e4 some3
      cases hk : keep i with
      | true =>
        rw [if_pos rfl]
        refine he hk H4 e34 _ fun y B5 H5 g5 hy => ?_
        have la : acc.length ≤ i := by
          rw [hacc.len, List.length_map]
          exact Nat.le_trans (List.length_filter_le _ _) (by rw [List.length_range]; exact Nat.le_refl _)
        refine ⟨acc, g5.a _ _ hD4, sz_lt (by omega), B5, acc ++ [y], by rw [wo_upd]; exact g4.side some4 g5, upd_same, ?_⟩
        rw [List.range_succ, List.filter_append, List.map_append]
        refine (hacc.m g5.b).app ?_
        have : List.filter keep [i] = [i] := by simp [hk]
        rw [this]
        exact ⟨hy, trivial⟩
      | false =>
        rw [if_neg Bool.false_ne_true]
        refine ⟨B3, acc, g4, hD4, ?_⟩
        rw [List.range_succ, List.filter_append, List.map_append]
        have : List.filter keep [i] = [] := by simp [hk]
        rw [this, List.map_nil, List.append_nil]
        exact hacc
    · rintro H3 ⟨B3, acc, g3, hDd, hacc⟩
      have hB3 : B3 Dd = none := wo_none g3.c
      rw [hlen] at hacc
      refine k (.ref Dd) (upd B3 Dd (.lst acc)) H3 ⟨gr.a.trans (g3.a.trans wo_ex), gr.b.trans (g3.b.trans (Ex.new hB3)), fun b o e => ?_, fun x hb hh => ?_, fun z b ps q => ?_⟩ ⟨Dd, acc, rfl, upd_same, hacc.m (Ex.new hB3)⟩
      · by_cases n : b = Dd
        · subst n
          rw [upd_same] at e
          rw [hDd]
          exact e
        · rw [upd_ne n] at e
          exact g3.c.trans wo_ex _ _ e
      · have n : x ≠ Dd := fun z => by
          subst z
          exact has gr.a hh hD
        rw [upd_ne n]
        exact g3.d x (gr.d x hb hh) (has gr.a hh)
      · by_cases n : b = Dd
        · subst n
          rw [upd_same] at q
          cases q
        · rw [upd_ne n] at q
          exact g3.e (gr.e z) b ps q
end
end My
namespace My
set_option autoImplicit false
open PySem L2 Evl
/-- what is known says which data it is -/
def To (K : PySem.W.Frag) (p : Pr) (d : PyData) : Prop := ∀ v H, p.P v H → Dp K H v d
inductive ToAll (K : PySem.W.Frag) : List Pr → List PyData → Prop
  | nil : ToAll K [] []
  | cons {p : Pr} {d : PyData} {ps : List Pr} {ds : List PyData} : To K p d → ToAll K ps ds → ToAll K (p :: ps) (d :: ds)
section
variable {te ta tb : TE} {t tr : TA} {σ : L2.St} {B B' H : Hp} {p q : Pr} {ps qs : List Pr} {v : V} {K : PySem.W.Frag} {D : Ends} {d e : PyData} {ds : List PyData}
theorem to_int {i : Int} : To K (IsV (.int i)) (.int i) := fun v H h => by
  obtain rfl : v = _ := h
  exact .int i
theorem to_str {x : Str} : To K (IsV (.str x)) (.str x) := fun v H h => by
  obtain rfl : v = _ := h
  exact .str x
theorem to_bl {b : Bool} : To K (IsV (.bl b)) (.bool b) := fun v H h => by
  obtain rfl : v = _ := h
  exact .bl b
theorem to_non : To K (IsV .non) .none := fun v H h => by
  obtain rfl : v = _ := h
  exact .non
theorem to_d : To K (IsD K d) d := fun _ _ h => h
theorem toAll_all {H : Hp} : ∀ {ps : List Pr} {ds : List PyData} {vs : List V}, ToAll K ps ds → AllP ps vs H → DpAll K H vs ds
  | [], _, [], .nil, _ => .nil
  | _ :: _, _, _ :: _, .cons a b, h => .cons (a _ _ h.1) (toAll_all b h.2)
theorem to_lst (h : ToAll K ps ds) : To K (LsP ps) (.list ds) := fun v H hv => by
  obtain ⟨r, xs, rfl, hr, hx⟩ := hv
  exact .lst (sq_of hr) (toAll_all h hx)
theorem to_tup (h : ToAll K ps ds) : To K (TuP K ps) (.tuple ds) := fun v H hv => by
  obtain ⟨r, xs, rfl, hr, hx⟩ := hv
  exact .tup hr (toAll_all h hx)
theorem toAll_map {α : Type} {f : α → Pr} {g : α → PyData} (l : List α) (h : ∀ x, To K (f x) (g x)) : ToAll K (l.map f) (l.map g) := by
  induction l with
  | nil => exact .nil
  | cons x r ih => exact .cons (h x) ih
theorem p_to (h : EvP te σ B p) (k : To K p d) : EvP te σ B (IsD K d) := h.imp fun v B1 _ b => k v B1 b
theorem p_varV {i : Nat} (h : σ[i]? = some (some v)) : EvP (tVar i) σ B (IsV v) := p_var h rfl
theorem p_lq (h : EvP te σ B (LsP ps)) : EvP te σ B (LqP K ps) := h.imp fun _ _ _ b => lq_ls b
theorem p_ixT {j : Int} (h : EvP ta σ B (TuP K ps)) (hj : EvP tb σ B (IsV (.int j))) (hp : atI ps j = some p) : EvP (tOp (rIxT K) ta tb) σ B p := fun H1 a Q k =>
  h H1 a _ fun v B2 H2 g b => hj H2 (g.b.trans g.c) _ fun w B3 H3 g3 b3 => by
    obtain ⟨l, xs, rfl, hx, hal⟩ := b
    obtain rfl : w = _ := b3
    have hlen := hal.len
    unfold atI at hp
    rw [← hlen] at hp
    obtain ⟨n, hn, hq⟩ := Option.bind_eq_some_iff.mp hp
    obtain ⟨z, hz, pz⟩ := hal.at hq
    have gj := g.join g3
    refine ⟨l, xs, j, z, rfl, rfl, ex_t (g.c.trans g3.a) hx, ?_, k z _ _ gj (p.m both_l pz)⟩
    unfold atI
    rw [hn]
    exact hz
theorem AllP.rep {H : Hp} {vs : List V} (h : AllP ps vs H) : ∀ n, AllP (List.replicate n ps).flatten (List.replicate n vs).flatten H
  | 0 => trivial
  | n + 1 => by
    rw [List.replicate_succ, List.replicate_succ, List.flatten_cons, List.flatten_cons]
    exact h.app (AllP.rep h n)
theorem p_rep {n : Nat} (h : EvP ta σ B (LsP ps)) (hb : EvP tb σ B (IsV (.int (n : Int)))) (hn : n ≤ 100000) (hl : ps.length * n ≤ 100000) : EvP (tOp rRep ta tb) σ B (LsP (List.replicate n ps).flatten) := fun H1 a Q k =>
  h H1 a _ fun v B2 H2 g b => hb H2 (g.b.trans g.c) _ fun w B3 H3 g3 b3 => by
    obtain ⟨l, xs, rfl, hx, hal⟩ := b
    obtain rfl : w = _ := b3
    have gj := g.join g3
    have hlen := hal.len
    refine ⟨l, (n : Int), xs, rfl, rfl, g3.a _ _ (g.c _ _ hx), by omega, by omega, sz_of (by rw [hlen]; exact hl), fun r hr => k _ _ _ (gj.trans (Gr.new _ gj.c hr)) ⟨r, _, rfl, upd_same, ?_⟩⟩
    exact (AllP.rep (hal.m both_l) n).m (Ex.new (fresh_back gj.c hr))
theorem et_yes : EvT tYes σ B true := fun H1 _ _ q => q H1 (Ex.refl H1)
theorem ps_ifT {t : TT} {tu tw : TS} (a : Ex B H) (h : EvT t σ B true) (k : ∀ H1, Ex H H1 → tu D σ H1) : tIfS t tu tw D σ H := h H a _ fun H1 e => by
  rw [if_pos rfl]
  exact k H1 e
theorem et_ne {d : PyData} (ha : EvP ta σ B (IsD K d)) (hb : EvP tb σ B (IsD K d)) (hd : SeqAt.shaped d = true) : EvT (tTest (tOp (rNeD K) ta tb)) σ B false :=
  et_is (et_test (ev_neD ha hb hd hd)) (by rw [SeqAt.eqv_refl d (Bool.and_eq_true_iff.mp hd).1]; rfl)
end
end My
namespace My
set_option autoImplicit false
open PySem PySem.Spec PySem.W PyProof.Rows L2 Evl NdefX LamX
/-- an address of ours that nothing else speaks of -/
structure Fre (X : Cx) (pins : List (Addr × Obj)) (a : Addr) : Prop where
  base : X.s_0.heap.objs.size ≤ a
  loc : a ≠ X.env.locals
  cel : ∀ y c, X.env.cells.lookup y = some c → c ≠ a
  pin : ∀ p ∈ X.pn ++ pins, p.1 ≠ a
  fs : a ∉ X.fs
section
variable {X : Cx} {pins : List (Addr × Obj)} {σ : L2.St} {H : Hp} {s : Shared} {a b : Addr}
theorem Fre.of (I : Inv X pins σ H s) (h : s.heap.objs.size ≤ a) : Fre X pins a := by
  have no : ∀ c : Addr, c < s.heap.objs.size → c ≠ a := fun c hc z => by
    rw [z] at hc
    exact Nat.lt_irrefl _ (Nat.lt_of_lt_of_le hc h)
  refine ⟨Nat.le_trans I.sz h, (no _ I.lt).symm, fun y c e => ?_, fun p hp => ?_, I.nofs h⟩
  · obtain ⟨v, o, ho, _⟩ := I.cell y c e
    exact no c (Heap.lt_size ho)
  · exact no p.1 (Heap.lt_size (I.pin p hp).1)
theorem Fre.more (f : Fre X pins a) {o : Obj} (h : b ≠ a) : Fre X ((b, o) :: pins) a :=
  ⟨f.base, f.loc, f.cel, fun p hp => (List.mem_append.mp hp).elim (fun z => f.pin p (List.mem_append_left _ z)) fun z => by
    rcases List.mem_cons.mp z with rfl | z
    · exact h
    · exact f.pin p (List.mem_append_right _ z), f.fs⟩
end
end My
namespace My
set_option autoImplicit false
open PySem PySem.Spec PySem.W PySem.Calls PyProof.Rows L2 Evl NdefX LamX
section
variable {X : Cx} {pins : List (Addr × Obj)} {σ : L2.St} {H : Hp} {s : Shared} {A : Around} {f : Addr} {fo : Obj} {xs : List V} {ks : List PyData} {E : Value → Shared → Prop}
end
end My
namespace My
set_option autoImplicit false
open PySem PySem.Spec PySem.W PySem.Calls PyProof.Rows L2 Evl NdefX LamX
section
variable {X : Cx} {pins : List (Addr × Obj)} {σ : L2.St} {H : Hp} {s : Shared} {A : Around} {f : Addr} {fo : Obj} {E : Value → Shared → Prop}
end
end My
/-! own exceptions as values: made with an __init__ of their own, their fields read, their classes asked -/
namespace XV
open PySem PySem.W PySem.Calls PyProof.Rows Builtin Builtin.ObjectAttr
section
variable {prog : Program} {w : World} {A : Around} {E : Value → Shared → Prop} {R : Result → Shared → Prop} {hp : Heap} {g : Array GenState} {d : Drawn} {t : Nat} {os : OsState}
variable {K : Frag} {name : Str} {tk : Tok} {v : Value} {x C dx : Addr} {fv : Array Value} {cd : ClassData} {B : String} {bmB : List Value} {m0 : Str → Option Value} {nl : List Str}
end
end XV
namespace L2
open PySem PySem.Spec PyProof.Rows
/-- an exception at a, raised and caught: its class and its dict are known -/
def exw (a C : Addr) (d : Option Addr) : HO := .ext fun h => ∃ (o : Obj) (vs : Array Value), h.get? a = some o ∧ Zc (.ref C) d o ∧ o.data = .fields vs
theorem exw_ok {P : Program} {w : World} {H : Hp} {h : Heap} {a C : Addr} {d : Option Addr} {o : Obj} {vs : Array Value} (e : h.get? a = some o) (z : Zc (.ref C) d o) (f : o.data = .fields vs) : ObjOk P w H h a (exw a C d) :=
  ⟨⟨o, vs, e, z, f⟩, ⟨o, e⟩, fun _ _ ⟨o, v, q, r⟩ k => ⟨o, v, k o q, r⟩⟩
theorem exw_at {P : Program} {w : World} {H : Hp} {h : Heap} {a C : Addr} {d : Option Addr} (hok : HOk P w H h) (e : H a = some (exw a C d)) : ∃ (o : Obj) (vs : Array Value), h.get? a = some o ∧ o.cls = .ref C ∧ o.dict = d ∧ o.data = .fields vs := by
  have x : ObjOk P w H h a (.ext fun h => ∃ (o : Obj) (vs : Array Value), h.get? a = some o ∧ Zc (.ref C) d o ∧ o.data = .fields vs) := hok a _ e
  obtain ⟨o, vs, h1, h2, h3⟩ := x.1
  exact ⟨o, vs, h1, h2.1, h2.2, h3⟩
theorem ex_any {P : Program} {w : World} {H : Hp} {h : Heap} {a C : Addr} {d : Option Addr} (hok : HOk P w H h) (e : H a = some (exo a C d) ∨ H a = some (exw a C d)) : ∃ (o : Obj) (vs : Array Value), h.get? a = some o ∧ o.cls = .ref C ∧ o.dict = d ∧ o.data = .fields vs := by
  rcases e with e | e
  · obtain ⟨t1, ho⟩ := exo_at hok e
    exact ⟨_, _, ho, rfl, rfl, rfl⟩
  · exact exw_at hok e
/-- what the written part says of an own exception class at C, over the built-in B -/
structure XC (K : PySem.W.Frag) (C : Addr) (bmB : List Value) (newId : String) : Prop where
  q : PySem.W.excInitIn K C bmB newId = true
  hd : PySem.W.hasDictIn K C = true
  sa : PySem.W.findIn K (.ref C) "__setattr__" = some (some (.builtin "object.__setattr__"))
  ga : PySem.W.findIn K (.ref C) "__getattribute__" = some (some (.builtin "BaseException.__getattribute__"))
  gt : PySem.W.findIn K (.ref C) "__getattr__" = some none
  ex : PySem.W.subIn K (.ref C) (.type "BaseException") = some true
  ca : PySem.W.findIn K (.ref C) "__class__" = some (some (.builtin "object.__class__"))
  cn : PySem.W.specialIn K (.builtin "object.__class__") "__get__" = some (some (.builtin "getset_descriptor.__get__"))
  ct : PySem.W.takesIn K (.builtin "object.__class__") = some true
  cm : PySem.W.mroIn K C (.type "object") = some true
  kC : PySem.W.keepIn K (.ref C) = true
/-- what is known of the built-in below -/
structure XB (B : String) (bmB : List Value) (newId initId : String) : Prop where
  base : ExcBaseFacts B newId initId bmB
  store : StoreFacts B bmB "object.__setattr__" "object"
  obj : bmB.contains (.type "object") = true
theorem XC.cls {K : PySem.W.Frag} {C : Addr} {bmB : List Value} {newId : String} (T : XC K C bmB newId) : ∃ cd, PySem.W.clsIn K C = some cd ∧ PySem.W.excTail bmB cd.mro = true ∧ cd.hasDict = true := by
  obtain ⟨cd, hc, hh⟩ := PySem.W.any_some T.hd
  refine ⟨cd, hc, ?_, hh⟩
  have q := T.q
  unfold PySem.W.excInitIn at q
  unfold PySem.W.clsIn at hc
  split at q
  · rename_i ho
    rw [ho] at hc
    cases hc
    split at q
    · rename_i hm _
      simp only [Bool.and_eq_true] at q
      rw [hm]
      exact q.2
    · cases q
  · cases q
end L2
namespace L2
open PySem PySem.Spec PyProof.Rows
section
variable {X : Cx} {pins : List (Addr × Obj)} {σ : St} {H : Hp} {s : Shared} {a C dx : Addr} {f : Str} {y : V} {u : Value} {fs : List (Str × V)} {E : Value → Shared → Prop} {A : Around}
variable {B newId initId : String} {bmB : List Value}
end
/-- isinstance(e, c) of such a value -/
def rXIs (K : PySem.W.Frag) : List V → Hp → VK → Prop := fun xs H Q => ∃ (a C : Addr) (bmB : List Value) (newId : String) (c : V) (cv : Value) (b : Bool), xs = [.ref a, c] ∧ XC K C bmB newId ∧
  (∃ d, (H a = some (exo a C d) ∨ H a = some (exw a C d)) ∧ (d = none ∨ ∃ dx fs, d = some dx ∧ H dx = some (exd dx fs))) ∧ (∀ u, RelV c u → u = cv) ∧ PySem.W.kitOne K (.ref C) cv = some b ∧ Q (.bl b) H
section
variable {X : Cx} {o e : Expr} {es : List Expr} {to te : TE} {ta : TA} {f x : Str} {p p' p1 p2 pos : Pos} {B newId initId : String} {bmB : List Value} {D C : Addr}
theorem call_xis : CallR X (.builtin "isinstance") (rXIs X.K) := by
  intro pins s σ H xs us Q I r h
  obtain ⟨a, C, bmB, newId, c, cv, b, rfl, T, hx, hcv, e, q⟩ := h
  cases r with
  | cons rx rr =>
    cases rr with
    | cons rt rr =>
      cases rr
      cases rx
      have ec := hcv _ rt
      subst ec
      have hcl : (PySem.W.clsIn X.K C).isSome = true := by
        obtain ⟨cd, hc, _⟩ := T.cls
        rw [hc]; rfl
      obtain ⟨d, hx, hd⟩ := hx
      obtain ⟨⟨oc, odd, odt, osl⟩, vs0, ho, hc0, hd0, hf0⟩ := ex_any I.hok hx
      dsimp only at hc0 hd0 hf0
      subst hc0 hd0 hf0
      rcases hd with rfl | ⟨dx, fs, rfl, hdx⟩
      · have J : PySem.W.InstAt s.heap a _ C none := ⟨ho, rfl, rfl, trivial⟩
        exact PySem.W.kia_one (PySem.W.kitx_exc hcl T.ga T.gt T.ex T.ca T.cn T.ct T.cm) I.kIn J e (fun z => nomatch z) fun tk => ⟨.bl b, H, I.kept (t' := tk) fun _ _ z => z, rfl, q⟩
      · obtain ⟨mA, hns, rel⟩ := exd_at I.hok hdx
        obtain ⟨od, hod, look⟩ := lookIn_ns hns
        have J : PySem.W.InstAt s.heap a _ C (some od) := ⟨ho, rfl, rfl, hod⟩
        exact PySem.W.kia_one (PySem.W.kitx_exc hcl T.ga T.gt T.ex T.ca T.cn T.ct T.cm) I.kIn J e (fun z => nomatch z) fun tk => ⟨.bl b, H, I.kept (t' := tk) fun _ _ z => z, rfl, q⟩
end
end L2
namespace XV
open PySem PySem.W PySem.Calls PyProof.Rows Builtin Builtin.ObjectAttr HandSPX
section
variable {prog : Program} {w : World} {A : Around} {E : Value → Shared → Prop} {R : Result → Shared → Prop} {h : Heap} {g : Array GenState} {d : Drawn} {t : Nat} {os : OsState}
variable {nm q : Str} {C N : Addr} {bs bm bmB : List Value} {hdct : Bool} {sn : List Str} {sub : List Value} {ab : Bool} {col : Option Bool} {dd : Option Addr} {k0 k1 k2 k3 k5 : Option Value} {B newId initId : String} {kw : List (Str × Value)} {rest : List Value}
end
end XV
namespace L2
open PySem PySem.Spec PyProof.Rows
section
variable {X : Cx} {k n : Nat} {fI C : Addr} {fd : FuncData} {ps ks : List Str} {sp : Sp} {x : Str} {p pos : Pos} {e : Expr} {es : List Expr} {kws : List Keyword} {t tk : TA} {g : List Value → List Value → List Value} {gV : List V → List V → List V}
variable {B newId initId : String} {bmB : List Value}
end
end L2
namespace My
open PySem L2 Evl
set_option autoImplicit false
/-- an exception of the class at C with fields of which this is known | one without fields | one of these -/
def XF (C : Addr) (fs : List (Str × Pr)) : Pr := ⟨fun v H => ∃ (a dx : Addr) (vs : List (Str × V)), v = .ref a ∧ (H a = some (exo a C (some dx)) ∨ H a = some (exw a C (some dx))) ∧ H dx = some (exd dx vs) ∧ vs.map Prod.fst = fs.map Prod.fst ∧ AllP (fs.map Prod.snd) (vs.map Prod.snd) H,
  fun e ⟨a, dx, vs, h1, h2, h3, h4, h5⟩ => ⟨a, dx, vs, h1, h2.imp (e _ _) (e _ _), e _ _ h3, h4, AllP.m e h5⟩⟩
def X0 (C : Addr) : Pr := ⟨fun v H => ∃ a : Addr, v = .ref a ∧ (H a = some (exo a C none) ∨ H a = some (exw a C none)), fun e ⟨a, h1, h2⟩ => ⟨a, h1, h2.imp (e _ _) (e _ _)⟩⟩
def XK (C : Addr) : Pr := ⟨fun v H => ∃ a : Addr, v = .ref a ∧ ∃ d, (H a = some (exo a C d) ∨ H a = some (exw a C d)) ∧ (d = none ∨ ∃ dx fs, d = some dx ∧ H dx = some (exd dx fs)),
  fun e ⟨a, h1, d, h2, h3⟩ => ⟨a, h1, d, h2.imp (e _ _) (e _ _), h3.imp id fun ⟨dx, fs, z, h4⟩ => ⟨dx, fs, z, e _ _ h4⟩⟩⟩
theorem xk_f {C : Addr} {fs : List (Str × Pr)} {v : V} {H : Hp} (h : (XF C fs).P v H) : (XK C).P v H := by
  obtain ⟨a, dx, vs, h1, h2, h3, _⟩ := h
  exact ⟨a, h1, _, h2, .inr ⟨dx, vs, rfl, h3⟩⟩
theorem xk_0 {C : Addr} {v : V} {H : Hp} (h : (X0 C).P v H) : (XK C).P v H := by
  obtain ⟨a, h1, h2⟩ := h
  exact ⟨a, h1, _, h2, .inl rfl⟩
/-- what an __init__ of one field promises; of two -/
def spI1 (C : Addr) (f : Str) : Sp := fun vs H Q _ => ∃ (a : Addr) (v : V), vs = [.ref a, v] ∧ H a = some (exo a C none) ∧ ∀ dx, H dx = none → dx ≠ a → Q .non (upd (upd H dx (exd dx [(f, v)])) a (exo a C (some dx)))
section
variable {te ta tb : TE} {t tk : TA} {σ : L2.St} {B : Hp} {p q : Pr} {ps qs : List Pr} {v : V} {K : PySem.W.Frag} {D : Ends} {C : Addr} {f g : Str} {n m : Nat} {gV : List V → List V → List V}
theorem p_xis {bmB : List Value} {newId : String} {c : V} {cv : Value} {b : Bool} (T : XC K C bmB newId) (h : EvP te σ B (XK C)) (hc : EvP ta σ B (IsV c)) (hcv : ∀ u, RelV c u → u = cv) (hk : PySem.W.kitOne K (.ref C) cv = some b) :
    EvP (tCB (rXIs K) (tCons te (tCons ta tNil))) σ B (IsV (.bl b)) := fun H1 e Q k =>
  h H1 e _ fun v B2 H2 g2 b2 => hc H2 (g2.b.trans g2.c) _ fun w B3 H3 g3 b3 => by
    obtain rfl : w = c := b3
    obtain ⟨a, rfl, hx⟩ := (XK C).m (g2.c.trans g3.a) b2
    exact ⟨a, C, bmB, newId, w, cv, b, rfl, T, hx, hcv, hk, k _ _ _ (g2.join g3) rfl⟩
end
/-- the class D of the module, over which the built-in stands with that __init__ -/
structure XD (K : PySem.W.Frag) (mg : Str → Option Value) (x : Str) (D : Addr) (initId : String) : Prop where
  m : mg x = some (.ref D)
  s : PySem.W.specialIn K (.ref D) "__getattribute__" = some (some (.builtin "type.__getattribute__"))
  r : PySem.W.readsIn K D (.type "type") = true
  f : PySem.W.findCls K (.ref D) (.type "type") "__init__" = some (.val (.builtin initId))
  h : PySem.W.handedIn (.builtin initId) = true
end My
namespace L2
open PySem PySem.Spec PyProof.Rows
theorem pe_globR {X : Cx} {x : Str} {C : Addr} {p : Pos} (hg : Gl X x) (hm : X.mg x = some (.ref C)) (hd : (x == ("__debug__" : Str)) = false := by decide) : PE X (.Name x p) (tC (.ref C)) := by
  refine ⟨fun pins s σ H Q I h => ?_⟩
  exact ld_glob I hg hm ⟨.ref C, H, I, rfl, h⟩ hd
end L2
namespace My
set_option autoImplicit false
open PySem L2 Evl
/-- what a walk over this hands out: n things, the i-th of which P i is known -/
def Src (wi : TI) (σ : L2.St) (B : Hp) (n : Nat) (P : Nat → Pr) : Prop := ∀ H1, Ex B H1 → ∀ R : It → Hp → Prop, (∀ (J : It) (B' H2 : Hp) (G : Hp → Prop) (Y : Nat → Hp → V → Hp → Prop), Gr B H1 B' H2 → Walk J n G Y → (∀ H, Ex B' H → G H) →
  (∀ i H v H', i < n → Ex B' H → Y i H v H' → H' = H ∧ (P i).P v B') → R J H2) → wi σ H1 R
section
variable {te ta tb : TE} {t tr : TA} {tt : TT} {σ : L2.St} {B B' H : Hp} {p q : Pr} {ps qs : List Pr} {v : V} {K : PySem.W.Frag} {D : Ends} {d e : PyData} {ds es : List PyData}
def oneS (x : Str) (i : Nat) : Str := ⟨#[x.cps.getD i 0]⟩
theorem src_str {x : Str} (h : Ev te σ B (.str x)) : Src (iStr te) σ B x.cps.size (fun i => IsV (.str (oneS x i))) := fun H1 a R k => h H1 a _ fun H2 e =>
  ⟨x, rfl, k _ B H2 _ _ (Gr.wide a e) walk_str (fun _ _ => trivial) fun i H v H' hi _ z => by
    obtain ⟨z1, c, z2, rfl⟩ := z
    refine ⟨z1, ?_⟩
    show V.str ⟨#[c]⟩ = V.str (oneS x i)
    unfold oneS
    rw [Array.getD_eq_getD_getElem?, z2]
    rfl⟩
/-- a comprehension over it, some items left out -/
theorem p_lcS {wi : TI} {n : Nat} {P : Nat → Pr} {g : TG} {vs : List Nat} (h : Src wi σ B n P) (hl : n ≤ 100000) (keep : Nat → Bool) (res : Nat → Pr)
    (step : ∀ i v B1, i < n → Ex B B1 → (P i).P v B1 → ∃ σ2, wipe σ2 vs = wipe σ vs ∧ (∀ H2 Q, Ex B1 H2 → Q σ2 H2 → g v (wipe σ vs) H2 Q) ∧ EvT tt σ2 B1 (keep i) ∧ (keep i = true → EvP te σ2 B1 (res i))) :
    EvP (tLc wi g tt te vs) σ B (LsP (((List.range n).filter keep).map res)) := fun H1 a Q k =>
  h H1 a _ fun J B2 H2 G Y gr w hG hY Dd hD => by
    refine lc_it w (fun i H3 => ∃ B3 acc, Gr B2 H2 B3 (wo Dd H3) ∧ H3 Dd = some (.lst acc) ∧ AllP (((List.range i).filter keep).map res) acc B3) ?_ ?_ ?_ ?_
    · exact ⟨B2, [], by rw [wo_new hD]; exact Gr.refl gr.c, upd_same, trivial⟩
    · rintro i H3 _ ⟨B3, acc, g3, _, _⟩
      exact hG H3 (g3.b.trans (g3.c.trans wo_ex))
    · rintro i v H3 H3' hi ⟨B3, acc, g3, hDd, hacc⟩ hy
      have exB : Ex B3 H3 := g3.c.trans wo_ex
      obtain ⟨rfl, pv⟩ := hY i H3 v H3' hi (g3.b.trans exB) hy
      have some3 : H3' Dd ≠ none := by
        rw [hDd]
        exact fun z => nomatch z
      obtain ⟨σ2, hw, hg, ht, he⟩ := step i v B3 hi (gr.b.trans g3.b) ((P i).m g3.b pv)
      refine hg H3' _ exB ⟨hw, ht H3' exB _ fun H4 e4 => ?_⟩
      have hD4 := e4 _ _ hDd
      have g4 : Gr B2 H2 B3 (wo Dd H4) := g3.side some3 (Gr.wide exB e4)
      have some4 : H4 Dd ≠ none := has e4 some3
      cases hk : keep i with
      | true =>
        rw [if_pos rfl]
        refine he hk H4 (exB.trans e4) _ fun y B5 H5 g5 hy => ?_
        have la : acc.length ≤ i := by
          rw [hacc.len, List.length_map]
          exact Nat.le_trans (List.length_filter_le _ _) (by rw [List.length_range]; exact Nat.le_refl _)
        refine ⟨acc, g5.a _ _ hD4, sz_lt (by omega), B5, acc ++ [y], by rw [wo_upd]; exact g4.side some4 g5, upd_same, ?_⟩
        rw [List.range_succ, List.filter_append, List.map_append]
        refine (hacc.m g5.b).app ?_
        have : List.filter keep [i] = [i] := by simp [hk]
        rw [this]
        exact ⟨hy, trivial⟩
      | false =>
        rw [if_neg Bool.false_ne_true]
        refine ⟨B3, acc, g4, hD4, ?_⟩
        rw [List.range_succ, List.filter_append, List.map_append]
        have : List.filter keep [i] = [] := by simp [hk]
        rw [this, List.map_nil, List.append_nil]
        exact hacc
    · rintro H3 ⟨B3, acc, g3, hDd, hacc⟩
      have hB3 : B3 Dd = none := wo_none g3.c
      refine k (.ref Dd) (upd B3 Dd (.lst acc)) H3 ⟨gr.a.trans (g3.a.trans wo_ex), gr.b.trans (g3.b.trans (Ex.new hB3)), fun b o e => ?_, fun x hb hh => ?_, fun z b ps q => ?_⟩ ⟨Dd, acc, rfl, upd_same, hacc.m (Ex.new hB3)⟩
      · by_cases n : b = Dd
        · subst n
          rw [upd_same] at e
          rw [hDd]
          exact e
        · rw [upd_ne n] at e
          exact g3.c.trans wo_ex _ _ e
      · have n : x ≠ Dd := fun z => by
          subst z
          exact has gr.a hh hD
        rw [upd_ne n]
        exact g3.d x (gr.d x hb hh) (has gr.a hh)
      · by_cases n : b = Dd
        · subst n
          rw [upd_same] at q
          cases q
        · rw [upd_ne n] at q
          exact g3.e (gr.e z) b ps q
/-- all items kept -/
theorem p_lcA {wi : TI} {n : Nat} {P : Nat → Pr} {g : TG} {vs : List Nat} (h : Src wi σ B n P) (hl : n ≤ 100000) (res : Nat → PyData)
    (step : ∀ i v B1, i < n → Ex B B1 → (P i).P v B1 → ∃ σ2, wipe σ2 vs = wipe σ vs ∧ (∀ H2 Q, Ex B1 H2 → Q σ2 H2 → g v (wipe σ vs) H2 Q) ∧ EvP te σ2 B1 (IsD K (res i))) :
    EvP (tLc wi g tYes te vs) σ B (IsD K (.list ((List.range n).map res))) := by
  have := p_lcS (tt := tYes) (te := te) h hl (fun _ => true) (fun i => IsD K (res i)) fun i v B1 hi e pv => by
    obtain ⟨σ2, a, b, c⟩ := step i v B1 hi e pv
    exact ⟨σ2, a, b, et_yes, fun _ => c⟩
  rw [List.filter_eq_self.mpr (fun _ _ => rfl)] at this
  refine d_lst (K := K) ?_
  rw [List.map_map]
  exact this
/-! ### data -/
theorem ed_bl {b : Bool} (h : Ev te σ B (.bl b)) : EvP te σ B (IsD K (.bool b)) := d_bl (p_ev h)
theorem ed_st {x : Str} (h : Ev te σ B (.str x)) : EvP te σ B (IsD K (.str x)) := d_str (p_ev h)
theorem ed_ref {a : Addr} (hd : Dp K B (.ref a) d) : EvP (tC (.ref a)) σ B (IsD K d) := fun H1 e _ k => k _ B H1 (Gr.refl e) hd
/-- the class of data -/
def tyS : PyData → String
  | .none => "NoneType"
  | .bool _ => "bool"
  | .int _ => "int"
  | .str _ => "str"
  | .list _ => "list"
  | .tuple _ => "tuple"
  | .dict _ => "dict"
theorem ty_d (h : Dp K H v d) : TyX K H v (.type (tyS d)) := by
  cases h with
  | non => exact .base .non
  | bl b => exact .base (.bl b)
  | int i => exact .base (.int i)
  | str x => exact .base (.str x)
  | lst a b =>
    rcases a with (a | ⟨o, a⟩) | ⟨o, its, n, hk, hc, _⟩
    · exact .base (.lst a)
    · exact .base (.frz a)
    · exact .kList hk hc
  | tup a b =>
    rcases a with (a | ⟨o, a⟩) | ⟨o, its, n, hk, hc, _⟩
    · exact .base (.tup a)
    · exact .fTuple a
    · exact .kTuple hk hc
theorem ev_isi {T : String} {b : Bool} (h : EvP te σ B (IsD K d)) (hk : kitB (tyS d) T = some b) : Ev (tCB (rIsi K) (tCons te (tCons (tC (.ty T)) tNil))) σ B (.bl b) := fun H1 a Q k =>
  h H1 a _ fun v B2 H2 g x => ⟨v, .ty T, .type (tyS d), .type T, b, rfl, .ty T, ty_d (dp_m g.c x), kit_ty hk, k H2 g.a⟩
theorem dps_strs : ∀ {vs : List V} {ys : List Str}, DpAll K H vs (ys.map .str) → vs = ys.map .str
  | [], [], _ => rfl
  | _ :: _, _ :: _, .cons a b => by
    cases a
    rw [dps_strs b]
    rfl
theorem dps_bls : ∀ {vs : List V} {bs : List Bool}, DpAll K H vs (bs.map .bool) → vs = bs.map .bl
  | [], [], _ => rfl
  | _ :: _, _ :: _, .cons a b => by
    cases a
    rw [dps_bls b]
    rfl
theorem inV_strs (x : Str) : ∀ ys : List Str, inV (.str x) (ys.map .str) = decide (x ∈ ys)
  | [] => rfl
  | y :: ys => by
    have ih := inV_strs x ys
    unfold inV at ih ⊢
    rw [List.map_cons, List.any_cons, ih]
    by_cases e : y = x
    · subst e
      simp [eqV]
    · have : eqV (V.str y) (V.str x) = false := by
        simp [eqV]
        exact e
      rw [this]
      simp [e, Ne.symm e, eq_comm]
theorem flat_strs (ys : List Str) : (ys.map V.str).all flatV = true := by
  rw [List.all_map, List.all_eq_true]
  intro _ _
  rfl
theorem ev_inT {x : Str} {ys : List Str} {neg : Bool} (ha : Ev ta σ B (.str x)) (hb : EvP tb σ B (IsD K (.tuple (ys.map .str)))) : Ev (tOp (rIn K neg) ta tb) σ B (.bl (if neg then !decide (x ∈ ys) else decide (x ∈ ys))) := fun H1 a Q k =>
  ha H1 a _ fun H2 e => hb H2 (a.trans e) _ fun v B2 H3 g z => by
    cases z with
    | tup y z =>
      have := dps_strs z
      subst this
      refine ⟨_, _, rfl, .inr (ex_t g.c y), rfl, flat_strs ys, ?_⟩
      rw [inV_strs]
      exact k H3 (e.trans g.a)
theorem ev_allL {bs : List Bool} (h : EvP te σ B (IsD K (.list (bs.map .bool)))) : Ev (tCB (rAll K) (tCons te tNil)) σ B (.bl (bs.all id)) := fun H1 a Q k =>
  h H1 a _ fun v B2 H2 g x => by
    cases x with
    | lst y z =>
      have := dps_bls z
      subst this
      exact ⟨_, bs, rfl, ex_l g.c y, k H2 g.a⟩
theorem ed_if {b : Bool} (h : EvT tt σ B b) (h1 : b = true → EvP ta σ B p) (h2 : b = false → EvP tb σ B p) : EvP (tIf tt ta tb) σ B p := fun H1 a Q k => h H1 a _ fun H2 e2 => by
  cases b with
  | true => exact h1 rfl H2 (a.trans e2) _ fun v B3 H3 g x => k v B3 H3 ((Gr.wide a e2).trans g) x
  | false => exact h2 rfl H2 (a.trans e2) _ fun v B3 H3 g x => k v B3 H3 ((Gr.wide a e2).trans g) x
/-! ### statements -/
/-! ### defs from data to data -/
/-- a def of the program's, as it is called -/
structure Cal (P : Program) (w : World) (K : PySem.W.Frag) (mg : Str → Option Value) (base : Heap) (x : Str) (k : Nat) (ps : List Str) (sp : Sp) (f : Addr) (fd : FuncData) : Prop where
  G : FnOk P w K mg base CX0 k f fd ps sp
  m : mg x = some (.ref f)
  k : PySem.W.keepIn K (.ref f) = true
  b : Binds K fd ps []
end
end My
namespace My
set_option autoImplicit false
open PySem PySem.Spec PyProof.Rows L2 Evl
section
variable {X : Cx}
end
section
variable {te ta tb : TE} {t tr : TA} {tt : TT} {σ : L2.St} {B B' H : Hp} {p q : Pr} {v : V} {K : PySem.W.Frag} {D : Ends} {d e : PyData} {ds es : List PyData}
end
/-! ### rankings and derivatives -/
def isNmB (x : Str) : Bool := decide (1 ≤ x.length) && decide (x.length ≤ 8) && x.cps.toList.all fun c => decide (97 ≤ c) && decide (c ≤ 122)
def IsNm (x : Str) : Prop := isNmB x = true
structure Rk where
  tot : Bool
  ns : List Str
  ax : Fin 3
def axsOf (a : Fin 3) : List Str := if a = 0 then ["x"] else if a = 1 then ["x", "y"] else ["y", "x"]
def Rk.axs (r : Rk) : List Str := axsOf r.ax
def Rk.srt (r : Rk) : Str := if r.tot then "total" else "names"
def Rk.D (r : Rk) : PyData := .tuple [.str r.srt, .tuple (r.ns.map .str), .tuple (r.axs.map .str)]
structure Rk.Ok (r : Rk) : Prop where
  ne : 1 ≤ r.ns.length
  le : r.ns.length ≤ 3
  nd : r.ns.Nodup
  nm : ∀ x ∈ r.ns, IsNm x
structure Dv where
  n : Str
  i : Int
  j : Int
deriving DecidableEq
def Dv.D (v : Dv) : PyData := .tuple [.str v.n, .int v.i, .int v.j]
structure Dv.Of (v : Dv) (r : Rk) : Prop where
  n : v.n ∈ r.ns
  i : 0 ≤ v.i
  j : 0 ≤ v.j
  y : v.j = 0 ∨ (Str.ofString "y") ∈ r.axs
def Rk.first (r : Rk) (v : Dv) : Int := if r.ax = 2 then v.j else v.i
def Rk.ahead (r : Rk) (v : Dv) : Int := -((r.ns.idxOf v.n : Nat) : Int)
def Rk.key (r : Rk) (v : Dv) : List Int := if r.tot then [v.i + v.j, r.first v, r.ahead v] else [r.ahead v, v.i + v.j, r.first v]
def cmpL (a b : List Int) : Int := if a = b then 0 else if HT.lexLt a b = true then -1 else 1
def Rk.cmp (r : Rk) (v u : Dv) : Int := cmpL (r.key v) (r.key u)

/-! ### what is known of such values -/
def DvP (u : Dv) : Pr := ⟨fun v H => ∃ a, v = .ref a ∧ H a = some (.tup [.str u.n, .int u.i, .int u.j]), fun e ⟨a, h1, h2⟩ => ⟨a, h1, e _ _ h2⟩⟩
theorem dps_of_strs {K : PySem.W.Frag} {H : Hp} : ∀ ys : List Str, DpAll K H (ys.map V.str) (ys.map .str)
  | [] => .nil
  | y :: ys => .cons (.str y) (dps_of_strs ys)
theorem dv_d {K : PySem.W.Frag} {u : Dv} {v : V} {H : Hp} (h : (DvP u).P v H) : Dp K H v u.D := by
  obtain ⟨a, rfl, h2⟩ := h
  exact .tup (st_of h2) (.cons (.str _) (.cons (.int _) (.cons (.int _) .nil)))
section
variable {te ta tb : TE} {t tr : TA} {tt : TT} {σ : L2.St} {B B' H : Hp} {p q : Pr} {ps : List Pr} {v : V} {K : PySem.W.Frag} {D : Ends} {r : Rk} {u : Dv}
/-! ### defs by what is known of what is handed in -/
def spP (R : List Pr → Pr → Prop) : Sp := fun vs H Q _ => ∃ B ps p, Ex B H ∧ AllP ps vs B ∧ R ps p ∧ ∀ v B' H', Gr B H B' H' → p.P v B' → Q v H'
theorem p_callP {R : List Pr → Pr → Prop} (h : EvPs t σ B ps) (hr : R ps p) : EvP (tCall (spP R) [] E0 t) σ B p := fun H1 a Q k =>
  h H1 a _ fun vs B2 H2 g b => by
    rw [List.append_nil]
    exact ⟨B2, ps, p, g.c, b, hr, fun v B3 H3 g3 x => k v B3 H3 (g.trans g3) x⟩
theorem spP_len {R : List Pr → Pr → Prop} {n : Nat} (h : ∀ ps p, R ps p → ps.length = n) : ∀ vs H Q E, spP R vs H Q E → vs.length = n := fun vs H Q E ⟨B, ps, p, _, a, b, _⟩ => by rw [a.len, h ps p b]
end
/-! ### t.index(x) -/
section
open PySem PySem.Spec PyProof.Rows
variable {X : Cx}
end
section
open PySem L2 Evl
variable {te ta tb : TE} {t tr : TA} {tt : TT} {σ : L2.St} {B B' H : Hp} {p q : Pr} {ps : List Pr} {v : V} {K : PySem.W.Frag} {D : Ends} {r : Rk} {u : Dv}
end
end My
namespace My
set_option autoImplicit false
open PySem PySem.Spec PySem.W PySem.Calls PyProof.Rows L2 Evl
section
variable {prog : Program} {w : World} {A : Around} {R : Result → Shared → Prop} {I : Addr} {fp wr : List Addr} {n : Nat} {G : Array GenState → Array GenState → Prop} {P : Nat → Value → Prop} {St : Nat → Shared → Prop}
/-- the first i of them are in the set at S -/
abbrev SetTo (prog : Program) (w : World) (h : Heap) (S : Addr) (xs : List Str) (i : Nat) : Prop := h.SetOf (PySem.strKind prog w) S (fun z => decide (z ∈ xs.take i)) i
theorem SetTo.moved {h h' : Heap} {S : Addr} {xs : List Str} {i : Nat} (x : SetTo prog w h S xs i) (k : ∀ o, h.get? S = some o → h'.get? S = some o) : SetTo prog w h' S xs i := by
  obtain ⟨ob, es, ep, tb, ho, more⟩ := x
  exact ⟨ob, es, ep, tb, k _ ho, more⟩
end
section
variable {prog : Program} {w : World} {A : Around} {E : Value → Shared → Prop} {s : Shared}
end
end My
namespace My
set_option autoImplicit false
open PySem L2 Evl
section
variable {te ta tb tc : TE} {t tr : TA} {tt : TT} {σ : L2.St} {B B' H : Hp} {p q : Pr} {ps : List Pr} {v : V} {K : PySem.W.Frag} {D : Ends}
theorem ev_chain {r1 r2 : Int → Int → Bool} {i j k : Int} (ha : Ev ta σ B (.int i)) (hb : Ev tb σ B (.int j)) (hc : Ev tc σ B (.int k)) : Ev (tChain (rI0 fun i j => .bl (r1 i j)) (rI0 fun i j => .bl (r2 i j)) ta tb tc) σ B (.bl (r1 i j && r2 j k)) := fun H1 e Q q =>
  ha H1 e _ fun H2 e2 => hb H2 (e.trans e2) _ fun H3 e3 => ⟨i, j, rfl, rfl, _, rfl, by
    cases h : r1 i j with
    | true =>
      show tc σ H3 _
      refine hc H3 ((e.trans e2).trans e3) _ fun H4 e4 => ?_
      have := q H4 ((e2.trans e3).trans e4)
      rw [h] at this
      exact ⟨j, k, rfl, rfl, this⟩
    | false =>
      have := q H3 (e2.trans e3)
      rw [h] at this
      exact this⟩
theorem ev_lenS {x : Str} (h : Ev te σ B (.str x)) (hl : x.length ≤ 100000) : Ev (tCB (fun xs H Q => ∃ z : Str, xs = [.str z] ∧ z.length ≤ sizeLine ∧ Q (.int (z.length : Nat)) H) (tCons te tNil)) σ B (.int (x.length : Int)) := fun H1 e Q q =>
  h H1 e _ fun H2 e2 => ⟨x, rfl, sz_of hl, q H2 e2⟩
theorem ev_sign {c : Nat} {z : Str} (ha : Ev ta σ B (.str ⟨#[c]⟩)) (hb : Ev tb σ B (.str z)) : Ev (tOp (fun x y H Q => ∃ (c : Nat) (z : Str), x = .str ⟨#[c]⟩ ∧ y = .str z ∧ Q (.bl (decide (c ∈ z.cps.toList))) H) ta tb) σ B (.bl (decide (c ∈ z.cps.toList))) := fun H1 e Q q =>
  ha H1 e _ fun H2 e2 => hb H2 (e.trans e2) _ fun H3 e3 => ⟨c, z, rfl, rfl, q H3 (e2.trans e3)⟩
/-- an if whose test fails, without an else -/
theorem ps_ifN {tu : TS} (a : Ex B H) (h : EvT tt σ B false) (k : ∀ H1, Ex H H1 → D.nx σ H1) : tIfS tt tu tNext D σ H := h H a _ fun H1 e => by
  rw [if_neg Bool.false_ne_true]
  exact k H1 e
end
theorem k_ss : kitB "str" "str" = some true := by decide +kernel
theorem k_ll : kitB "list" "list" = some true := by decide +kernel
theorem let_low {c : Nat} (h1 : 97 ≤ c) (h2 : c ≤ 122) : c ∈ (Str.ofString "abcdefghijklmnopqrstuvwxyz").cps.toList := by
  have : (Str.ofString "abcdefghijklmnopqrstuvwxyz").cps.toList = (List.range 26).map (· + 97) := by decide +kernel
  rw [this]
  exact List.mem_map.mpr ⟨c - 97, List.mem_range.mpr (by omega), by omega⟩
end My
namespace My
set_option autoImplicit false
open PySem PySem.W L2 Evl
/-! ### the order of derivatives -/
def Rk.lt (r : Rk) (u v : Dv) : Prop := r.key u < r.key v
instance (r : Rk) (u v : Dv) : Decidable (r.lt u v) := inferInstanceAs (Decidable (r.key u < r.key v))
def Rk.le (r : Rk) (u v : Dv) : Bool := !decide (r.lt v u)
theorem lt3 (a b c x y z : Int) : [a, b, c] < [x, y, z] ↔ a < x ∨ (a = x ∧ (b < y ∨ (b = y ∧ c < z))) := by
  simp [List.cons_lt_cons_iff]
theorem lex3 (a b c x y z : Int) : HT.lexLt [a, b, c] [x, y, z] = decide ([a, b, c] < [x, y, z]) := by
  rw [Bool.eq_iff_iff, decide_eq_true_iff, lt3]
  unfold HT.lexLt
  by_cases h : a = x
  · rw [if_pos h]
    unfold HT.lexLt
    by_cases h2 : b = y
    · rw [if_pos h2]
      unfold HT.lexLt
      by_cases h3 : c = z
      · rw [if_pos h3]
        unfold HT.lexLt
        simp
        omega
      · rw [if_neg h3]
        simp
        omega
    · rw [if_neg h2]
      simp
      omega
  · rw [if_neg h]
    simp
    omega
theorem Rk.key3 (r : Rk) (u : Dv) : ∃ a b c, r.key u = [a, b, c] := by
  unfold Rk.key
  cases r.tot
  · exact ⟨_, _, _, rfl⟩
  · exact ⟨_, _, _, rfl⟩
theorem Rk.lt_irrefl (r : Rk) (u : Dv) : ¬ r.lt u u := by
  unfold Rk.lt
  obtain ⟨a, b, c, e⟩ := r.key3 u
  rw [e, lt3]
  omega
theorem Rk.lt_trans (r : Rk) {u v w : Dv} (h : r.lt u v) (k : r.lt v w) : r.lt u w := by
  unfold Rk.lt at *
  obtain ⟨a, b, c, e⟩ := r.key3 u
  obtain ⟨a', b', c', e'⟩ := r.key3 v
  obtain ⟨a2, b2, c2, e2⟩ := r.key3 w
  rw [e, e', lt3] at h
  rw [e', e2, lt3] at k
  rw [e, e2, lt3]
  omega
theorem Rk.tri (r : Rk) (u v : Dv) : r.lt u v ∨ r.key u = r.key v ∨ r.lt v u := by
  unfold Rk.lt
  obtain ⟨a, b, c, e⟩ := r.key3 u
  obtain ⟨a', b', c', e'⟩ := r.key3 v
  rw [e, e', lt3, lt3]
  by_cases h : a = a'
  · by_cases h2 : b = b'
    · by_cases h3 : c = c'
      · exact .inr (.inl (by rw [h, h2, h3]))
      · omega
    · omega
  · omega
theorem idx_inj {ns : List Str} {x y : Str} (hx : x ∈ ns) (hy : y ∈ ns) (h : ns.idxOf x = ns.idxOf y) : x = y := by
  have h1 := List.getElem_idxOf (List.idxOf_lt_length_of_mem hx)
  have h2 := List.getElem_idxOf (List.idxOf_lt_length_of_mem hy)
  rw [← h1, ← h2]
  congr 1
theorem Rk.key_inj (r : Rk) {u v : Dv} (hu : u.n ∈ r.ns) (hv : v.n ∈ r.ns) (h : r.key u = r.key v) : u = v := by
  obtain ⟨n, i, j⟩ := u
  obtain ⟨n', i', j'⟩ := v
  have : (i + j = i' + j') ∧ r.first ⟨n, i, j⟩ = r.first ⟨n', i', j'⟩ ∧ r.ahead ⟨n, i, j⟩ = r.ahead ⟨n', i', j'⟩ := by
    unfold Rk.key at h
    cases ht : r.tot with
    | true =>
      rw [ht, if_pos rfl, if_pos rfl] at h
      simp at h
      exact h
    | false =>
      rw [ht, if_neg Bool.false_ne_true, if_neg Bool.false_ne_true] at h
      simp at h
      exact ⟨h.2.1, h.2.2, h.1⟩
  obtain ⟨h1, h2, h3⟩ := this
  have e : n = n' := idx_inj hu hv (by unfold Rk.ahead at h3; simp only at h3; omega)
  subst e
  unfold Rk.first at h2
  by_cases hx : r.ax = 2
  · rw [if_pos hx, if_pos hx] at h2
    simp only at h2
    have : i = i' := by omega
    rw [this, h2]
  · rw [if_neg hx, if_neg hx] at h2
    simp only at h2
    have : j = j' := by omega
    rw [this, h2]
theorem Rk.cmp_lt (r : Rk) (u v : Dv) : r.cmp u v = -1 ↔ r.lt u v := by
  unfold Rk.cmp cmpL Rk.lt
  obtain ⟨a, b, c, e⟩ := r.key3 u
  obtain ⟨a', b', c', e'⟩ := r.key3 v
  rw [e, e', lex3]
  by_cases h : [a, b, c] = [a', b', c']
  · rw [if_pos h, ← h, lt3]
    omega
  · rw [if_neg h]
    by_cases k : [a, b, c] < [a', b', c']
    · simp [k]
    · simp [k]
theorem Rk.cmp_eq (r : Rk) (u v : Dv) : r.cmp u v = 0 ↔ r.key u = r.key v := by
  unfold Rk.cmp cmpL
  by_cases h : r.key u = r.key v
  · simp [h]
  · rw [if_neg h]
    constructor
    · intro k
      split at k <;> omega
    · intro k
      exact absurd k h
theorem Rk.cmp_gt (r : Rk) (u v : Dv) : r.cmp u v = 1 ↔ r.lt v u := by
  have h := r.tri u v
  have h1 := r.cmp_lt u v
  have h2 := r.cmp_eq u v
  have h3 : r.cmp u v = -1 ∨ r.cmp u v = 0 ∨ r.cmp u v = 1 := by
    unfold Rk.cmp cmpL
    split
    · exact .inr (.inl rfl)
    · split
      · exact .inl rfl
      · exact .inr (.inr rfl)
  have n1 : r.lt u v → r.lt v u → False := fun a b => r.lt_irrefl u (r.lt_trans a b)
  have n2 : r.key u = r.key v → r.lt v u → False := fun a b => by
    unfold Rk.lt at b
    rw [a] at b
    exact r.lt_irrefl v b
  constructor
  · intro k
    rcases h with h | h | h
    · rw [h1.mpr h] at k
      omega
    · rw [h2.mpr h] at k
      omega
    · exact h
  · intro k
    rcases h3 with e | e | e
    · exact (n1 (h1.mp e) k).elim
    · exact (n2 (h2.mp e) k).elim
    · exact e
/-- from u on, once more by x, or by y -/
def Dv.up (u : Dv) (x : Str) : Dv := if x = "x" then ⟨u.n, u.i + 1, u.j⟩ else ⟨u.n, u.i, u.j + 1⟩
/-! ### sorted by it -/
def Rk.sort (r : Rk) (us : List Dv) : List Dv := us.mergeSort r.le
theorem Rk.le_tot (r : Rk) (u v : Dv) : (r.le u v || r.le v u) = true := by
  unfold Rk.le
  simp
  by_cases h : r.lt v u
  · right
    intro k
    exact r.lt_irrefl u (r.lt_trans k h)
  · exact .inl h
theorem Rk.le_tr (r : Rk) (u v w : Dv) (h : r.le u v = true) (k : r.le v w = true) : r.le u w = true := by
  unfold Rk.le at *
  simp at *
  intro z
  rcases r.tri u v with a | a | a
  · exact k (r.lt_trans z a)
  · apply k
    unfold Rk.lt at *
    rw [← a]
    exact z
  · exact h a
theorem Rk.sort_le (r : Rk) (us : List Dv) : (r.sort us).Pairwise (fun u v => r.le u v = true) := List.pairwise_mergeSort (r.le_tr) (r.le_tot) us
theorem Rk.sort_perm (r : Rk) (us : List Dv) : (r.sort us).Perm us := List.mergeSort_perm us r.le
/-- strictly rising -/
theorem Rk.sort_lt (r : Rk) {us : List Dv} (hu : ∀ u ∈ us, u.n ∈ r.ns) (nd : us.Nodup) : (r.sort us).Pairwise r.lt := by
  have nd2 : (r.sort us).Nodup := (r.sort_perm us).nodup_iff.mpr nd
  have m : ∀ u ∈ r.sort us, u.n ∈ r.ns := fun u h => hu u ((r.sort_perm us).mem_iff.mp h)
  have h := r.sort_le us
  rw [List.pairwise_iff_getElem] at *
  intro i j hi hj hij
  have a := h i j hi hj hij
  have b := List.pairwise_iff_getElem.mp nd2 i j hi hj hij
  unfold Rk.le at a
  simp at a
  rcases r.tri (r.sort us)[i] (r.sort us)[j] with z | z | z
  · exact z
  · exact (b (r.key_inj (m _ (List.getElem_mem hi)) (m _ (List.getElem_mem hj)) z)).elim
  · exact (a z).elim
/-! ### what sorted with keys makes of them -/
theorem AllP.zip {H : Hp} (f : Dv → Pr) : ∀ {xs : List V} {us : List Dv}, AllP (us.map f) xs H → ∀ p ∈ xs.zip us, (f p.2).P p.1 H
  | [], [], _, p, h => by simp at h
  | x :: xs, u :: us, a, p, h => by
    rcases List.mem_cons.mp h with rfl | h
    · exact a.1
    · exact AllP.zip f a.2 p h
theorem AllP.of {H : Hp} (f : Dv → Pr) : ∀ {ps : List (V × Dv)}, (∀ p ∈ ps, (f p.2).P p.1 H) → AllP ((ps.map (·.2)).map f) (ps.map (·.1)) H
  | [], _ => trivial
  | p :: ps, h => ⟨h p List.mem_cons_self, AllP.of f fun q hq => h q (List.mem_cons_of_mem _ hq)⟩
end My
namespace My
set_option autoImplicit false
open PySem PySem.W L2 Evl LamX
theorem AllP.ix {H : Hp} : ∀ {ps : List Pr} {vs : List V}, ps.length = vs.length → (∀ (i : Nat) (p : Pr) (v : V), ps[i]? = some p → vs[i]? = some v → p.P v H) → AllP ps vs H
  | [], [], _, _ => trivial
  | p :: ps, v :: vs, hl, h => ⟨h 0 p v rfl rfl, AllP.ix (by simpa using hl) fun i q u a b => h (i + 1) q u a b⟩
/-- tables of code: what of the heap they lean on -/
theorem exN_ex {B H H2 : Hp} (e : Ex B H) (n : NoTab B) (k : ExtN H H2) : Ex B H2 := fun b o h => k b o (e b o h) fun ps z => n b ps (by rw [← z]; exact h)
theorem exN_of {H H' : Hp} (e : Ex H H') : ExtN H H' := fun b o h _ => e b o h
theorem nt_upd {B : Hp} {a : Addr} {o : HO} (n : NoTab B) (ho : ∀ ps, o ≠ .tbl ps) : NoTab (upd B a o) := fun b ps q => by
  by_cases h : b = a
  · subst h
    rw [upd_same] at q
    exact ho ps (Option.some.inj q)
  · rw [upd_ne h] at q
    exact n b ps q
/-! ### a for over what is known -/
section
variable {te ta tb : TE} {t tr : TA} {tt : TT} {σ : L2.St} {B B' H : Hp} {p q : Pr} {ps : List Pr} {v : V} {K : PySem.W.Frag} {D : Ends}
end
/-! ### dicts by derivatives -/
def addD (ds : List Dv) (u : Dv) : List Dv := if u ∈ ds then ds else ds ++ [u]
/-! ### all derivatives to an order -/
def Rk.most (r : Rk) (o i : Nat) : Nat := if (Str.ofString "y") ∈ r.axs then o - i else 0
def Rk.row (r : Rk) (o : Nat) (n : Str) (i : Nat) : List Dv := (List.range (r.most o i + 1)).map fun (j : Nat) => ⟨n, (i : Int), (j : Int)⟩
def Rk.rowsN (r : Rk) (o : Nat) (n : Str) (m : Nat) : List Dv := (List.range m).flatMap (r.row o n)
def Rk.all (r : Rk) (o : Nat) : List Dv := r.ns.flatMap fun n => r.rowsN o n (o + 1)
theorem Rk.mem_row {r : Rk} {o i : Nat} {n : Str} {u : Dv} (h : u ∈ r.row o n i) : u.n = n ∧ u.i = i ∧ 0 ≤ u.j ∧ u.j ≤ r.most o i := by
  unfold Rk.row at h
  obtain ⟨j, hj, rfl⟩ := List.mem_map.mp h
  have := List.mem_range.mp hj
  exact ⟨rfl, rfl, by simp, by simp; omega⟩
theorem Rk.mem_all {r : Rk} {o : Nat} {u : Dv} (h : u ∈ r.all o) : u.Of r := by
  unfold Rk.all Rk.rowsN at h
  obtain ⟨n, hn, h⟩ := List.mem_flatMap.mp h
  obtain ⟨i, hi, h⟩ := List.mem_flatMap.mp h
  obtain ⟨h1, h2, h3, h4⟩ := Rk.mem_row h
  refine ⟨by rw [h1]; exact hn, by rw [h2]; simp, h3, ?_⟩
  unfold Rk.most at h4
  by_cases hy : (Str.ofString "y") ∈ r.axs
  · exact .inr hy
  · rw [if_neg hy] at h4
    exact .inl (by simp at h4; omega)
theorem nd_flat {α β : Type} {f : α → List β} : ∀ {l : List α}, l.Nodup → (∀ a ∈ l, (f a).Nodup) → (∀ a ∈ l, ∀ b ∈ l, ∀ x, x ∈ f a → x ∈ f b → a = b) → (l.flatMap f).Nodup
  | [], _, _, _ => List.nodup_nil
  | a :: l, nd, h1, h2 => by
    rw [List.flatMap_cons, List.nodup_append]
    refine ⟨h1 a List.mem_cons_self, nd_flat (List.nodup_cons.mp nd).2 (fun b hb => h1 b (List.mem_cons_of_mem _ hb)) (fun b hb c hc => h2 b (List.mem_cons_of_mem _ hb) c (List.mem_cons_of_mem _ hc)), fun x hx y hy => ?_⟩
    rintro rfl
    obtain ⟨b, hb, hx2⟩ := List.mem_flatMap.mp hy
    have := h2 a List.mem_cons_self b (List.mem_cons_of_mem _ hb) x hx hx2
    subst this
    exact (List.nodup_cons.mp nd).1 hb
theorem Rk.all_nd {r : Rk} (o : Nat) (h : r.ns.Nodup) : (r.all o).Nodup := by
  unfold Rk.all
  refine nd_flat h (fun n _ => ?_) fun a _ b _ x hx hy => ?_
  · unfold Rk.rowsN
    refine nd_flat List.nodup_range (fun i _ => ?_) fun a _ b _ x hx hy => ?_
    · unfold Rk.row
      rw [List.nodup_iff_pairwise_ne, List.pairwise_map]
      refine List.Pairwise.imp ?_ (List.pairwise_lt_range)
      intro a b hab e
      simp at e
      omega
    · have := (Rk.mem_row hx).2.1
      have := (Rk.mem_row hy).2.1
      omega
  · unfold Rk.rowsN at hx hy
    obtain ⟨i, _, hx⟩ := List.mem_flatMap.mp hx
    obtain ⟨j, _, hy⟩ := List.mem_flatMap.mp hy
    rw [← (Rk.mem_row hx).1, (Rk.mem_row hy).1]
end My
namespace My
open PySem L2 Evl
end My
namespace My
set_option autoImplicit false
open PySem L2 Evl
end My
namespace My
set_option autoImplicit false
open PySem PySem.Spec PyProof.Rows L2
end My
namespace My
set_option autoImplicit false
open PySem PySem.W L2 Evl LamX
section
variable {te ta tb : TE} {t tr : TA} {tt : TT} {σ : L2.St} {B B' H : Hp} {p q : Pr} {ps : List Pr} {v : V} {K : PySem.W.Frag} {D : Ends}
theorem AllP.take {H : Hp} : ∀ {ps : List Pr} {vs : List V} (n : Nat), AllP ps vs H → AllP (ps.take n) (vs.take n) H
  | _, _, 0, _ => trivial
  | [], [], _ + 1, _ => trivial
  | _ :: _, _ :: _, n + 1, h => ⟨h.1, AllP.take n h.2⟩
end
/-- which of a rising row is below the k-th -/
theorem Rk.below {r : Rk} {us : List Dv} (h : us.Pairwise r.lt) {i k : Nat} (hi : i < us.length) (hk : k < us.length) : decide (r.cmp us[i] us[k] < 0) = decide (i < k) := by
  rw [List.pairwise_iff_getElem] at h
  by_cases e : i < k
  · rw [decide_eq_true e, (r.cmp_lt _ _).mpr (h i k hi hk e)]
    rfl
  · rw [decide_eq_false e, decide_eq_false_iff_not]
    by_cases e2 : i = k
    · subst e2
      rw [(r.cmp_eq _ _).mpr rfl]
      decide
    · rw [(r.cmp_gt _ _).mpr (h k i hk hi (by omega))]
      decide
/-- an object at d, a dict, left out -/
theorem wo_at {d b : Addr} {H : Hp} {o : HO} {kvs : List (Key × V)} (hd : H d = some (.dK kvs)) (h : H b = some o) (n : ∀ kvs, o ≠ .dK kvs) : wo d H b = some o := by
  rw [wo_ne fun z => by
    subst z
    rw [hd] at h
    exact n kvs (Option.some.inj h).symm]
  exact h
/-- all but d and the tables of code -/
def ExtB (d : Addr) (H H' : Hp) : Prop := ∀ b o, b ≠ d → H b = some o → (∀ ps, o ≠ .tbl ps) → H' b = some o
theorem ExtB.of {d : Addr} {H H' : Hp} (h : ExtN H H') : ExtB d H H' := fun b o _ e n => h b o e n
theorem ExtB.trans {d : Addr} {H H1 H2 : Hp} (a : ExtB d H H1) (b : ExtB d H1 H2) : ExtB d H H2 := fun c o h e n => b c o h (a c o h e n) n
theorem ExtB.ex {d : Addr} {B H H' : Hp} (h : ExtB d H H') (e : Ex B H) (n : NoTab B) (hd : B d = none) : Ex B H' := fun b o k => h b o (ne_of_none k hd) (e b o k) fun ps z => n b ps (by rw [← z]; exact k)
theorem tabs_but {T : List (Addr × Str)} {d : Addr} {H H' : Hp} {kvs : List (Key × V)} (t : Tabs T H) (hd : H d = some (.dK kvs)) (s : ∀ b o, b ≠ d → H b = some o → H' b = some o) : Tabs T H' := by
  have e : ∀ b o, wo d H b = some o → H' b = some o := fun b o k => by
    obtain ⟨n, q⟩ := wo_some k
    exact s b o n q
  refine Tabs.ext (H := wo d H) (fun p hp => ?_) e
  obtain ⟨ps, h1, h2, h3⟩ := t p hp
  refine ⟨ps, (wo_at hd h1 (fun _ z => nomatch z)), h2, fun pos cv hc => ?_⟩
  obtain ⟨c, e1, e2⟩ := h3 pos cv hc
  exact ⟨c, e1, wo_at hd e2 fun kvs z => by unfold CodeO at z; cases z⟩
end My
namespace My
set_option autoImplicit false
open PySem PySem.W L2 Evl LamX
section
variable {te ta tb : TE} {t tr : TA} {tt : TT} {σ : L2.St} {B B' H : Hp} {p q : Pr} {ps : List Pr} {v : V} {K : PySem.W.Frag} {D : Ends}
/-- a pair unpacked -/
theorem ps_un2 {i j : Nat} (a : Ex B H) (h : EvP te σ B (TuP K [p, q])) (n : ∀ v w B1 H1, Gr B H B1 H1 → p.P v B1 → q.P w B1 → D.nx ((σ.set i (some v)).set j (some w)) H1) :
    tAsg te (gTup K 2 (gCons (gName i) (gCons (gName j) gNil))) D σ H := h H a _ fun v B1 H1 g x => by
  obtain ⟨l, xs, rfl, h2, h3⟩ := x
  match xs, h3 with
  | [v, w], h3 => exact ⟨_, _, rfl, ex_t g.c h2, rfl, _, _, rfl, _, _, rfl, rfl, n v w B1 H1 g h3.1 h3.2.1⟩
end
end My
namespace My
set_option autoImplicit false
open PySem PySem.W L2 Evl
/-! ### which one is above, told otherwise -/
/-! ### rising, one put in behind the other -/
/-- where a derivative is put -/
def Rk.spot (r : Rk) (us : List Dv) (a : Dv) : Nat := (us.filter fun b => decide (r.lt b a)).length
def Rk.put (r : Rk) (us : List Dv) (a : Dv) : List Dv := if a ∈ us then us else us.insertIdx (r.spot us a) a
theorem Rk.spot_le (r : Rk) (us : List Dv) (a : Dv) : r.spot us a ≤ us.length := List.length_filter_le _ _
theorem ins_eq {α : Type} (a : α) : ∀ (n : Nat) (l : List α), n ≤ l.length → l.insertIdx n a = l.take n ++ a :: l.drop n
  | 0, l, _ => by simp
  | n + 1, x :: l, h => by
    rw [List.insertIdx_succ_cons, ins_eq a n l (by simpa using h)]
    simp
theorem Rk.put_len (r : Rk) (us : List Dv) (a : Dv) : (r.put us a).length ≤ us.length + 1 := by
  unfold Rk.put
  split
  · omega
  · rw [ins_eq _ _ _ (r.spot_le us a), List.length_append, List.length_cons, List.length_take, List.length_drop]
    have := r.spot_le us a
    omega
/-- strictly rising rows of the same derivatives are the same -/
theorem Rk.rise_one (r : Rk) {us vs : List Dv} (h : us.Pairwise r.lt) (k : vs.Pairwise r.lt) (e : ∀ v, v ∈ us ↔ v ∈ vs) : us = vs := by
  have nd : ∀ {l : List Dv}, l.Pairwise r.lt → l.Nodup := fun {l} h => List.Pairwise.imp (fun {a b} z e => by
    subst e
    exact r.lt_irrefl _ z) h
  refine List.Perm.eq_of_pairwise (le := r.lt) (fun u v _ _ a b => (r.lt_irrefl u (r.lt_trans a b)).elim) h k ((List.perm_ext_iff_of_nodup (nd h) (nd k)).mpr e)
/-! ### all to an order, told otherwise -/
def Rk.line (r : Rk) (n : Str) (t : Nat) : List Dv := (List.range (if r.axs.length = 2 then t + 1 else 1)).map fun (j : Nat) => ⟨n, (t : Int) - j, (j : Int)⟩
/-- those of the order 0, rising -/
theorem Rk.zero (r : Rk) (hn : r.ns.Nodup) : r.sort (r.all 0) = r.ns.reverse.map fun n => ⟨n, 0, 0⟩ := by
  have e0 : r.all 0 = r.ns.map fun n => (⟨n, 0, 0⟩ : Dv) := by
    unfold Rk.all Rk.rowsN Rk.row Rk.most
    induction r.ns with
    | nil => rfl
    | cons n ns ih =>
      rw [List.flatMap_cons, ih, List.map_cons]
      split <;> simp [List.range_succ]
  refine r.rise_one (r.sort_lt (fun u hu => (Rk.mem_all hu).n) (r.all_nd 0 hn)) ?_ fun v => ?_
  · rw [List.pairwise_map, List.pairwise_reverse]
    rw [List.pairwise_iff_getElem]
    intro i j hi hj hij
    unfold Rk.lt Rk.key Rk.first Rk.ahead
    have ix : ∀ (k : Nat) (hk : k < r.ns.length), r.ns.idxOf r.ns[k] = k := fun k hk => by
      have h1 := List.idxOf_lt_length_of_mem (List.getElem_mem hk)
      have h2 := List.getElem_idxOf h1
      by_cases e : r.ns.idxOf r.ns[k] = k
      · exact e
      · exact ((List.nodup_iff_pairwise_ne.mp hn) |> fun hp => by
          rw [List.pairwise_iff_getElem] at hp
          rcases Nat.lt_or_gt_of_ne e with z | z
          · exact (hp _ _ h1 hk z h2).elim
          · exact (hp _ _ hk h1 z h2.symm).elim)
    have e1 := ix i hi
    have e2 := ix j hj
    simp only [e1, e2]
    cases r.tot
    · simp [lt3]
      omega
    · simp only [if_true, lt3]
      exact .inr ⟨trivial, .inr ⟨trivial, by omega⟩⟩
  · rw [(r.sort_perm _).mem_iff, e0]
    simp
end My
namespace Gd
set_option autoImplicit false
open PySem PySem.Spec PyProof.Rows L2 LamX My
/-- a def's promise, where no repr is under way -/
structure FnG (P : Program) (w : World) (K : PySem.W.Frag) (mg : Str → Option Value) (base : Heap) (k : Nat) (f : Addr) (fd : FuncData) (ps : List Str) (sp : Sp) : Prop where
  len : ∀ vs H Q E, sp vs H Q E → vs.length = ps.length
  run : ∀ (A : Around) (outer : List Env) (s : Shared) (H : Hp) (args : Args) (us : List Value) (vs : List V) (Q : VK) (E : XK), Room k A → A.guards = some [] → Env0 P w K mg base A outer s H → BindsTo s fd args (ps.zip us) → Vals vs us → sp vs H Q E →
    codeAny (model P w) A (.call (.ref f) args) (CR CX0 outer P w H s Q E) s
section
variable {P : Program} {w : World} {K : PySem.W.Frag} {mg : Str → Option Value} {base : Heap} {k : Nat} {f : Addr} {fd : FuncData} {ps : List Str} {sp : Sp}
theorem FnG.of (F : FnOk P w K mg base CX0 k f fd ps sp) : FnG P w K mg base k f fd ps sp := ⟨F.len, fun A outer s H args us vs Q E hr _ => F.run A outer s H args us vs Q E hr⟩
theorem fnG_of {name qual : Str} {params : Arguments} {body : List Stmt} {scope : Scope} {dV kV doc pm cdv ct oc : Value} {an od : Option Addr} {osl : Array (Option Value)} {N : List Str}
    (lk : K.lookup f = some ⟨oc, od, .func (PySem.W.fnOf name qual params body scope dV kV doc pm an cdv ct), osl⟩) (hcd : PySem.W.codeIn K cdv qual = true) (S : FnScope N ps scope) (len : ∀ vs H Q E, sp vs H Q E → vs.length = ps.length)
    (go : ∀ (A : Around) (outer : List Env) (s : Shared) (H : Hp) (vs : List V) (Q : VK) (E : XK), Room k (A.deeper (envOfC qual scope s.heap.objs.size f cdv)) → (A.deeper (envOfC qual scope s.heap.objs.size f cdv)).guards = some [] → sp vs H Q E →
      ∃ t, PSs (cxOf CX0 P w K mg base N qual scope f cdv A outer s H E) body t ∧ t { nx := fun _ H' => Q .non H', rt := Q } (start N vs) H) :
    FnG P w K mg base (k + 1) f (PySem.W.fnOf name qual params body scope dV kV doc pm an cdv ct) ps sp := by
  refine ⟨len, fun A outer s H args us vs Q E hr hg e0 hb r hsp => ?_⟩
  have old := fun (b : Addr) (o : Obj) (e : base.get? b = some o) => (e0.bs b o e).1
  have inK : K.In s.heap := e0.mod.kin.keeps old
  have local_ := fun (y : Str × Value) (hy : y ∈ ps.zip us) => (S.par y.1 (List.of_mem_zip hy).1).imp id fun q => (⟨q, PySem.W.cellsFrom_some _ _ _ (.inl q)⟩ : scope.names.lookup y.1 = some .cell ∧ ((cellsFrom (s.heap.objs.size + 1) scope.names []).lookup y.1).isSome = true)
  refine codeAny_call_function hr.depth (inK _ _ lk) rfl S.co S.gen rfl (PySem.W.codeRec_of inK hcd) (hb _ _ _ _ (wpAny_newFunctionEnv_cells S.kind local_ fun env he s1 x => ?_))
  subst he
  obtain ⟨t, ht, hq⟩ := go A outer s H vs Q E (hr.deeper _) hg hsp
  refine ⟨(e0.mod.nolimit.keeps old).keeps x.toInCall.keep, codeAny_func (wpAny_mono (ht.run [] s1 _ H _ (inv_start S hr.hd e0 (len _ _ _ _ hsp) r x) hq) (fun fl s' hs => ?_) fun e s' hs => hs)⟩
  cases fl with
  | ret u => exact let ⟨v, _, H', J, rv, q⟩ := hs; ⟨v, H', J.os, J.bare, J.base, J.hok, rv, q⟩
  | next => exact let ⟨_, H', J, q⟩ := hs; ⟨V.non, H', J.os, J.bare, J.base, J.hok, rfl, q⟩
  | brk => exact let ⟨_, _, _, q⟩ := hs; q.elim
  | cont => exact let ⟨_, _, _, q⟩ := hs; q.elim
/-- the rule for a def by its body -/
theorem okG {x qual : Str} {st : Stmt} {N : List Str} (F : Fun K x qual st f fd) (S : FnScope N ps (defScope st)) (len : ∀ vs H Q E, sp vs H Q E → vs.length = ps.length)
    (go : ∀ (cdv : Value) (A : Around) (outer : List Env) (s : Shared) (H : Hp) (vs : List V) (Q : VK) (E : XK), Room k (A.deeper (envOfC qual (defScope st) s.heap.objs.size f cdv)) → (A.deeper (envOfC qual (defScope st) s.heap.objs.size f cdv)).guards = some [] → sp vs H Q E →
      ∃ t, PSs (cxOf CX0 P w K mg base N qual (defScope st) f cdv A outer s H E).nox (defBody st) t ∧ t { nx := fun _ H' => Q .non H', rt := Q } (start N vs) H) : FnG P w K mg base (k + 1) f fd ps sp := by
  obtain ⟨oc, od, kV, doc, pm, an, cdv, ct, osl, rfl, lk, hcd⟩ := F.ex
  exact fnG_of lk hcd S len fun A outer s H vs Q E hr hg hsp => let ⟨t, h1, h2⟩ := go cdv A outer s H vs Q E hr hg hsp; ⟨t, h1.nox, h2⟩
/-- a def as it is called -/
structure CalG (P : Program) (w : World) (K : PySem.W.Frag) (mg : Str → Option Value) (base : Heap) (x : Str) (k : Nat) (ps : List Str) (sp : Sp) (f : Addr) (fd : FuncData) : Prop where
  G : FnG P w K mg base k f fd ps sp
  m : mg x = some (.ref f)
  k : PySem.W.keepIn K (.ref f) = true
  b : Binds K fd ps []
end
section
variable {X : Cx} {k : Nat} {f : Addr} {fd : FuncData} {ps : List Str} {sp : Sp} {dvs : List V} {ds : List Value} {E : XK} {x : Str} {p pos : Pos} {e : Expr} {es : List Expr} {t : TA}
theorem pe_callG (F : FnG X.prog X.w X.K X.mg X.base k f fd ps sp) (hr : Room k X.A) (hG : X.A.guards = some []) (hg : Gl X x) (hm : X.mg x = some (.ref f)) (hk : PySem.W.keepIn X.K (.ref f) = true) (hb : Binds X.K fd ps ds) (hd : Vals dvs ds) (hx : Passes CX0 X E) (ha : PA X (e :: es) t)
    (hdb : (x == ("__debug__" : Str)) = false := by decide) (he : starEach (e :: es) X.env = (false, eval e X.env) :: starEach es X.env := by rfl) (hpl : (backTo pos (starEach es X.env)).any (·.1) = false := by rfl) : PE X (.Call (.Name x p) (e :: es) [] pos) (tCall sp dvs E t) :=
  ⟨fun pins s σ H Q I h => wpAny_Call_Name_kw (ld_glob I hg hm (PySem.W.callWith_K (h₀ := X.base) I.ok.mod.kin hk (thn (ha.run pos pins s σ H _ I h) fun us s1 ⟨vs, H1, I1, r, q⟩ => ⟨I1.kIn, by
    have ra := r.append hd
    have hl : (us ++ ds).length = ps.length := ra.length.symm.trans (F.len _ _ _ _ q)
    refine wpAny_call (codeAny_mono (F.run X.A X.stack s1 H1 ⟨us, []⟩ (us ++ ds) (vs ++ dvs) Q E hr hG I1.env0 (hb s1 us I1.kIn hl) ra q) fun r s' hq => ?_)
    match r, hq with
    | .error e, hq => exact hx pins σ H1 s1 e s' I1 hq
    | .ok (.ret u), hq => exact I1.after hq⟩) he hpl) hdb)⟩
end
/-! ### repr of data -/
mutual
theorem dp_nd {K : PySem.W.Frag} {H : Hp} : ∀ {d : PyData} {v : V}, Dp K H v d → d.hasDict = false
  | _, _, .non => by simp only [PyData.hasDict]
  | _, _, .bl b => by simp only [PyData.hasDict]
  | _, _, .int i => by simp only [PyData.hasDict]
  | _, _, .str x => by simp only [PyData.hasDict]
  | _, _, .lst _ b => by simp only [PyData.hasDict]; exact dps_nd b
  | _, _, .tup _ b => by simp only [PyData.hasDict]; exact dps_nd b
theorem dps_nd {K : PySem.W.Frag} {H : Hp} : ∀ {ds : List PyData} {vs : List V}, DpAll K H vs ds → PyData.hasDictAll ds = false
  | _, _, .nil => by simp only [PyData.hasDictAll]
  | _, _, .cons a b => by simp only [PyData.hasDictAll, dp_nd a, dps_nd b, Bool.or_self]
end
def rRepr (K : PySem.W.Frag) : List V → Hp → VK → Prop := fun xs H Q => ∃ x d, xs = [x] ∧ Dp K H x d ∧ d.showable = true ∧ d.depth ≤ 60 ∧ d.shown.length ≤ 1000000 ∧ Q (.str d.shown) H
theorem call_reprG {X : Cx} (hG : X.A.guards = some []) (hu : X.A.units + 64 < cLine) : CallR X (.builtin "repr") (rRepr X.K) := by
  intro pins s σ H xs us Q I r ⟨x, d, e, hd, hs, hp, hz, q⟩
  subst e
  obtain ⟨u, rfl, rx⟩ := vals1 r
  have hz' : d.shown.length ≤ sizeLine := Nat.le_trans hz (by decide)
  have hn := dp_nd hd
  have fin : ∀ {a : Addr}, u = .ref a → wpAny (model X.prog X.w) X.A (call (.builtin "repr") [u]) (EP X pins σ Q) X.xe s := fun {a} e => by
    subst e
    obtain ⟨as, ra⟩ := Dp.reads I d x _ hd rx
    exact repr_of_reads' ra hs (PyData.noDict_hsm hn) hG (by omega) (fun _ _ e => e) (fun h' u tk hk => ⟨.str d.shown, H, I.kept (t' := tk) hk, ⟨u, rfl⟩, q⟩) hz'
  cases hd with
  | non =>
    obtain rfl : u = Value.none := rx
    simp only [PyData.shown] at q
    exact PySem.P.repr_of_none ⟨.str _, H, I.tok _, ⟨_, rfl⟩, q⟩
  | bl b =>
    obtain rfl : u = Value.bool b := rx
    simp only [PyData.shown] at q
    exact PySem.P.repr_of_bool ⟨.str _, H, I.tok _, ⟨_, rfl⟩, q⟩
  | int i =>
    obtain ⟨t, rfl⟩ := rx
    simp only [PyData.shown] at q
    refine PySem.P.repr_of_int ?_ ⟨.str _, H, I.tok _, ⟨_, rfl⟩, q⟩
    simpa only [PyData.showable, decide_eq_true_eq] using hs
  | str y =>
    obtain ⟨t, rfl⟩ := rx
    simp only [PyData.shown] at q hz'
    exact PySem.P.repr_of_str ⟨.str _, H, I.tok _, ⟨_, rfl⟩, q⟩ hz'
  | lst a b => exact fin rx
  | tup a b => exact fin rx
end Gd
namespace Gd
set_option autoImplicit false
open PySem PySem.Spec PyProof.Rows L2 LamX My
/-- the abstract heap at the law's call: the script where it isn't written, the empty tables -/
def scrO (vs : List Value) : Obj := { cls := .type "list", data := .seq vs.toArray }
def tabO : Obj := { cls := .none, data := .fields #[] }
open Classical in
noncomputable def H0 (K : PySem.W.Frag) (a : Addr) (vs : List Value) (ns : List Int) (ts : List Addr) : Hp := fun b => if b ∈ ts then some (.tbl #[]) else if b = a ∧ K.lookup a = none then some (.frz (scrO vs) (.lst (ns.map V.int))) else none
theorem H0_t {K : PySem.W.Frag} {a : Addr} {vs : List Value} {ns : List Int} {ts : List Addr} {b : Addr} (h : b ∈ ts) : H0 K a vs ns ts b = some (.tbl #[]) := if_pos h
theorem H0_some {K : PySem.W.Frag} {a : Addr} {vs : List Value} {ns : List Int} {ts : List Addr} {b : Addr} {u : HO} (h : H0 K a vs ns ts b = some u) : (b ∈ ts ∧ u = .tbl #[]) ∨ (b = a ∧ K.lookup a = none ∧ u = .frz (scrO vs) (.lst (ns.map V.int))) := by
  unfold H0 at h
  split at h
  · rename_i q
    exact .inl ⟨q, (Option.some.inj h).symm⟩
  · split at h
    · rename_i q
      exact .inr ⟨q.1, q.2, (Option.some.inj h).symm⟩
    · cases h
section
variable {P : Program} {w : World} {K : PySem.W.Frag} {mg mb : Str → Option Value} {k : Nat} {fa a : Addr} {cs : List (Addr × Addr)} {fd : FuncData} {x : Str} {sp : Sp} {s1 : Shared} {vs : List Value} {ns : List Int}
theorem lawG (KX : K.In s1.heap) (hns : s1.heap.Ns mainGlobals mg) (hb : s1.heap.Ns builtinsNs mb) (hbb : ∀ x : Str, x ≠ "__name__" → mb x = bootBuiltins x) (hlim : s1.heap.NoLimit) (hgen : s1.gens = #[])
    (hT : ∀ p ∈ cs, s1.heap.get? p.2 = some tabO) (nT : ∀ p ∈ cs, K.lookup p.2 = none) (hC : ∀ p ∈ cs, PySem.W.CodeHd s1.heap p.1 p.2)
    (hbm : ∃ (bm : Addr) (ob : Obj), mg "__builtins__" = some (.ref bm) ∧ bm ≠ builtinsNs ∧ s1.heap.get? bm = some ob ∧ ob.cls = .type "module" ∧ ob.dict = some builtinsNs ∧ ob.data = .plain)
    (ha : s1.heap.get? a = some (scrO vs)) (hi : IntsAre vs ns) (hl : ns.length ≤ sizeLine) (hr : Room k callerA)
    (F : ∀ base : Heap, K.In base → base.Ns mainGlobals mg → (∀ p ∈ cs, TabB base mg p.1 p.2) → FnG P w K mg base k fa fd [x] sp) (hbind : ∀ (s : Shared) (u : Value), BindsTo s fd ⟨[u], []⟩ [(x, u)])
    (hsp : ∀ H : Hp, (∀ p ∈ cs, H p.2 = some (.tbl #[])) → SqL K H a (ns.map V.int) → sp [.ref a] H (fun v _ => v = .bl true) fun _ _ _ => False) :
    codeAny (model P w) callerA (.call (.ref fa) ⟨[.ref a], []⟩) (fun r s' => r = .ok (.ret (.bool true)) ∧ OldK s1.heap s'.heap ∧ s'.os = s1.os ∧ AllBare s'.gens) s1 := by
  let ts := cs.map (·.2)
  have tab : ∀ b ∈ ts, ∃ p ∈ cs, p.2 = b := fun b q => by
    obtain ⟨p, h1, h2⟩ := List.mem_map.mp q
    exact ⟨p, h1, h2⟩
  have inT : ∀ p ∈ cs, p.2 ∈ ts := fun p q => List.mem_map.mpr ⟨p, q, rfl⟩
  have tAt : ∀ b ∈ ts, s1.heap.get? b = some tabO := fun b q => by
    obtain ⟨p, h1, rfl⟩ := tab b q
    exact hT p h1
  have aT : a ∉ ts := fun q => by
    have := tAt a q
    rw [ha] at this
    exact nomatch congrArg Obj.data (Option.some.inj this)
  generalize hH : H0 K a vs ns ts = H
  have at1 : ∀ {b u}, H b = some u → (b ∈ ts ∧ u = .tbl #[]) ∨ (b = a ∧ K.lookup a = none ∧ u = .frz (scrO vs) (.lst (ns.map V.int))) := fun {b u} q => by
    rw [← hH] at q
    exact H0_some q
  have atT : ∀ p ∈ cs, H p.2 = some (.tbl #[]) := fun p q => by
    rw [← hH]
    exact H0_t (inT p q)
  -- what is neither a list of that kind nor a table is not tracked
  have free : ∀ {b : Addr} {o : Obj}, s1.heap.get? b = some o → (∀ us m, o.data ≠ .seq us m) → o.data ≠ .fields #[] → H b = none := fun {b o} e n1 n2 => by
    cases q : H b with
    | none => rfl
    | some u =>
      rcases at1 q with ⟨h1, _⟩ | ⟨h1, _⟩
      · have := tAt b h1
        rw [e] at this
        exact absurd (congrArg Obj.data (Option.some.inj this)) n2
      · rw [h1, ha] at e
        exact absurd (congrArg Obj.data (Option.some.inj e)).symm (n1 _ _)
  have ground : ∀ {b : Addr} {m : Str → Option Value}, s1.heap.Ns b m → (hidT s1.heap H).Ns b m := fun {b m} h => by
    obtain ⟨o, es, ep, e, d, r⟩ := h
    exact ⟨o, es, ep, hidT_get e (free e (fun us m z => by rw [d] at z; cases z) fun z => by rw [d] at z; cases z), d, r⟩
  have KB : K.In (hidT s1.heap H) := fun b o e => hidT_get (KX b o e) <| by
    cases q : H b with
    | none => rfl
    | some u =>
      rcases at1 q with ⟨h1, _⟩ | ⟨h1, h2, _⟩
      · obtain ⟨p, hp, rfl⟩ := tab b h1
        rw [nT p hp] at e
        cases e
      · rw [h1, h2] at e
        cases e
  have TB : ∀ p ∈ cs, TabB (hidT s1.heap H) mg p.1 p.2 := fun p hp => by
    have t1 := hT p hp
    have gne : mainGlobals ≠ p.2 := fun z => by
      obtain ⟨o, es, ep, e, hd, _⟩ := hns
      rw [z, t1] at e
      cases e
      cases hd
    refine ⟨?_, ?_, gne⟩
    · obtain ⟨o, us, fi, tf, fl, tg, inF, tx, tt, e1, r1, r2, r3, rest⟩ := hC p hp
      exact ⟨o, us, fi, tf, fl, tg, inF, tx, tt, hidT_get e1 (free e1 (fun us m z => by rw [r2] at z; cases z) fun z => by rw [r2] at z; cases z; simp at r3), r1, r2, r3, rest⟩
    · obtain ⟨bm, ob, b1, b2, b3, b4, b5, b6⟩ := hbm
      refine ⟨bm, ob, b1, b2, fun z => ?_, fun z => ?_, hidT_get b3 (free b3 (fun us m z => by rw [b6] at z; cases z) fun z => by rw [b6] at z; cases z), b4, b5, b6⟩
      · obtain ⟨o, es, ep, e, hd, _⟩ := hns
        rw [← z, b3] at e
        cases e
        rw [b6] at hd
        cases hd
      · rw [z, t1] at b3
        cases b3
        cases b6
  have rv := vals_ints hi
  have hvs := hi.length
  have sq : SqL K H a (ns.map V.int) := by
    cases q : K.lookup a with
    | none => exact .inl (.inr ⟨scrO vs, by rw [← hH]; exact (if_neg aT).trans (if_pos ⟨rfl, q⟩)⟩)
    | some o =>
      have e := KX a o q
      rw [ha] at e
      cases e
      exact .inr ⟨scrO vs, vs.toArray, _, q, rfl, rfl, rfl, by rw [List.size_toArray, hvs]; exact hl, by simpa using rv⟩
  have hok : HOk P w H s1.heap := fun b u q => by
    rcases at1 q with ⟨h1, rfl⟩ | ⟨rfl, _, rfl⟩
    · exact tAt b h1
    · exact ⟨ha, by rw [List.length_map]; exact hl, vs, _, rv, ha⟩
  have env : Env0 P w K mg (hidT s1.heap H) callerA [] s1 H := ⟨rfl, ⟨KB, ground hns, ⟨mb, ground hb, hbb⟩, (let ⟨mc, h1, h2⟩ := hlim; ⟨mc, ground h1, h2⟩)⟩, fun b o e => of_hidT e, Nat.le_of_eq (hidT_size _ _), trivial, fun b z => (nomatch z), hok, .of_eq hgen⟩
  refine codeAny_mono ((F _ KB (ground hns) TB).run callerA [] s1 H ⟨[.ref a], []⟩ [.ref a] [.ref a] _ _ hr rfl env (hbind s1 (.ref a)) (.cons rfl .nil) (hsp H atT sq)) fun r s' h => ?_
  match r, h with
  | .ok (.ret u), h =>
    obtain ⟨v, H', os, bare, un, hok', r', q⟩ := h
    obtain rfl : v = .bl true := q
    obtain rfl : u = Value.bool true := r'
    have more : ∀ b ∈ ts, ∃ m : Array Value, s'.heap.get? b = some { cls := .none, data := .fields m } := fun b hb => by
      obtain ⟨p, hp, rfl⟩ := tab b hb
      obtain ⟨m, z⟩ := un.tbls _ #[] (atT p hp)
      exact ⟨_, hok' _ _ z⟩
    have stay : ∀ b o, b ∉ ts → s1.heap.get? b = some o → s'.heap.get? b = some o := fun b o nb e => by
      cases q : H b with
      | none => exact un.keep b o e q (fun z => (nomatch z)) (fun z => (nomatch z))
      | some u =>
        rcases at1 q with ⟨h1, _⟩ | ⟨_, _, rfl⟩
        · exact absurd h1 nb
        · have e1 := (hok b _ q).1
          have e2 := (hok' b _ (un.frzs b _ _ q)).1
          rw [e1] at e
          cases e
          exact e2
    refine ⟨rfl, ⟨fun b o e => ?_, fun b o e => ?_⟩, os, bare⟩
    · by_cases hbt : b ∈ ts
      · obtain ⟨m, hm⟩ := more b hbt
        obtain ⟨p, hp, rfl⟩ := tab b hbt
        have t1 := hT p hp
        rw [t1] at e
        cases e
        exact .inr (.inl ⟨((hC p hp).tab t1).isCodeTable, rfl, #[], m, rfl, by rw [Array.empty_append]; exact hm⟩)
      · exact .inl (stay b o hbt e)
    · by_cases hbt : b ∈ ts
      · exact let ⟨m, hm⟩ := more b hbt; ⟨_, hm⟩
      · exact ⟨o, stay b o hbt e⟩
/-- what the end asks, at the head's heap -/
def LawAtG (l : PySem.W.OpenLaw) (w : World) (K : PySem.W.Frag) (k n : Nat) (x : Str) (mg : Str → Option Value) (fa : Addr) (h : Heap) : Prop :=
  ∃ (fd : FuncData) (cs : List (Addr × Addr)) (sp : Sp), (∀ p ∈ cs, h.get? p.2 = some tabO) ∧ (∀ p ∈ cs, K.lookup p.2 = none) ∧ (∀ p ∈ cs, PySem.W.CodeHd h p.1 p.2) ∧ (∀ (s : Shared) (u : Value), BindsTo s fd ⟨[u], []⟩ [(x, u)]) ∧
    (∀ (H : Hp) (a : Addr) (ns : List Int), ns.length ≤ n → (∀ z ∈ ns, Builtin.Int.intBits z ≤ 1048576) → (∀ p ∈ cs, H p.2 = some (.tbl #[])) → SqL K H a (ns.map V.int) → sp [.ref a] H (fun v _ => v = .bl true) fun _ _ _ => False) ∧
    ∀ base : Heap, K.In base → base.Ns mainGlobals mg → (∀ p ∈ cs, TabB base mg p.1 p.2) → FnG l.prog w K mg base k fa fd [x] sp
end
end Gd
namespace Gd
set_option autoImplicit false
open PySem PySem.Spec PyProof.Rows L2 LamX My Evl
/-! ### how long what repr tells is -/
section
variable {te : TE} {σ : L2.St} {B : Hp} {K : PySem.W.Frag} {d : PyData}
/-- repr of what is known -/
theorem ev_repr (h : EvP te σ B (IsD K d)) (hs : d.showable = true) (hp : d.depth ≤ 60) (hz : d.shown.length ≤ 1000000) : Ev (tCB (rRepr K) (tCons te tNil)) σ B (.str d.shown) := fun H1 a Q k =>
  h H1 a _ fun v B2 H2 g x => ⟨v, d, rfl, dp_m g.c x, hs, hp, hz, k H2 g.a⟩
end
end Gd
namespace Gd
set_option autoImplicit false
open PySem PySem.Spec PyProof.Rows L2 LamX My
section
variable {X : Cx} {k n : Nat} {f : Addr} {fd : FuncData} {ps ks : List Str} {sp : Sp} {E : XK} {x : Str} {p pos : Pos} {kws : List Keyword} {tk : TA} {g : List Value → List Value → List Value} {gV : List V → List V → List V}
end
section
variable {K : PySem.W.Frag} {x qual : Str} {st : Stmt} {f : Addr} {fd : FuncData} {ps ks : List Str} {n : Nat}
end
end Gd
namespace Gd
set_option autoImplicit false
open PySem PySem.Spec PyProof.Rows L2 My HT
section
variable {prog : Program} {w : World} {A : Around} {E : Value → Shared → Prop} {s : Shared}
end
/-! ### t[::-1] of a tuple -/
end Gd
namespace Nd
set_option autoImplicit false
open PySem PySem.Spec PyProof.Rows L2 My
/-! ### data as keys -/
mutual
def nk : PyData → NestedKey
  | .none => .none
  | .bool b => .num (if b = true then 1 else 0)
  | .int i => .num i
  | .str x => .text x
  | .tuple ds => .tup (nkAll ds)
  | .list _ => .none
  | .dict _ => .none
def nkAll : List PyData → List NestedKey
  | [] => []
  | d :: ds => nk d :: nkAll ds
end
mutual
def keyish : PyData → Bool
  | .none => true
  | .bool _ => true
  | .int _ => true
  | .str _ => true
  | .tuple ds => keyishAll ds
  | .list _ => false
  | .dict _ => false
def keyishAll : List PyData → Bool
  | [] => true
  | d :: ds => keyish d && keyishAll ds
end
section
variable {X : Cx} {pins : List (Addr × Obj)} {σ : L2.St} {H : Hp} {s : Shared}
mutual
theorem dp_nk (I : Inv X pins σ H s) : ∀ {d : PyData} {v : V} {u : Value}, Dp X.K H v d → keyish d = true → RelV v u → NestedIs s.heap (nk d) u
  | _, _, u, .non, _, r => by
    obtain rfl : u = Value.none := r
    simp only [nk]
    exact .none
  | _, _, u, .bl b, _, r => by
    obtain rfl : u = Value.bool b := r
    simp only [nk]
    exact .bool rfl
  | _, _, u, .int i, _, r => by
    obtain ⟨t, rfl⟩ := r
    simp only [nk]
    exact .int i t
  | _, _, u, .str x, _, r => by
    obtain ⟨t, rfl⟩ := r
    simp only [nk]
    exact .text x t
  | _, _, u, .lst _ _, h, _ => by simp [keyish] at h
  | _, _, u, .tup (a := a) x y, h, r => by
    obtain rfl : u = Value.ref a := r
    obtain ⟨its, rv, ⟨o, h1, h2, n, h3⟩, _⟩ := I.tuple x
    simp only [nk]
    simp only [keyish] at h
    exact .tup h1 h2 h3 (by simpa using dps_nk I y h rv)
theorem dps_nk (I : Inv X pins σ H s) : ∀ {ds : List PyData} {vs : List V} {us : List Value}, DpAll X.K H vs ds → keyishAll ds = true → Vals vs us → NestedAll s.heap (nkAll ds) us
  | _, _, [], .nil, _, .nil => by
    simp only [nkAll]
    exact .nil
  | _, _, _ :: _, .cons a b, h, .cons r1 r2 => by
    simp only [keyishAll, Bool.and_eq_true] at h
    simp only [nkAll]
    exact .cons (dp_nk I a h.1 r1) (dps_nk I b h.2 r2)
end
end
/-! ### a dict by such keys -/
abbrev NV := NestedKey × Addr × V
def lay : List NV → List Value → List (NestedKey × Addr × Value)
  | [], _ => []
  | _ :: _, [] => []
  | x :: xs, u :: us => (x.1, x.2.1, u) :: lay xs us
/-- what stands at a key -/
def look (xs : List NV) (k : NestedKey) : Option V := (xs.find? fun x => decide (x.1 = k)).map (·.2.2)
def hasN (xs : List NV) (k : NestedKey) : Bool := xs.any fun x => decide (x.1 = k)
def putN (xs : List NV) (k : NestedKey) (a : Addr) (v : V) : List NV := if hasN xs k then xs.map fun x => if x.1 = k then (x.1, x.2.1, v) else x else xs ++ [(k, a, v)]
def DNf (P : Program) (w : World) (d : Addr) (xs : List NV) : Heap → Prop := fun h => (d == sysModules) = false ∧ xs.length ≤ sizeLine ∧ ∃ (us : List Value) (o : Obj) (es : Array DictEntry) (ep : Nat), Vals (xs.map (·.2.2)) us ∧ h.get? d = some o ∧ o.ExactDict ∧ o.data = .dict es ep ∧ es.toList = (lay xs us).map (entryOfKey (nestedKind P w)) ∧ (xs.map (·.1)).Nodup
/-- a dict by nested keys, in the order of insertion -/
def DN (P : Program) (w : World) (d : Addr) (xs : List NV) : HO := .ext (DNf P w d xs)
/-- the object at a is such a key -/
def KeyAt (K : PySem.W.Frag) (H : Hp) (a : Addr) (k : NestedKey) : Prop := ∃ d, Dp K H (.ref a) d ∧ keyish d = true ∧ nk d = k ∧ k.depth ≤ 8
def KeysOk (K : PySem.W.Frag) (H : Hp) (xs : List NV) : Prop := ∀ x ∈ xs, KeyAt K H x.2.1 x.1
theorem KeyAt.ex {K : PySem.W.Frag} {H H' : Hp} {a : Addr} {k : NestedKey} (h : KeyAt K H a k) (e : Evl.Ex H H') : KeyAt K H' a k := let ⟨d, x, y⟩ := h; ⟨d, dp_m e x, y⟩
theorem KeysOk.ex {K : PySem.W.Frag} {H H' : Hp} {xs : List NV} (h : KeysOk K H xs) (e : Evl.Ex H H') : KeysOk K H' xs := fun x hx => (h x hx).ex e
section
variable {X : Cx} {pins : List (Addr × Obj)} {σ : L2.St} {H : Hp} {s : Shared} {d a : Addr} {xs : List NV} {k : NestedKey}
end
end Nd
namespace Nd
set_option autoImplicit false
open PySem PySem.Spec PyProof.Rows L2 My Evl
section
variable {X : Cx}
end
section
variable {te ta tb : TE} {σ : L2.St} {B : Hp} {K : PySem.W.Frag} {d e : PyData}
end
end Nd
namespace Nd
set_option autoImplicit false
open PySem PySem.Spec PyProof.Rows L2 My Evl
/-! ### enumerate of a tuple -/
/-- an enumerate object over the iterator n, nothing drawn yet -/
abbrev enO (n : Addr) : Obj := { cls := .type "enumerate", data := .fields #[.none, .bool false, .ref n, rawInt 0, .none, .none] }
set_option maxHeartbeats 1000000 in
theorem en_new {v : Value} {o : Obj} {G : Heap → Prop} (B : Begins v o G) :
    Meets (Builtin.«enumerate.__new__» ⟨[.type "enumerate", v], []⟩) (fun _ R s => G s.heap ∧ R (.ok (.ret (.ref (s.heap.push o).objs.size))) { s with heap := (s.heap.push o).push (enO s.heap.objs.size) }) := .of_wp fun prog w A R s h => by
  obtain ⟨hp, gg, dd, tt, oo⟩ := s
  obtain ⟨h1, h2⟩ := h
  have sb := sub_enumerate
  have q1 : ∀ {A' : Around} {E Q : Value → Shared → Prop}, Q (.ref hp.objs.size) ⟨hp.push o, gg, dd, tt, oo⟩ → wpAny (model prog w) A' (pyIter v) Q E ⟨hp, gg, dd, tt, oo⟩ := fun q => B.iter prog w _ _ ⟨hp, gg, dd, tt, oo⟩ _ h1 q
  wp_walk using q1
  refine wpAny_stack_any fun st => wpAny_pure ?_
  split
  · rename_i c _ _ _ _ _
    cases (c == Value.type "enumerate") <;> (wp_walk using q1; exact ⟨_, rfl, h2⟩)
  · wp_walk using q1
    exact ⟨_, rfl, h2⟩
section
variable {te : TE} {σ : L2.St} {B H : Hp} {ps : List Pr} {K : PySem.W.Frag} {D : Ends} {ta : TA}
end
end Nd
namespace Nd
set_option autoImplicit false
open PySem PySem.W L2 My Evl
/-! ### monomials, fractions, polynomials, chains -/
abbrev Mo := List (Dv × Int)
abbrev Fr := Int × Int
abbrev Po := List (Mo × Fr)
def pwD (x : Dv × Int) : PyData := .tuple [x.1.D, .int x.2]
def moD (m : Mo) : PyData := .tuple (m.map pwD)
def frD (f : Fr) : PyData := .tuple [.int f.1, .int f.2]
def pwP (K : PySem.W.Frag) (x : Dv × Int) : Pr := TuP K [DvP x.1, IsV (.int x.2)]
def moP (K : PySem.W.Frag) (m : Mo) : Pr := TuP K (m.map (pwP K))
def frP (K : PySem.W.Frag) (f : Fr) : Pr := TuP K [IsV (.int f.1), IsV (.int f.2)]
section
variable {K : PySem.W.Frag}
theorem to_dv (u : Dv) : To K (DvP u) u.D := fun _ _ h => dv_d h
theorem to_pw (x : Dv × Int) : To K (pwP K x) (pwD x) := to_tup (.cons (to_dv x.1) (.cons to_int .nil))
theorem to_mo (m : Mo) : To K (moP K m) (moD m) := to_tup (toAll_map m fun x => to_pw x)
end
/-! ### which are good -/
/-- each is less than what follows it, as Python compares -/
def Ups {α : Type} (f : α → PyData) (l : List α) : Prop := ∀ i (h : i + 1 < l.length), dataLt (f (l[i]'(Nat.lt_of_succ_lt h))) (f l[i + 1]) = true
structure MoOk (r : Rk) (m : Mo) : Prop where
  of : ∀ x ∈ m, x.1.Of r ∧ 0 < x.2
  up : Ups (fun x => x.1.D) m
structure FrOk (f : Fr) : Prop where
  bot : 0 < f.2
  low : Nat.gcd f.1.natAbs f.2.natAbs = 1
structure PoOk (r : Rk) (p : Po) : Prop where
  of : ∀ t ∈ p, MoOk r t.1 ∧ FrOk t.2 ∧ t.2.1 ≠ 0
  up : Ups (fun t => moD t.1) p
theorem alike_dv (u v : Dv) : alike u.D v.D = true := by simp [Dv.D, alike, alikeAll]
theorem alike_pw (x y : Dv × Int) : alike (pwD x) (pwD y) = true := by
  unfold pwD
  rw [alike, alikeAll, alikeAll, alikeAll, alike_dv]
  simp [alike]
theorem alike_map {α : Type} {f : α → PyData} (h : ∀ x y, alike (f x) (f y) = true) : ∀ l m : List α, alikeAll (l.map f) (m.map f) = true
  | [], _ => by rw [List.map_nil, alikeAll]
  | _ :: _, [] => by rw [List.map_nil, List.map_cons, alikeAll]
  | x :: l, y :: m => by rw [List.map_cons, List.map_cons, alikeAll, h x y, alike_map h l m, Bool.and_self]
theorem alike_mo (m n : Mo) : alike (moD m) (moD n) = true := by
  unfold moD
  rw [alike]
  exact alike_map alike_pw m n
section
variable {te ta tb : TE} {σ : L2.St} {B H : Hp} {ps : List Pr} {K : PySem.W.Frag}
theorem ev_gcd {i j : Int} (ha : Ev ta σ B (.int i)) (hb : Ev tb σ B (.int j)) : Ev (tCB rGcd (tCons ta (tCons tb tNil))) σ B (.int ((Nat.gcd i.natAbs j.natAbs : Nat) : Int)) := fun H1 e Q q =>
  ha H1 e _ fun H2 e2 => hb H2 (e.trans e2) _ fun H3 e3 => ⟨i, j, rfl, q H3 (e2.trans e3)⟩
end
/-! ### promises of defs -/
end Nd
namespace Nd
set_option autoImplicit false
open PySem PySem.Spec PySem.W PySem.Calls PyProof.Rows L2 My Evl
section
variable {X : Cx} {pins : List (Addr × Obj)} {σ : L2.St} {H : Hp} {s : Shared} {A : Around} {E : Value → Shared → Prop}
end
end Nd
namespace Nd
set_option autoImplicit false
open PySem PySem.W L2 My Evl
/-! ### derivatives in order, as Python compares -/
def dvs (p : Po) : List Dv := p.flatMap fun t => t.1.map (·.1)
/-! ### derived of -/
section
variable {te ta tb : TE} {σ : L2.St} {B H : Hp} {ps : List Pr} {K : PySem.W.Frag} {t : TA}
end
end Nd
namespace Nd
set_option autoImplicit false
open PySem PySem.Spec PyProof.Rows L2 My Evl
section
variable {X : Cx} {pins : List (Addr × Obj)} {σ : L2.St} {H : Hp} {s : Shared}
theorem put_len {xs : List NV} {k : NestedKey} {a : Addr} {v : V} : (putN xs k a v).length ≤ xs.length + 1 := by
  unfold putN
  split
  · rw [List.length_map]
    exact Nat.le_succ _
  · rw [List.length_append]
    exact Nat.le_refl _
end
/-! ### derivatives as keys -/
theorem nk_dv (u : Dv) : nk u.D = .tup [.text u.n, .num u.i, .num u.j] := by simp [Dv.D, nk, nkAll]
theorem nk_inj {u v : Dv} (h : nk u.D = nk v.D) : u = v := by
  rw [nk_dv, nk_dv] at h
  injection h with h
  injection h with h1 h
  injection h with h2 h
  injection h with h3 _
  injection h1 with h1
  injection h2 with h2
  injection h3 with h3
  cases u
  cases v
  simp_all
structure KeyL (us : List Dv) (xs : List NV) (B : Hp) : Prop where
  keys : xs.map (·.1) = us.map fun u => nk u.D
  refs : AllP (us.map DvP) (xs.map fun x => V.ref x.2.1) B
theorem KeyL.has {us : List Dv} {xs : List NV} {B : Hp} (h : KeyL us xs B) (u : Dv) : hasN xs (nk u.D) = decide (u ∈ us) := by
  have e : hasN xs (nk u.D) = (xs.map (·.1)).any fun k => decide (k = nk u.D) := by
    unfold hasN
    rw [List.any_map]
    rfl
  rw [e, h.keys, List.any_map]
  by_cases hm : u ∈ us
  · rw [decide_eq_true hm, List.any_eq_true]
    exact ⟨u, hm, by simp⟩
  · rw [decide_eq_false hm, List.any_eq_false]
    intro v hv
    simp only [Function.comp, decide_eq_true_eq]
    intro z
    exact hm (nk_inj z ▸ hv)
theorem KeyL.put {us : List Dv} {xs : List NV} {B : Hp} {u : Dv} {a : Addr} {v : V} (h : KeyL us xs B) (ha : (DvP u).P (.ref a) B) : KeyL (addD us u) (putN xs (nk u.D) a v) B := by
  unfold addD putN
  rw [h.has u]
  by_cases hm : u ∈ us
  · rw [if_pos hm, decide_eq_true hm, if_pos rfl]
    refine ⟨?_, ?_⟩
    · rw [← h.keys, List.map_map]
      refine List.map_congr_left fun x _ => ?_
      show (if x.1 = nk u.D then (x.1, x.2.1, v) else x).1 = x.1
      split <;> rfl
    · have : ((xs.map fun x => if x.1 = nk u.D then (x.1, x.2.1, v) else x).map fun x => V.ref x.2.1) = xs.map fun x => V.ref x.2.1 := by
        rw [List.map_map]
        refine List.map_congr_left fun x _ => ?_
        show V.ref (if x.1 = nk u.D then (x.1, x.2.1, v) else x).2.1 = V.ref x.2.1
        split <;> rfl
      rw [this]
      exact h.refs
  · rw [if_neg hm, decide_eq_false hm, if_neg Bool.false_ne_true]
    refine ⟨?_, ?_⟩
    · rw [List.map_append, List.map_append, h.keys]
      rfl
    · rw [List.map_append, List.map_append]
      exact h.refs.app ⟨ha, trivial⟩
theorem deep_nk (u : Dv) : (nk u.D).depth ≤ 8 := by
  rw [nk_dv]
  simp [NestedKey.depth, NestedKey.depthAll]
theorem key_dv {K : PySem.W.Frag} {H : Hp} {u : Dv} {a : Addr} (h : (DvP u).P (.ref a) H) : KeyAt K H a (nk u.D) := ⟨u.D, dv_d h, by simp [Dv.D, keyish, keyishAll], rfl, deep_nk u⟩
theorem KeyL.ok {K : PySem.W.Frag} {us : List Dv} {xs : List NV} {B H : Hp} (h : KeyL us xs B) (e : Evl.Ex B H) : KeysOk K H xs := fun x hx => by
  obtain ⟨i, hi, rfl⟩ := List.mem_iff_getElem.mp hx
  have hl : xs.length = us.length := by simpa using congrArg List.length h.keys
  have h1 := h.refs.m e
  obtain ⟨p, hp, k⟩ := h1.get (i := i) (v := V.ref xs[i].2.1) (by rw [List.getElem?_map, List.getElem?_eq_getElem hi]; rfl)
  rw [List.getElem?_map, List.getElem?_eq_getElem (by omega : i < us.length)] at hp
  obtain rfl : DvP us[i] = p := Option.some.inj hp
  have hk : xs[i].1 = nk us[i].D := by
    have := congrArg (fun l => l[i]?) h.keys
    simp only [List.getElem?_map, List.getElem?_eq_getElem hi, List.getElem?_eq_getElem (by omega : i < us.length)] at this
    exact Option.some.inj this
  rw [hk]
  exact key_dv k
theorem KeyL.len {us : List Dv} {xs : List NV} {B : Hp} (h : KeyL us xs B) : xs.length = us.length := by simpa using congrArg List.length h.keys
end Nd
namespace Nd
set_option autoImplicit false
open PySem PySem.W L2 My Evl
/-! ### a list under way: made at H0, filled by append and extend -/
structure AccAt (B H0 : Hp) (d : Addr) (ps : List Pr) (Bi H : Hp) : Prop where
  g : Gr B H0 Bi (wo d H)
  at_ : ∃ xs, H d = some (.lst xs) ∧ AllP ps xs Bi
section
variable {B H0 Bi B2 H H2 : Hp} {d : Addr} {ps qs : List Pr} {p : Pr} {K : PySem.W.Frag} {σ : L2.St} {D : Ends} {te : TE} {i : Nat}
theorem acc_new (e : Ex B H) (hd : H d = none) : AccAt B H d [] B (upd H d (.lst [])) := ⟨by rw [wo_new hd]; exact Gr.refl e, [], upd_same, trivial⟩
theorem AccAt.ex (A : AccAt B H0 d ps Bi H) : Ex Bi H := A.g.c.trans wo_ex
theorem AccAt.on (A : AccAt B H0 d ps Bi H) : H d ≠ none := by
  obtain ⟨xs, h, _⟩ := A.at_
  rw [h]
  exact fun z => nomatch z
theorem AccAt.step (A : AccAt B H0 d ps Bi H) (k : Gr Bi H B2 H2) : AccAt B H0 d ps B2 H2 := by
  obtain ⟨xs, h, al⟩ := A.at_
  exact ⟨A.g.side A.on k, xs, k.a _ _ h, al.m k.b⟩
theorem AccAt.fin (A : AccAt B H0 d ps Bi H) (h0 : H0 d = none) : ∃ B', Gr B H0 B' H ∧ (LsP ps).P (.ref d) B' := by
  obtain ⟨xs, hd, al⟩ := A.at_
  have hB : Bi d = none := wo_none A.g.c
  refine ⟨upd Bi d (.lst xs), ⟨A.g.a.trans wo_ex, A.g.b.trans (Ex.new hB), fun b o e => ?_, fun x hb hh => ?_, fun z b qs q => ?_⟩, d, xs, rfl, upd_same, al.m (Ex.new hB)⟩
  · by_cases n : b = d
    · subst n
      rw [upd_same] at e
      rw [hd]
      exact e
    · rw [upd_ne n] at e
      exact A.g.c.trans wo_ex _ _ e
  · have n : x ≠ d := fun z => hh (by rw [z]; exact h0)
    rw [upd_ne n]
    exact A.g.d x hb hh
  · by_cases n : b = d
    · subst n
      rw [upd_same] at q
      cases q
    · rw [upd_ne n] at q
      exact A.g.e z b qs q
/-- told.append(e) -/
theorem ps_app (hs : σ[i]? = some (some (.ref d))) (A : AccAt B H0 d ps Bi H) (he : EvP te σ Bi p) (hl : ps.length < 100000) (k : ∀ B2 H2, Ex Bi B2 → AccAt B H0 d (ps ++ [p]) B2 H2 → D.nx σ H2) :
    tDrop (tBM K "list" rAppend (tVar i) (tCons te tNil)) D σ H := by
  obtain ⟨xs, hd, al⟩ := A.at_
  refine ⟨.ref d, hs, ?_, ?_⟩
  · exact .inl ⟨rfl, xs, sq_of hd⟩
  refine he H A.ex _ fun v B2 H2 g pv => ?_
  have hd2 := g.a _ _ hd
  have := al.len
  refine ⟨d, xs, v, rfl, rfl, hd2, sz_lt (by omega), k B2 _ g.b ⟨?_, xs ++ [v], upd_same, (al.m g.b).app ⟨pv, trivial⟩⟩⟩
  rw [wo_upd]
  exact A.g.side A.on g
end
section
variable {B H0 Bi H : Hp} {d : Addr} {ps qs : List Pr} {K : PySem.W.Frag} {σ : L2.St} {D : Ends} {te : TE} {i : Nat}
end
section
variable {te : TE} {σ : L2.St} {B : Hp} {K : PySem.W.Frag} {x : Int} {xs : List Int}
end
end Nd
namespace Nd
set_option autoImplicit false
open PySem PySem.W L2 My Evl
/-! ### comprehensions of two fors -/
end Nd
namespace Nd
set_option autoImplicit false
open PySem PySem.W L2 My Evl LamX NdefX
/-- a def that makes a lambda: its code object is known -/
structure FunC (K : PySem.W.Frag) (x qual : Str) (st : Stmt) (c f : Addr) (fd : FuncData) : Prop where
  ex : ∃ (oc : Value) (od : Option Addr) (kV doc pm : Value) (an : Option Addr) (ct : Value) (osl : Array (Option Value)),
    fd = PySem.W.fnOf x qual (defArgs st) (defBody st) (defScope st) .none kV doc pm an (.ref c) ct ∧ K.lookup f = some ⟨oc, od, .func fd, osl⟩ ∧ PySem.W.codeIn K (.ref c) qual = true
theorem FunC.ok {P : Program} {w : World} {K : PySem.W.Frag} {mg : Str → Option Value} {base : Heap} {x qual : Str} {st : Stmt} {c f : Addr} {fd : FuncData} {N ps : List Str} {k : Nat} {sp : Sp} (F : FunC K x qual st c f fd) (S : FnScope N ps (defScope st)) (len : ∀ vs H Q E, sp vs H Q E → vs.length = ps.length)
    (hbody : ∀ (A : Around) (outer : List Env) (s : Shared) (H : Hp) (vs : List V) (Q : VK) (E : XK), Room k (A.deeper (PyProof.Rows.envOfC qual (defScope st) s.heap.objs.size f (.ref c))) → sp vs H Q E →
      ∃ t, PSs (cxOf CX0 P w K mg base N qual (defScope st) f (.ref c) A outer s H E).nox (defBody st) t ∧ t { nx := fun _ H' => Q .non H', rt := Q } (L2.start N vs) H) : FnOk P w K mg base CX0 (k + 1) f fd ps sp := by
  obtain ⟨oc, od, kV, doc, pm, an, ct, osl, e, lk, hcd⟩ := F.ex
  subst e
  exact fn_of lk hcd S len fun A outer s H vs Q E hr hsp => by
    obtain ⟨t, h1, h2⟩ := hbody A outer s H vs Q E hr hsp
    exact ⟨t, h1.nox, h2⟩
/-- what is known in B of a heap H with tables T -/
structure Kn (T : List (Addr × Str)) (B H : Hp) : Prop where
  e : Ex B H
  n : NoTab B
  t : Tabs T H
theorem Kn.next {T : List (Addr × Str)} {B H H2 : Hp} (k : Kn T B H) (e : ExtN H H2) (t : Tabs T H2) : Kn T B H2 := ⟨exN_ex k.e k.n e, k.n, t⟩
theorem Kn.gr {T : List (Addr × Str)} {B H B2 H2 : Hp} (k : Kn T B H) (g : Gr B H B2 H2) : Kn T B2 H2 := ⟨g.c, g.e k.n, k.t.ext g.a⟩
theorem Kn.ex {T : List (Addr × Str)} {B H H2 : Hp} (k : Kn T B H) (e : Ex H H2) : Kn T B H2 := ⟨k.e.trans e, k.n, k.t.ext e⟩
/-- all stays but the tables; what is known of B' leans on nothing else that stood in H -/
structure GT (T : List (Addr × Str)) (B H B' H' : Hp) : Prop where
  a : ExtN H H'
  b : Ex B B'
  c : Ex B' H'
  f : ∀ x o, B x = none → H x = some o → (∀ ps, o ≠ .tbl ps) → B' x = none
  e : NoTab B → NoTab B'
  t : Tabs T H → Tabs T H'
section
variable {T : List (Addr × Str)} {B H B1 H1 B2 H2 : Hp}
theorem GT.trans (g : GT T B H B1 H1) (k : GT T B1 H1 B2 H2) : GT T B H B2 H2 :=
  ⟨g.a.trans k.a, g.b.trans k.b, k.c, fun x o hb hh n => k.f x o (g.f x o hb hh n) (g.a x o hh n) n, fun z => k.e (g.e z), fun z => k.t (g.t z)⟩
theorem GT.gr (g : Gr B H B1 H1) : GT T B H B1 H1 := ⟨exN_of g.a, g.b, g.c, fun x o hb hh _ => g.d x hb (by rw [hh]; exact fun z => nomatch z), g.e, fun z => z.ext g.a⟩
theorem Kn.gt (k : Kn T B H) (g : GT T B H B1 H1) : Kn T B1 H1 := ⟨g.c, g.e k.n, g.t k.t⟩
end
end Nd
namespace Nd
set_option autoImplicit false
open PySem PySem.Spec PySem.W PySem.Calls PyProof.Rows L2 My Evl
section
variable {X : Cx}
end
end Nd
namespace Nd
set_option autoImplicit false
open PySem PySem.W L2 My Evl PyProof.Rows
/-! ### sorting by data -/
/-! ### monomials as data -/
theorem eqv_dv0 (u v : Dv) : PyData.eqv u.D v.D = decide (u = v) := by
  obtain ⟨n, i, j⟩ := u
  obtain ⟨n', i', j'⟩ := v
  unfold Dv.D
  rw [PyData.eqv, Bool.eq_iff_iff]
  simp [PyData.eqvAll, PyData.eqv]
theorem eqv_pw (x y : Dv × Int) : PyData.eqv (pwD x) (pwD y) = decide (x = y) := by
  obtain ⟨u, i⟩ := x
  obtain ⟨v, j⟩ := y
  unfold pwD
  rw [PyData.eqv, PyData.eqvAll, PyData.eqvAll, PyData.eqvAll, eqv_dv0, PyData.eqv, Bool.eq_iff_iff]
  simp
theorem eqv_pws : ∀ m n : Mo, PyData.eqvAll (m.map pwD) (n.map pwD) = decide (m = n)
  | [], [] => by simp [PyData.eqvAll]
  | [], y :: n => by simp [PyData.eqvAll]
  | x :: m, [] => by simp [PyData.eqvAll]
  | x :: m, y :: n => by
    rw [List.map_cons, List.map_cons, PyData.eqvAll, eqv_pw, eqv_pws m n, Bool.eq_iff_iff]
    simp
theorem eqv_mo (m n : Mo) : PyData.eqv (moD m) (moD n) = decide (m = n) := by
  unfold moD
  rw [PyData.eqv]
  exact eqv_pws m n
theorem dlt_ne {x y : PyData} (h : alike x y = true) (e : PyData.eqv x y = false) : dataLt x y = true ∨ dataLt y x = true := by
  cases a : dataLt x y with
  | true => exact .inl rfl
  | false =>
    cases b : dataLt y x with
    | true => exact .inr rfl
    | false =>
      exfalso
      have t : keyToks x = keyToks y := lex_total _ _ a b
      have := (toks_eqv x y h).2 e [.inl 0] [.inl 1]
      rw [t, lex_pre, lex_irrefl] at this
      revert this
      decide
/-! ### monomials as keys -/
theorem nk_pw (x : Dv × Int) : nk (pwD x) = .tup [nk x.1.D, .num x.2] := by simp [pwD, nk, nkAll]
theorem nkAll_inj : ∀ {m n : Mo}, nkAll (m.map pwD) = nkAll (n.map pwD) → m = n
  | [], [], _ => rfl
  | [], _ :: _, h => by simp [nkAll] at h
  | _ :: _, [], h => by simp [nkAll] at h
  | x :: m, y :: n, h => by
    rw [List.map_cons, List.map_cons, nkAll, nkAll] at h
    injection h with h1 h2
    rw [nk_pw, nk_pw] at h1
    injection h1 with h1
    injection h1 with h3 h4
    injection h4 with h4 _
    injection h4 with h4
    obtain ⟨u, i⟩ := x
    obtain ⟨v, j⟩ := y
    have := nk_inj h3
    simp_all
    exact nkAll_inj h2
theorem nkm_inj {m n : Mo} (h : nk (moD m) = nk (moD n)) : m = n := by
  unfold moD at h
  rw [nk, nk] at h
  injection h with h
  exact nkAll_inj h
theorem keyish_mo (m : Mo) : keyish (moD m) = true := by
  unfold moD
  rw [keyish]
  induction m with
  | nil => rfl
  | cons x m ih =>
    rw [List.map_cons, keyishAll, ih]
    simp [pwD, keyish, keyishAll, Dv.D]
theorem deep_nkm (m : Mo) : (nk (moD m)).depth ≤ 8 := by
  have : ∀ m : Mo, NestedKey.depthAll (nkAll (m.map pwD)) ≤ 5 := by
    intro m
    induction m with
    | nil => simp [nkAll, NestedKey.depthAll]
    | cons x m ih =>
      rw [List.map_cons, nkAll, NestedKey.depthAll, nk_pw, nk_dv]
      simp [NestedKey.depth, NestedKey.depthAll]
      omega
  unfold moD
  rw [nk, NestedKey.depth]
  have := this m
  omega
/-- what a dict from monomials to fractions holds, as the dict has it -/
def KM (K : PySem.W.Frag) : Po → List NV → Hp → Prop
  | [], [], _ => True
  | z :: zs, x :: xs, B => (x.1 = nk (moD z.1) ∧ (moP K z.1).P (.ref x.2.1) B ∧ (frP K z.2).P x.2.2 B) ∧ KM K zs xs B
  | [], _ :: _, _ => False
  | _ :: _, [], _ => False
def putZ (zs : Po) (m : Mo) (f : Fr) : Po := if m ∈ zs.map (·.1) then zs.map fun z => if z.1 = m then (z.1, f) else z else zs ++ [(m, f)]
section
variable {K : PySem.W.Frag} {B B' H : Hp}
theorem KM.m (e : Ex B B') : ∀ {zs : Po} {xs : List NV}, KM K zs xs B → KM K zs xs B'
  | [], [], _ => trivial
  | _ :: _, _ :: _, h => ⟨⟨h.1.1, (moP K _).m e h.1.2.1, (frP K _).m e h.1.2.2⟩, KM.m e h.2⟩
theorem KM.len : ∀ {zs : Po} {xs : List NV}, KM K zs xs B → xs.length = zs.length
  | [], [], _ => rfl
  | _ :: _, _ :: _, h => congrArg Nat.succ (KM.len h.2)
theorem KM.at : ∀ {zs : Po} {xs : List NV} {i : Nat} {x : NV}, KM K zs xs B → xs[i]? = some x → ∃ z, zs[i]? = some z ∧ x.1 = nk (moD z.1) ∧ (moP K z.1).P (.ref x.2.1) B ∧ (frP K z.2).P x.2.2 B
  | [], [], i, x, _, h => by simp at h
  | z :: _, y :: _, 0, x, h, e => by
    obtain rfl := Option.some.inj e
    exact ⟨z, rfl, h.1⟩
  | _ :: _, _ :: _, i + 1, x, h, e => KM.at (i := i) h.2 e
theorem KM.has (m : Mo) : ∀ {zs : Po} {xs : List NV}, KM K zs xs B → hasN xs (nk (moD m)) = decide (m ∈ zs.map (·.1))
  | [], [], _ => by simp [hasN]
  | z :: zs, x :: xs, h => by
    have ih := KM.has m h.2
    unfold hasN at *
    rw [List.any_cons, ih, h.1.1, List.map_cons, Bool.eq_iff_iff]
    simp only [Bool.or_eq_true, decide_eq_true_eq, List.mem_cons]
    constructor
    · rintro (a | a)
      · exact .inl (nkm_inj a).symm
      · exact .inr a
    · rintro (a | a)
      · exact .inl (by rw [a])
      · exact .inr a
theorem KM.app : ∀ {zs ys : Po} {xs us : List NV}, KM K zs xs B → KM K ys us B → KM K (zs ++ ys) (xs ++ us) B
  | [], _, [], _, _, h => h
  | _ :: _, _, _ :: _, _, a, h => ⟨a.1, KM.app a.2 h⟩
theorem KM.set {m : Mo} {f : Fr} {v : V} (hf : (frP K f).P v B) : ∀ {zs : Po} {xs : List NV}, KM K zs xs B → KM K (zs.map fun z => if z.1 = m then (z.1, f) else z) (xs.map fun x => if x.1 = nk (moD m) then (x.1, x.2.1, v) else x) B
  | [], [], _ => trivial
  | z :: zs, x :: xs, h => by
    refine ⟨?_, KM.set hf h.2⟩
    dsimp only
    by_cases e : z.1 = m
    · rw [if_pos e, if_pos (by rw [h.1.1, e])]
      exact ⟨h.1.1, h.1.2.1, hf⟩
    · rw [if_neg e, if_neg (fun k => e (nkm_inj (h.1.1.symm.trans k)))]
      exact h.1
theorem KM.put {m : Mo} {f : Fr} {a : Addr} {v : V} {zs : Po} {xs : List NV} (h : KM K zs xs B) (ha : (moP K m).P (.ref a) B) (hf : (frP K f).P v B) : KM K (putZ zs m f) (putN xs (nk (moD m)) a v) B := by
  unfold putZ putN
  rw [h.has m]
  by_cases e : m ∈ zs.map (·.1)
  · rw [if_pos e, decide_eq_true e, if_pos rfl]
    exact h.set hf
  · rw [if_neg e, decide_eq_false e, if_neg Bool.false_ne_true]
    exact h.app ⟨⟨rfl, ha, hf⟩, trivial⟩
theorem key_mo {m : Mo} {a : Addr} (h : (moP K m).P (.ref a) H) : KeyAt K H a (nk (moD m)) := ⟨moD m, to_mo m _ _ h, keyish_mo m, rfl, deep_nkm m⟩
theorem KM.ok {zs : Po} {xs : List NV} (h : KM K zs xs B) (e : Ex B H) : KeysOk K H xs := fun x hx => by
  obtain ⟨i, hi⟩ := List.mem_iff_getElem?.mp hx
  obtain ⟨z, _, h1, h2, _⟩ := (h.m e).at hi
  rw [h1]
  exact key_mo h2
end
end Nd
namespace Nd
set_option autoImplicit false
open PySem PySem.W L2 My Evl
/-! ### two lists under way -/
structure A2 (B H0 : Hp) (a b : Addr) (ps qs : List Pr) (C H : Hp) : Prop where
  g : Gr B H0 C (wo a (wo b H))
  fa : ∃ xs, H a = some (.lst xs) ∧ AllP ps xs C
  fb : ∃ ys, H b = some (.lst ys) ∧ AllP qs ys C
  ne : a ≠ b
section
variable {B H0 C H C2 H2 : Hp} {a b r : Addr} {ps qs ps' qs' : List Pr} {p : Pr} {xs ys zs : List V} {y : V}
theorem A2.ex (A : A2 B H0 a b ps qs C H) : Ex C H := (A.g.c.trans wo_ex).trans wo_ex
theorem A2.new (e : Ex B H) (ha : H a = none) (hb : upd H a (.lst []) b = none) : A2 B H a b [] [] B (upd (upd H a (.lst [])) b (.lst [])) := by
  have ne : a ≠ b := ne_of_none upd_same hb
  refine ⟨?_, ⟨[], by rw [upd_ne ne]; exact upd_same, trivial⟩, ⟨[], upd_same, trivial⟩, ne⟩
  rw [wo_new hb, wo_new ha]
  exact Gr.refl e
theorem A2.na (A : A2 B H0 a b ps qs C H) : C a = none ∧ C b = none := ⟨wo_none A.g.c, wo_none (A.g.c.trans wo_ex)⟩
theorem A2.step (A : A2 B H0 a b ps qs C H) (k : Gr C H C2 H2) : A2 B H0 a b ps qs C2 H2 := by
  obtain ⟨xs, hx, ax⟩ := A.fa
  obtain ⟨ys, hy, ay⟩ := A.fb
  have k1 : Gr C (wo b H) C2 (wo b H2) := (Gr.refl (A.g.c.trans wo_ex)).side (by rw [hy]; exact fun z => nomatch z) k
  have k2 : Gr B H0 C2 (wo a (wo b H2)) := A.g.side (by rw [wo_ne A.ne, hx]; exact fun z => nomatch z) k1
  exact ⟨k2, ⟨xs, k.a _ _ hx, ax.m k.b⟩, ⟨ys, k.a _ _ hy, ay.m k.b⟩, A.ne⟩
theorem A2.wide (A : A2 B H0 a b ps qs C H) (e : Ex H H2) : A2 B H0 a b ps qs C H2 := A.step (Gr.wide A.ex e)
theorem A2.fin (A : A2 B H0 a b ps qs C H) (ha : H0 a = none) (hb : H0 b = none) : ∃ C', Gr B H0 C' H ∧ (LsP ps).P (.ref a) C' ∧ (LsP qs).P (.ref b) C' := by
  obtain ⟨xs, hx, ax⟩ := A.fa
  obtain ⟨ys, hy, ay⟩ := A.fb
  obtain ⟨na, nb⟩ := A.na
  have e1 : Ex C (upd C a (.lst xs)) := Ex.new na
  have nb2 : (upd C a (.lst xs)) b = none := by rw [upd_ne A.ne.symm]; exact nb
  have e2 : Ex (upd C a (.lst xs)) (upd (upd C a (.lst xs)) b (.lst ys)) := Ex.new nb2
  refine ⟨upd (upd C a (.lst xs)) b (.lst ys), ⟨(A.g.a.trans wo_ex).trans wo_ex, A.g.b.trans (e1.trans e2), fun x o e => ?_, fun x h1 h2 => ?_, fun z x qs' q => ?_⟩, ⟨a, xs, rfl, e2 _ _ upd_same, ax.m (e1.trans e2)⟩, ⟨b, ys, rfl, upd_same, ay.m (e1.trans e2)⟩⟩
  · by_cases n : x = b
    · subst n
      rw [upd_same] at e
      rw [hy]
      exact e
    · rw [upd_ne n] at e
      by_cases m : x = a
      · subst m
        rw [upd_same] at e
        rw [hx]
        exact e
      · rw [upd_ne m] at e
        exact A.ex x o e
  · rw [upd_ne (fun z => h2 (by rw [z]; exact hb)), upd_ne (fun z => h2 (by rw [z]; exact ha))]
    exact A.g.d x h1 h2
  · by_cases n : x = b
    · subst n
      rw [upd_same] at q
      cases q
    · rw [upd_ne n] at q
      by_cases m : x = a
      · subst m
        rw [upd_same] at q
        cases q
      · rw [upd_ne m] at q
        exact A.g.e z x qs' q
end
/-! ### x is True -/
section
variable {X : Cx}
end
end Nd
namespace L2
set_option autoImplicit false
open PySem PySem.Spec PyProof.Rows
/-! ### exceptions that were raised, as values -/
section
variable {X : Cx} {pins : List (Addr × Obj)} {σ : St} {H : Hp} {s : Shared}
/-- an exception that stands in the heap is known from now on -/
theorem Inv.track {a C : Addr} {d : Option Addr} {oe : Obj} {vs : Array Value} (I : Inv X pins σ H s) (ea : s.heap.get? a = some oe) (z : Zc (.ref C) d oe) (f : oe.data = .fields vs) (na : H a = none) (n0 : X.s_0.heap.get? a = none) (nl : a ≠ X.env.locals) (np : ∀ p ∈ X.pn ++ pins, p.1 ≠ a) : Inv X pins σ (upd H a (exw a C d)) s := by
  have far : ∀ b u, H b = some u → b ≠ a := fun b u e q => by
    rw [q, na] at e
    cases e
  have old : ∀ b o, X.s_0.heap.get? b = some o → b ≠ a := fun b o e q => by
    rw [q, n0] at e
    cases e
  have U : Un X.fs X.ex X.H_0 (upd H a (exw a C d)) X.s_0.heap s.heap :=
    { keep := I.base.keep
      slot := I.base.slot
      free := fun b o e n hx => by
        rw [upd_ne (old b o e)]
        exact I.base.free b o e n hx
      there := I.base.there
      tups := fun b xs e => by
        have t := I.base.tups b xs e
        rw [upd_ne (far b _ t)]
        exact t
      frzs := fun b o u e => by
        have t := I.base.frzs b o u e
        rw [upd_ne (far b _ t)]
        exact t
      tbls := fun b ps e => by
        obtain ⟨m, t⟩ := I.base.tbls b ps e
        exact ⟨m, by rw [upd_ne (far b _ t)]; exact t⟩ }
  refine ⟨I.ok, I.os, I.bare, U, I.loc, I.cell, by rw [upd_ne nl.symm]; exact I.free, fun x c e => ?_, fun p hp => ?_, I.hok.laidN (fun _ _ e => e) na (exw_ok ea z f), I.len⟩
  · rw [upd_ne]
    · exact I.freeC x c e
    · intro q
      obtain ⟨v, o, h1, h2⟩ := I.cell x c e
      rw [q, ea] at h1
      cases h1
      rw [f] at h2
      cases h2
  · obtain ⟨h1, h2, h3, h4, h5⟩ := I.pin p hp
    exact ⟨h1, by rw [upd_ne (np p hp)]; exact h2, h3, h4, h5⟩
end
/-- what the clause «except x as n: m = n» wishes of an exception of the body -/
def wKeep (K : PySem.W.Frag) (c : Value) (N i j : Nat) (Wout : WX) (D : Ends) : WX := fun cls d σ H =>
  ∃ b, PySem.W.exmOne K cls c = some b ∧ (b = true → ∃ C, cls = .ref C ∧ (σ.length = N → ∀ a, H a = none → D.nx (((σ.set i (some (.ref a))).set j (some (.ref a))).set i none) (upd H a (exw a C d)))) ∧ (b = false → Wout cls d σ H)
section
variable {X : Cx} {x n m : Str} {c : Value} {i j : Nat} {body : List Stmt} {np pos pos' q1 q2 q3 : Pos} {tb : WX → TS} {Wout : WX}
/-- try: .. except x as n: m = n -/
theorem ps_try_keep (hst : X.stack = X.env :: X.outer) (hfm : X.env.frame = some X.env.locals) (hex : X.ex = []) (hN : X.N.Nodup) (hi : X.N[i]? = some n) (hj : X.N[j]? = some m) (hln : X.env.kindOf n = some .local) (hlm : X.env.kindOf m = some .local) (hc : Names X x c) (tk : Takes X Wout)
    (hii : ∀ σ : St, σ.length = X.N.length → (σ.set i (some (V.ref 0)))[i]? = some (some (V.ref 0))) (hdn : (n == ("__debug__" : Str)) = false := by decide) (hcn : (n == ("__classdict__" : Str)) = false := by decide)
    (hsw : swapsWith (.Name n q2) (some (.Name m q1)) q3.line X.env = pure false)
    (hb : ∀ (W : WX) (pn : List (Addr × Obj)) (xe : Value → Shared → Prop), Takes (X.tr pn xe) W → PassesOwn (model X.prog X.w) X.A X.env xe → PSs (X.tr pn xe) body (tb W)) :
    PS X (.Try body [.ExceptHandler (some (.Name x np)) (some n) [.Assign [.Name m q1] (.Name n q2) q3] pos'] [] [] pos) (fun D σ H => tb (wKeep X.K c X.N.length i j Wout D) D σ H) := by
  refine ⟨fun pins s σ H D I h => ?_⟩
  have ok := I.ok
  have frames : X.A.frames = some (X.env :: X.outer) := ok.frames.trans (congrArg some hst)
  refine wpAny_Try_except (wpAny_mono ((hb (wKeep X.K c X.N.length i j Wout D) (X.pn ++ pins) _ (fun u s' air => ?_) PassesOwn.looking).run [] s σ H D (I.toTry _) h) (fun fl s1 done => ?_) fun _ _ z => z)
  · obtain ⟨a, B, sI, pinsI, σ', H', cls, d, rfl, JI, ground, up, sky, na, os, ag, b, asked, yes, no⟩ := air
    have J : Inv X pins σ' H' sI := JI.ofTry ok
    show wpAny (model X.prog X.w) X.A (noteFrame (.ref a) X.env) _ _ _
    refine Sky.land Zc.steady frames hfm (by rw [← hst]; exact sky) fun h3 fly up3 => ?_
    have J3 : Inv X pins σ' H' { s' with heap := h3 } := J.landed ground fly.1 (up.trans up3) os ag
    obtain ⟨o3, v3, e3, z3, d3⟩ := fly.there
    have noFrame : a ∉ frs (X.env :: X.outer) := fun mem => by
      obtain ⟨_, o', e', ns⟩ := fly.2.2.1.mem mem
      rw [e3] at e'
      cases e'
      exact ns _ d3
    have nL : a ≠ X.env.locals := fun z => noFrame (List.mem_filterMap.mpr ⟨X.env, List.mem_cons_self, hfm.trans (congrArg some z.symm)⟩)
    have nF : a ∉ X.fs := fun mem => by
      obtain ⟨e, he, q⟩ := List.mem_filterMap.mp mem
      exact noFrame (List.mem_filterMap.mpr ⟨e, List.mem_cons_of_mem _ he, q⟩)
    -- it is new
    have notI : sI.heap.get? a = none := by
      cases e : sI.heap.get? a with
      | none => rfl
      | some o =>
        have g := ground a o e (by rw [hst]; exact noFrame)
        rw [fly.2.1] at g
        cases g
    have not0 : X.s_0.heap.get? a = none := by
      cases e : X.s_0.heap.get? a with
      | none => rfl
      | some o =>
        obtain ⟨o', g⟩ := J.base.there a o e (by rw [hex]; exact List.not_mem_nil)
        rw [notI] at g
        cases g
    have notP : ∀ p ∈ X.pn ++ pins, p.1 ≠ a := fun p hp z => by
      have g := (J.pin p hp).1
      rw [z, notI] at g
      cases g
    have S3 := J3.suite e3 d3 na nL nF
    refine wpAny_handleBy_cons (codeAny_handlers_test ?_) (fun q => nomatch q)
    have looksT : PySem.W.Looks (model X.prog X.w) h3 (typeOf (.ref a)) cls := fun A Q E s k q => wpAny_typeOf_ref (k _ _ e3) (by rw [z3.1]; exact q)
    have looksM := PySem.W.exm_one (M := model X.prog X.w) J3.kIn looksT asked
    have nameOf : ∀ {Q : Value → Shared → Prop} {E : Value → Shared → Prop}, Q c { s' with heap := h3 } → wpAny (model X.prog X.w) (X.A.mark (some (.ref a))) (eval (.Name x np) X.env) Q E { s' with heap := h3 } := fun {Q E} q => by
      obtain ⟨hg, hdbg, hm | ⟨hm, hv, hnn⟩⟩ := hc
      · exact ld_glob (X := X.suite a ((a, o3) :: (X.pn ++ pins))) S3 hg hm q hdbg
      · exact ld_blt (X := X.suite a ((a, o3) :: (X.pn ++ pins))) S3 hg hm hv q hnn hdbg
    refine nameOf (looksM.here ?_)
    cases b with
    | true =>
      obtain ⟨C, rfl, yes2⟩ := yes rfl
      refine codeAny_handlers_suite_as (HandSPX.lands_againZ fly fun h4 fly4 up4 => ?_)
      have J4 : Inv X pins σ' H' { s' with heap := h4 } := J.landed ground fly4.1 ((up.trans up3).trans up4) os ag
      obtain ⟨o4, v4, e4, z4, d4⟩ := fly4.there
      have S4 := J4.suite e4 d4 na nL nF
      refine store_ok (X := X.suite a ((a, o4) :: (X.pn ++ pins))) (v := .ref a) S4 hN hi (.inl hln) rfl (fun s5 S5 => ?_) (.inr hln)
      let D5 : Ends := { nx := fun σ6 H6 => σ6 = (σ'.set i (some (.ref a))).set j (some (.ref a)) ∧ H6 = H', rt := fun _ _ => False }
      have suite : PSs (X.suite a ((a, o4) :: (X.pn ++ pins))) [.Assign [.Name m q1] (.Name n q2) q3] _ :=
        pss_one (ps_set (X := X.suite a ((a, o4) :: (X.pn ++ pins))) (i := j) hN hj (.inl hlm) (pe_var (X := X.suite a ((a, o4) :: (X.pn ++ pins))) (i := i) hi (.inl hln) hdn hcn) hsw (.inr hlm))
      have at_i : (σ'.set i (some (V.ref a)))[i]? = some (some (V.ref a)) := by
        have l := hii σ' J.len
        have lt : i < σ'.length := by
          by_cases q : i < σ'.length
          · exact q
          · rw [List.getElem?_eq_none (by rw [List.length_set]; omega)] at l
            cases l
        rw [List.getElem?_set_self lt]
      refine wpAny_mono (suite.run [] s5 _ H' D5 S5 ⟨.ref a, at_i, rfl, rfl⟩) (fun fl s6 done => ?_) fun _ _ z => False.elim z
      cases fl with
      | next =>
        obtain ⟨σ6, H6, S6, r1, r2⟩ := done
        subst r1 r2
        obtain ⟨p1, p2, _⟩ := S6.pin (a, o4) (List.mem_append_left _ List.mem_cons_self)
        have J6 := (S6.unsuite ok).track p1 z4 d4 p2 not0 nL notP
        exact gone_ok J6 hN hi hln fun s7 J7 => ⟨_, _, J7, yes2 J.len a na⟩
      | brk =>
        obtain ⟨_, _, _, z⟩ := done
        exact False.elim z
      | cont =>
        obtain ⟨_, _, _, z⟩ := done
        exact False.elim z
      | ret u =>
        obtain ⟨_, _, _, _, _, z⟩ := done
        exact False.elim z
    | false =>
      show wpAny _ X.A (handleBy (.ref a) X.env []) _ _ _
      refine wpAny_handleBy_nil ?_
      obtain ⟨_, _, _, oe, vs, T, oT, ts', he, hz, hd, hT, _⟩ := id fly
      unfold PySem.passOn
      refine wpAny_bind (wpAny_field he hd hT ?_)
      rw [if_neg (show ¬ ((Value.ref T == Value.none) = true) from by simp)]
      have last : wpAny (model X.prog X.w) X.A (setFlight (.ref a) X.env.frame) (fun _ s4 => wpAny (model X.prog X.w) X.A (throw (.ref a) : Sem Flow) (SP X pins D) X.xe s4) X.xe { s' with heap := h3 } := by
        rw [hfm]
        exact HandSPX.setFlight_upZ fly fun h4 held up4 => wpAny_throw (tk _ _ ⟨a, B, sI, pins, σ', H', cls, d, rfl, J, ground, (up.trans up3).trans up4, .inr (.inr (by rw [hst]; exact held)), na, os, ag, no rfl⟩)
      first
        | exact wpAny_bind (wpAny_pure (wpAny_bind last))
        | exact wpAny_bind last
  · cases fl with
    | next =>
      obtain ⟨σ', H', J', q⟩ := done
      exact wpAny_execs_nil ⟨σ', H', J'.ofTry ok, q⟩
    | brk =>
      obtain ⟨σ', H', J', q⟩ := done
      exact ⟨σ', H', J'.ofTry ok, q⟩
    | cont =>
      obtain ⟨σ', H', J', q⟩ := done
      exact ⟨σ', H', J'.ofTry ok, q⟩
    | ret u =>
      obtain ⟨v, σ', H', J', r, q⟩ := done
      exact ⟨v, σ', H', J'.ofTry ok, r, q⟩
end
end L2
namespace L2
set_option autoImplicit false
open PySem PySem.Spec PyProof.Rows
section
variable {X : Cx} {e : Expr} {te : TE}
end
end L2
namespace Nd
set_option autoImplicit false
open PySem PySem.W L2 My Evl LamX
/-- how a def may end: what is known of what it tells, or the class and the fields of what it raises -/
inductive Out
  | ret (p : Pr)
  | exc (C : Addr) (fs : List (Str × Pr))
/-- of the dict of an exception with such fields -/
def ExcD (fs : List (Str × Pr)) (d : Option Addr) (B : Hp) : Prop := match fs with
  | [] => d = none
  | f :: r => ∃ (dx : Addr) (vs : List (Str × V)), d = some dx ∧ B dx = some (exd dx vs) ∧ vs.map Prod.fst = (f :: r).map Prod.fst ∧ AllP ((f :: r).map Prod.snd) (vs.map Prod.snd) B
theorem ExcD.m {fs : List (Str × Pr)} {d : Option Addr} {B B' : Hp} (e : Ex B B') (h : ExcD fs d B) : ExcD fs d B' := by
  match fs, h with
  | [], h => exact h
  | _ :: _, ⟨dx, vs, h1, h2, h3, h4⟩ => exact ⟨dx, vs, h1, e _ _ h2, h3, h4.m e⟩
def OutOk (o : Out) (B H : Hp) (Q : VK) (E : XK) : Prop := match o with
  | .ret p => ∀ v B' H', Gr B H B' H' → p.P v B' → Q v H'
  | .exc C fs => ∀ d B' H', Gr B H B' H' → ExcD fs d B' → E (.ref C) d H'
def OutT (T : List (Addr × Str)) (o : Out) (B H : Hp) (Q : VK) (E : XK) : Prop := match o with
  | .ret p => ∀ v B' H', GT T B H B' H' → p.P v B' → Q v H'
  | .exc C fs => ∀ d B' H', GT T B H B' H' → ExcD fs d B' → E (.ref C) d H'
/-- what a def promises that may raise | that may raise, and fills tables -/
def spO (R : List Pr → Out → Prop) : Sp := fun vs H Q E => ∃ B ps o, Ex B H ∧ AllP ps vs B ∧ R ps o ∧ OutOk o B H Q E
theorem spO_len {R : List Pr → Out → Prop} {n : Nat} (h : ∀ ps o, R ps o → ps.length = n) : ∀ vs H Q E, spO R vs H Q E → vs.length = n := fun vs H Q E ⟨B, ps, p, _, a, b, _⟩ => by rw [a.len]; exact h _ _ b
section
variable {T : List (Addr × Str)} {R : List Pr → Out → Prop} {t : TA} {σ : L2.St} {B H : Hp} {ps : List Pr} {o : Out} {Q : VK} {E : L2.St → XK} {D : Ends}
/-- such a call -/
theorem o_call (e : Ex B H) (h : EvPs t σ B ps) (hr : R ps o) (q : OutOk o B H Q (E σ)) : tCallS (spO R) E t σ H Q :=
  h H e _ fun vs B2 H2 g b => ⟨B2, ps, o, g.c, b, hr, by
    cases o with
    | ret p => exact fun v B3 H3 g3 hp => q v B3 H3 (g.trans g3) hp
    | exc C fs => exact fun d B3 H3 g3 hd => q d B3 H3 (g.trans g3) hd⟩
theorem OutOk.to {o : Out} {B H B2 H2 : Hp} {Q : VK} {E : XK} (g : Gr B H B2 H2) (q : OutOk o B H Q E) : OutOk o B2 H2 Q E := by
  cases o with
  | ret p => exact fun v B3 H3 g3 hp => q v B3 H3 (g.trans g3) hp
  | exc C fs => exact fun d B3 H3 g3 hd => q d B3 H3 (g.trans g3) hd
theorem OutT.to {o : Out} {B H B2 H2 : Hp} {Q : VK} {E : XK} (g : GT T B H B2 H2) (q : OutT T o B H Q E) : OutT T o B2 H2 Q E := by
  cases o with
  | ret p => exact fun v B3 H3 g3 hp => q v B3 H3 (g.trans g3) hp
  | exc C fs => exact fun d B3 H3 g3 hd => q d B3 H3 (g.trans g3) hd
/-- of no tables -/
theorem OutT.ok {o : Out} {B H : Hp} {Q : VK} {E : XK} (q : OutT T o B H Q E) : OutOk o B H Q E := by
  cases o with
  | ret p => exact fun v B3 H3 g3 hp => q v B3 H3 (GT.gr g3) hp
  | exc C fs => exact fun d B3 H3 g3 hd => q d B3 H3 (GT.gr g3) hd
end
/-- a class whose instances are raised -/
structure RC (K : PySem.W.Frag) (C : Addr) : Prop where
  b : PySem.W.subIn K (.ref C) (.type "BaseException") = some true
  t : PySem.W.typeIn K (.ref C) = some (.type "type")
theorem RC.r {X : Cx} {C : Addr} (h : RC X.K C) : Raises X (.ref C) := raises_own h.b h.t
section
variable {X : Cx} {t tk : TA} {σ : L2.St} {B H H0 : Hp} {p : Pr} {C : Addr} {f : Str} {n m : Nat} {gV : List V → List V → List V} {Q : XK}
end
end Nd
namespace Nd
open PySem PySem.W L2 My Evl LamX
set_option autoImplicit false
def testsOf (cx : Nat → Addr) : List Value := [.ref (cx 0), .ref (cx 1), .ref (cx 2), .ref (cx 3), .ref (cx 4), .ref (cx 5), .ref (cx 6), .ref (cx 12), .ref (cx 13), .ref (cx 14), .ref (cx 7), .ref (cx 8), .ref (cx 9), .ref (cx 15), .ref (cx 10), .ref (cx 11), .ref (cx 16), .type "ValueError", .ref (cx 17), .type "LookupError", .ref (cx 18), .type "RuntimeError"]
def nmOf : List Str := ["row", "polynomial", "ranking", "chain", "data", "jet", "paper", "twice", "place", "great", "unknown", "equation", "case", "nothing", "contradicted", "knotted", "ours", "value", "miss", "lookup", "end", "runtime"]
def kb : Nat → List Bool
  | 0 => [true, false, false, false, false, false, false, false, false, false, false, false, false, false, false, false, true, true, false, false, false, false]
  | 1 => [false, true, false, false, false, false, false, false, false, false, false, false, false, false, false, false, true, true, false, false, false, false]
  | 2 => [false, false, true, false, false, false, false, false, false, false, false, false, false, false, false, false, true, true, false, false, false, false]
  | 3 => [false, false, false, true, false, false, false, false, false, false, false, false, false, false, false, false, true, true, false, false, false, false]
  | 4 => [false, false, false, false, true, false, false, false, false, false, false, false, false, false, false, false, true, true, false, false, false, false]
  | 5 => [false, false, false, false, false, true, false, false, false, false, false, false, false, false, false, false, true, true, false, false, false, false]
  | 6 => [false, false, false, false, false, false, true, false, false, false, false, false, false, false, false, false, true, true, false, false, false, false]
  | 7 => [false, false, false, false, false, false, false, false, false, false, true, false, false, false, false, false, false, false, true, true, false, false]
  | 8 => [false, false, false, false, false, false, false, false, false, false, false, true, false, false, false, false, false, false, true, true, false, false]
  | 9 => [false, false, false, false, false, false, false, false, false, false, false, false, true, false, false, false, false, false, true, true, false, false]
  | 10 => [false, false, false, false, false, false, false, false, false, false, false, false, false, false, true, false, false, false, false, false, true, true]
  | 11 => [false, false, false, false, false, false, false, false, false, false, false, false, false, false, false, true, false, false, false, false, true, true]
  | 12 => [false, false, false, false, false, false, false, true, false, false, false, false, false, false, false, false, true, true, false, false, false, false]
  | 13 => [false, false, false, false, false, false, false, false, true, false, false, false, false, false, false, false, true, true, false, false, false, false]
  | 14 => [false, false, false, false, false, false, false, false, false, true, false, false, false, false, false, false, true, true, false, false, false, false]
  | 15 => [false, false, false, false, false, false, false, false, false, false, false, false, false, true, false, false, false, false, true, true, false, false]
  | _ => []
def bmI : Nat → List Value
  | 0 => [.type "ValueError", .type "Exception", .type "BaseException", .type "object"]
  | 1 => [.type "ValueError", .type "Exception", .type "BaseException", .type "object"]
  | 2 => [.type "ValueError", .type "Exception", .type "BaseException", .type "object"]
  | 3 => [.type "ValueError", .type "Exception", .type "BaseException", .type "object"]
  | 4 => [.type "ValueError", .type "Exception", .type "BaseException", .type "object"]
  | 5 => [.type "ValueError", .type "Exception", .type "BaseException", .type "object"]
  | 6 => [.type "ValueError", .type "Exception", .type "BaseException", .type "object"]
  | 7 => [.type "LookupError", .type "Exception", .type "BaseException", .type "object"]
  | 8 => [.type "LookupError", .type "Exception", .type "BaseException", .type "object"]
  | 9 => [.type "LookupError", .type "Exception", .type "BaseException", .type "object"]
  | 10 => [.type "RuntimeError", .type "Exception", .type "BaseException", .type "object"]
  | 11 => [.type "RuntimeError", .type "Exception", .type "BaseException", .type "object"]
  | 12 => [.type "ValueError", .type "Exception", .type "BaseException", .type "object"]
  | 13 => [.type "ValueError", .type "Exception", .type "BaseException", .type "object"]
  | 14 => [.type "ValueError", .type "Exception", .type "BaseException", .type "object"]
  | 15 => [.type "LookupError", .type "Exception", .type "BaseException", .type "object"]
  | _ => []
def nwI : Nat → String
  | 0 => "ValueError.__new__"
  | 1 => "ValueError.__new__"
  | 2 => "ValueError.__new__"
  | 3 => "ValueError.__new__"
  | 4 => "ValueError.__new__"
  | 5 => "ValueError.__new__"
  | 6 => "ValueError.__new__"
  | 7 => "LookupError.__new__"
  | 8 => "LookupError.__new__"
  | 9 => "LookupError.__new__"
  | 10 => "RuntimeError.__new__"
  | 11 => "RuntimeError.__new__"
  | 12 => "ValueError.__new__"
  | 13 => "ValueError.__new__"
  | 14 => "ValueError.__new__"
  | 15 => "LookupError.__new__"
  | _ => ""
/-- the module's classes: where they stand, what is known of them -/
structure XT (K : PySem.W.Frag) (mg : Str → Option Value) (cx : Nat → Addr) : Prop where
  xc : ∀ i, i < 16 → XC K (cx i) (bmI i) (nwI i)
  qc : ∀ i, i < 16 → 12 ≤ i → PySem.W.excIn K (cx i) (bmI i) (nwI i) = true
  f_0_row : PySem.W.findIn K (.ref (cx 0)) "row" = some none
  f_0_word : PySem.W.findIn K (.ref (cx 0)) "word" = some none
  f_1_number : PySem.W.findIn K (.ref (cx 1)) "number" = some none
  f_2_place : PySem.W.findIn K (.ref (cx 2)) "place" = some none
  f_3_place : PySem.W.findIn K (.ref (cx 3)) "place" = some none
  f_4_place : PySem.W.findIn K (.ref (cx 4)) "place" = some none
  f_5_place : PySem.W.findIn K (.ref (cx 5)) "place" = some none
  f_6_place : PySem.W.findIn K (.ref (cx 6)) "place" = some none
  f_7_name : PySem.W.findIn K (.ref (cx 7)) "name" = some none
  f_8_number : PySem.W.findIn K (.ref (cx 8)) "number" = some none
  f_9_number : PySem.W.findIn K (.ref (cx 9)) "number" = some none
  f_10_number : PySem.W.findIn K (.ref (cx 10)) "number" = some none
  f_11_number : PySem.W.findIn K (.ref (cx 11)) "number" = some none
  kt : ∀ i, i < 16 → (testsOf cx).map (PySem.W.kitOne K (.ref (cx i))) = (kb i).map some
  g_BadRow : mg "BadRow" = some (.ref (cx 0))
  g_BadPolynomial : mg "BadPolynomial" = some (.ref (cx 1))
  g_BadRanking : mg "BadRanking" = some (.ref (cx 2))
  g_BadChain : mg "BadChain" = some (.ref (cx 3))
  g_BadData : mg "BadData" = some (.ref (cx 4))
  g_BadJet : mg "BadJet" = some (.ref (cx 5))
  g_BadPaper : mg "BadPaper" = some (.ref (cx 6))
  g_NoUnknown : mg "NoUnknown" = some (.ref (cx 7))
  g_NoEquation : mg "NoEquation" = some (.ref (cx 8))
  g_NoCase : mg "NoCase" = some (.ref (cx 9))
  g_Contradicted : mg "Contradicted" = some (.ref (cx 10))
  g_Knotted : mg "Knotted" = some (.ref (cx 11))
  g_Twice : mg "Twice" = some (.ref (cx 12))
  g_OutOfPlace : mg "OutOfPlace" = some (.ref (cx 13))
  g_TooGreat : mg "TooGreat" = some (.ref (cx 14))
  g_Nothing : mg "Nothing" = some (.ref (cx 15))
  g_ChainError : mg "ChainError" = some (.ref (cx 16))
  g_MissError : mg "MissError" = some (.ref (cx 17))
  g_CaseError : mg "CaseError" = some (.ref (cx 18))
  n_isinstance : mg "isinstance" = none
  n_ValueError : mg "ValueError" = none
  n_LookupError : mg "LookupError" = none
  n_RuntimeError : mg "RuntimeError" = none
theorem kb_len {i : Nat} (hi : i < 16) : (kb i).length = 22 := (by decide : ∀ i, i < 16 → (kb i).length = 22) i hi
theorem XT.k {K : PySem.W.Frag} {mg : Str → Option Value} {cx : Nat → Addr} (T : XT K mg cx) {i : Nat} (hi : i < 16) (j : Nat) (hj : j < 22) : PySem.W.kitOne K (.ref (cx i)) ((testsOf cx).getD j .none) = some ((kb i).getD j false) := by
  have h := congrArg (fun l => l[j]?) (T.kt i hi)
  have l1 : j < (testsOf cx).length := hj
  have l2 : j < (kb i).length := by rw [kb_len hi]; exact hj
  simp only [List.getElem?_map, List.getElem?_eq_getElem l1, List.getElem?_eq_getElem l2, Option.map_some] at h
  rw [List.getD_eq_getElem?_getD, List.getD_eq_getElem?_getD, List.getElem?_eq_getElem l1, List.getElem?_eq_getElem l2]
  exact Option.some.inj h
/-- what is told of the kinds of the i-th -/
def kinds (i : Nat) : List Str := ((List.range 22).filter fun j => (kb i).getD j false).map fun j => nmOf.getD j Str.empty
def txts (l : List Str) : Pr := LsP (l.map fun x => IsV (.str x))
def spKinds (cx : Nat → Addr) : Sp := fun vs H Q _ => ∃ (i : Nat) (v : V) (B : Hp), i < 16 ∧ vs = [v] ∧ Ex B H ∧ (XK (cx i)).P v B ∧ ∀ u B' H', Gr B H B' H' → (txts (kinds i)).P u B' → Q u H'
section
variable {P : Program} {w : World} {K : PySem.W.Frag} {mg : Str → Option Value} {base : Heap}
def tPair (K : PySem.W.Frag) (nm : Str) (c : V) : TE := tTup (tCons (tC (.str nm)) (tCons (tCB (rXIs K) (tCons (tVar 0) (tCons (tC c) tNil))) tNil))
def prPair (K : PySem.W.Frag) (i j : Nat) : Pr := TuP K [IsV (.str (nmOf.getD j Str.empty)), IsV (.bl ((kb i).getD j false))]
theorem p_pair {cx : Nat → Addr} (T : XT K mg cx) {i : Nat} (hi : i < 16) (j : Nat) (hj : j < 22) {c : V} {σ : L2.St} {H : Hp} {v : V} (h0 : σ[0]? = some (some v)) (hv : (XK (cx i)).P v H) (hc : ∀ u, RelV c u → u = (testsOf cx).getD j .none) :
    EvP (tPair K (nmOf.getD j Str.empty) c) σ H (prPair K i j) :=
  p_tup (q_cons p_c (q_cons (p_xis (T.xc i hi) (p_var h0 hv) p_c hc (T.k hi j hj)) q_nil)) (by show 2 ≤ 100000; decide)
end
/-- what is known of an exception with such fields -/
def excP (C : Addr) (fs : List (Str × Pr)) : Pr := match fs with
  | [] => X0 C
  | f :: r => XF C (f :: r)
theorem exc_k {C : Addr} {fs : List (Str × Pr)} {v : V} {H : Hp} (h : (excP C fs).P v H) : (XK C).P v H := by
  match fs, h with
  | [], h => exact xk_0 h
  | _ :: _, h => exact xk_f h
/-- a caught exception that is kept: from B within H -/
theorem exc_grow {B H : Hp} {a C : Addr} {d : Option Addr} {fs : List (Str × Pr)} (e : Ex B H) (na : H a = none) (hd : ExcD fs d B) : ∃ B', Gr B H B' (upd H a (exw a C d)) ∧ (excP C fs).P (.ref a) B' := by
  have g : Gr B H (upd B a (exw a C d)) (upd H a (exw a C d)) := Gr.new (exw a C d) e na
  refine ⟨_, g, ?_⟩
  cases fs with
  | nil =>
    obtain rfl : d = none := hd
    exact ⟨a, rfl, .inr upd_same⟩
  | cons f r =>
    obtain ⟨dx, vs, rfl, h2, h3, h4⟩ := hd
    exact ⟨a, dx, vs, rfl, .inr upd_same, g.b _ _ h2, h3, h4.m g.b⟩
theorem ps_parX {i j : Nat} {t : TA} {σ : L2.St} {B H : Hp} {p q : Pr} {D : Ends} (a : Ex B H) (h : EvPs t σ B [p, q]) (n : ∀ v w B1 H1, Gr B H B1 H1 → p.P v B1 → q.P w B1 → D.nx ((σ.set i (some v)).set j (some w)) H1) : tPar i j t D σ H := h H a _ fun vs B1 H1 g x => by
  match vs, x with
  | [v, w], x => exact ⟨v, w, rfl, n v w B1 H1 g x.1 x.2.1⟩
end Nd
namespace Nd
set_option autoImplicit false
open PySem PySem.W L2 My Evl LamX
/-! ### which data are good, as the program asks -/
def it (k : Nat) : PyData → PyData
  | .tuple xs => xs.getD k .none
  | _ => .none
def tupN (n : Nat) : PyData → Bool
  | .tuple xs => xs.length == n
  | _ => false
def isTu : PyData → Bool
  | .tuple _ => true
  | _ => false
def intOf : PyData → Int
  | .int i => i
  | _ => 0
def wholeB : PyData → Bool
  | .int _ => true
  | _ => false
def nameB : PyData → Bool
  | .str x => isNmB x
  | _ => false
def frB (d : PyData) : Bool := tupN 2 d && (wholeB (it 0 d) && (wholeB (it 1 d) && (decide (0 < intOf (it 1 d)) && decide (Nat.gcd (intOf (it 0 d)).natAbs (intOf (it 1 d)).natAbs = 1))))
theorem tupN_ex {n : Nat} {d : PyData} (h : tupN n d = true) : ∃ xs, d = .tuple xs ∧ xs.length = n := by
  cases d <;> simp only [tupN] at h <;> try exact absurd h (by decide)
  exact ⟨_, rfl, by simpa using h⟩
theorem tpl2 {d : PyData} (h : tupN 2 d = true) : d = .tuple [it 0 d, it 1 d] := by
  obtain ⟨xs, rfl, hl⟩ := tupN_ex h
  match xs, hl with
  | [a, b], _ => rfl
theorem wholeB_ex {d : PyData} (h : wholeB d = true) : d = .int (intOf d) := by
  cases d <;> simp only [wholeB] at h <;> try exact absurd h (by decide)
  rfl
mutual
/-- no text in it is long -/
def smB : PyData → Bool
  | .str x => decide (x.length ≤ 100000)
  | .tuple xs => smAll xs
  | .list xs => smAll xs
  | _ => true
def smAll : List PyData → Bool
  | [] => true
  | x :: r => smB x && smAll r
end
theorem smAll_mem : ∀ {xs : List PyData}, smAll xs = true → ∀ x ∈ xs, smB x = true
  | [], _, x, hx => absurd hx List.not_mem_nil
  | y :: r, h, x, hx => by
    unfold smAll at h
    rw [Bool.and_eq_true] at h
    rcases List.mem_cons.mp hx with rfl | hx
    · exact h.1
    · exact smAll_mem h.2 x hx
theorem smAll_of : ∀ {xs : List PyData}, (∀ x ∈ xs, smB x = true) → smAll xs = true
  | [], _ => by rw [smAll]
  | y :: r, h => by
    rw [smAll, h y List.mem_cons_self, smAll_of fun x hx => h x (List.mem_cons_of_mem _ hx)]
    rfl
theorem smd_tu {xs : List PyData} (h : smB (.tuple xs) = true) : ∀ x ∈ xs, smB x = true := by
  unfold smB at h
  exact smAll_mem h
theorem smd_non : smB .none = true := by rw [smB] <;> (intro _ z; cases z)
theorem smd_int {i : Int} : smB (.int i) = true := by rw [smB] <;> (intro _ z; cases z)
theorem smd_str {x : Str} (h : x.length ≤ 100000) : smB (.str x) = true := by rw [smB]; exact decide_eq_true h
theorem smd_it {d : PyData} (h : smB d = true) (k : Nat) : smB (it k d) = true := by
  cases d with
  | tuple xs =>
    show smB (xs.getD k .none) = true
    rw [List.getD_eq_getElem?_getD]
    cases e : xs[k]? with
    | none => exact smd_non
    | some x => exact smd_tu h x (List.mem_of_getElem? e)
  | _ => exact smd_non
theorem smd_of {xs : List PyData} (h : ∀ x ∈ xs, smB x = true) : smB (.tuple xs) = true := by
  rw [smB]
  exact smAll_of h
theorem low_let {c : Nat} : decide (c ∈ (Str.ofString "abcdefghijklmnopqrstuvwxyz").cps.toList) = (decide (97 ≤ c) && decide (c ≤ 122)) := by
  have e : (Str.ofString "abcdefghijklmnopqrstuvwxyz").cps.toList = (List.range 26).map (· + 97) := by decide +kernel
  rw [Bool.eq_iff_iff, decide_eq_true_iff, Bool.and_eq_true, decide_eq_true_iff, decide_eq_true_iff]
  constructor
  · intro h
    rw [e] at h
    obtain ⟨k, hk, rfl⟩ := List.mem_map.mp h
    have := List.mem_range.mp hk
    omega
  · exact fun h => let_low h.1 h.2
theorem all_cps (x : Str) (f : Nat → Bool) : (((List.range x.cps.size).map fun i => f (x.cps.getD i 0)).all id) = x.cps.toList.all f := by
  have : ((List.range x.cps.size).map fun i => f (x.cps.getD i 0)) = x.cps.toList.map f := by
    apply List.ext_getElem?
    intro i
    rw [List.getElem?_map, List.getElem?_map]
    by_cases h : i < x.cps.size
    · rw [List.getElem?_range h, Array.getElem?_toList, Array.getElem?_eq_getElem h]
      simp [Array.getD_eq_getD_getElem?, Array.getElem?_eq_getElem h]
    · rw [List.getElem?_eq_none (by rw [List.length_range]; omega), Array.getElem?_toList, Array.getElem?_eq_none (by omega)]
      rfl
  rw [this, List.all_map]
  rfl
/-! ### data, as what is known -/
section
variable {K : PySem.W.Frag} {te ta tb : TE} {σ : L2.St} {B H : Hp} {q : Pr} {d : PyData} {ds : List PyData} {v : V}
end
end Nd
namespace Nd
set_option autoImplicit false
open PySem PySem.W L2 My Evl LamX
def rP (us _ws : List Value) : List Value := us
def rPV (vs _zs : List V) : List V := vs
def rZV (vs _zs : List V) : List V := vs ++ [.non]
/-- a class of refusals with an __init__ of its own, of one field, over ValueError -/
structure RP (P : Program) (w : World) (K : PySem.W.Frag) (mg : Str → Option Value) (base : Heap) (x : Str) (C : Addr) (f : Str) (fI : Addr) (fd : FuncData) (gZ : List Value → List Value → List Value) : Prop where
  T : XC K C (bmI 1) (nwI 1)
  rc : RC K C
  m : mg x = some (.ref C)
  iC : PySem.W.findIn K (.ref C) "__init__" = some (some (.ref fI))
  tI : PySem.W.typeIn K (.ref fI) = some (.type "function")
  G : FnOk P w K mg base CX0 1 fI fd ["self", f] (spI1 C f)
  kP : KBn K fd ["self", f] 2 [] rP rPV
  kZ : KBn K fd ["self", f] 1 [] gZ rZV
/-- one without -/
structure RQ (K : PySem.W.Frag) (mg : Str → Option Value) (x : Str) (C : Addr) : Prop where
  q : PySem.W.excIn K C (bmI 13) (nwI 13) = true
  k : PySem.W.keepIn K (.ref C) = true
  rc : RC K C
  m : mg x = some (.ref C)
section
variable {X : Cx} {x f : Str} {C fI : Addr} {fd : FuncData} {gZ : List Value → List Value → List Value} {W : WX} {t : TA} {e : Expr} {p pos pos' : Pos}
theorem ps_raiseQ {m : Str} {j : Nat} {p2 : Pos} (R : RQ X.K X.mg x C) (hc : X.calm = true) (tk : Takes X W) (hg : Gl X x) (hdb : (x == ("__debug__" : Str)) = false := by decide) :
    PS X (.Raise (some (.Call (.Name x p) [.Constant (.str m) j p2] [] pos)) none pos') (fun _ σ H => W (.ref C) none σ H) :=
  ps_raise hc tk (pmk_own F.excBase_ValueError R.q R.m R.k R.rc.r hg hdb)
end
section
variable {X : Cx} {t : TA} {σ : L2.St} {B H H0 : Hp} {p : Pr} {C : Addr} {f : Str} {W : WX}
end
/-- a def of the program's that may raise, as it is called -/
structure CalX (P : Program) (w : World) (K : PySem.W.Frag) (mg : Str → Option Value) (base : Heap) (x : Str) (k : Nat) (ps : List Str) (sp : Sp) (f : Addr) (fd : FuncData) : Prop where
  G : FnOk P w K mg base (L2.CX P w) k f fd ps sp
  m : mg x = some (.ref f)
  k : PySem.W.keepIn K (.ref f) = true
  b : Binds K fd ps []
end Nd
namespace Nd
set_option autoImplicit false
open PySem PySem.W L2 My Evl LamX
/-- the thing ahead of another one: none yet, or such data -/
def AhP (K : PySem.W.Frag) (ah : Option PyData) (y : V) (B : Hp) : Prop := (ah = none ∧ y = .non) ∨ ∃ a, ah = some a ∧ Dp K B y a ∧ ∃ xs, a = .tuple xs
theorem AhP.m {K : PySem.W.Frag} {ah : Option PyData} {y : V} {B B' : Hp} (e : Ex B B') (h : AhP K ah y B) : AhP K ah y B' := h.imp id fun ⟨a, h1, h2, h3⟩ => ⟨a, h1, dp_m e h2, h3⟩
end Nd
namespace Nd
set_option autoImplicit false
open PySem PySem.Spec PySem.W PyProof.Rows L2 My Evl
section
variable {X : Cx}
end
end Nd
namespace Nd
set_option autoImplicit false
open PySem PySem.Spec PySem.W PyProof.Rows L2 My Evl LamX
/-! ### data with {} at any place -/
mutual
inductive De (K : PySem.W.Frag) (H : Hp) : V → PyData → Prop
  | non : De K H .non .none
  | bl (b : Bool) : De K H (.bl b) (.bool b)
  | int (i : Int) : De K H (.int i) (.int i)
  | str (x : Str) : De K H (.str x) (.str x)
  | lst {a : Addr} {xs : List V} {ds : List PyData} : SqL K H a xs → DeAll K H xs ds → De K H (.ref a) (.list ds)
  | tup {a : Addr} {xs : List V} {ds : List PyData} : SqT K H a xs → DeAll K H xs ds → De K H (.ref a) (.tuple ds)
  | dct {a : Addr} : H a = some (.dK []) → De K H (.ref a) (.dict [])
inductive DeAll (K : PySem.W.Frag) (H : Hp) : List V → List PyData → Prop
  | nil : DeAll K H [] []
  | cons {v : V} {vs : List V} {d : PyData} {ds : List PyData} : De K H v d → DeAll K H vs ds → DeAll K H (v :: vs) (d :: ds)
end
mutual
theorem de_m {K : PySem.W.Frag} {H H' : Hp} (e : Ex H H') : ∀ {d : PyData} {v : V}, De K H v d → De K H' v d
  | _, _, .non => .non
  | _, _, .bl b => .bl b
  | _, _, .int i => .int i
  | _, _, .str x => .str x
  | _, _, .lst a b => .lst (ex_l e a) (des_m e b)
  | _, _, .tup a b => .tup (ex_t e a) (des_m e b)
  | _, _, .dct a => .dct (e _ _ a)
theorem des_m {K : PySem.W.Frag} {H H' : Hp} (e : Ex H H') : ∀ {ds : List PyData} {vs : List V}, DeAll K H vs ds → DeAll K H' vs ds
  | _, _, .nil => .nil
  | _, _, .cons a b => .cons (de_m e a) (des_m e b)
end
mutual
theorem dp_de {K : PySem.W.Frag} {H : Hp} : ∀ {d : PyData} {v : V}, Dp K H v d → De K H v d
  | _, _, .non => .non
  | _, _, .bl b => .bl b
  | _, _, .int i => .int i
  | _, _, .str x => .str x
  | _, _, .lst a b => .lst a (dps_des b)
  | _, _, .tup a b => .tup a (dps_des b)
theorem dps_des {K : PySem.W.Frag} {H : Hp} : ∀ {ds : List PyData} {vs : List V}, DpAll K H vs ds → DeAll K H vs ds
  | _, _, .nil => .nil
  | _, _, .cons a b => .cons (dp_de a) (dps_des b)
end
mutual
theorem de_dp {K : PySem.W.Frag} {H : Hp} : ∀ {d : PyData} {v : V}, De K H v d → d.hasDict = false → Dp K H v d
  | _, _, .non, _ => .non
  | _, _, .bl b, _ => .bl b
  | _, _, .int i, _ => .int i
  | _, _, .str x, _ => .str x
  | _, _, .lst a b, h => .lst a (des_dps b (by simpa only [PyData.hasDict] using h))
  | _, _, .tup a b, h => .tup a (des_dps b (by simpa only [PyData.hasDict] using h))
  | _, _, .dct _, h => by simp [PyData.hasDict] at h
theorem des_dps {K : PySem.W.Frag} {H : Hp} : ∀ {ds : List PyData} {vs : List V}, DeAll K H vs ds → PyData.hasDictAll ds = false → DpAll K H vs ds
  | _, _, .nil, _ => .nil
  | _, _, .cons a b, h => by
    simp only [PyData.hasDictAll, Bool.or_eq_false_iff] at h
    exact .cons (de_dp a h.1) (des_dps b h.2)
end
def IsE (K : PySem.W.Frag) (d : PyData) : Pr := ⟨fun v H => De K H v d, fun e h => de_m e h⟩
def ToE (K : PySem.W.Frag) (p : Pr) (d : PyData) : Prop := ∀ v H, p.P v H → De K H v d
theorem des_of {K : PySem.W.Frag} {H : Hp} : ∀ {ds : List PyData} {vs : List V}, AllP (ds.map (IsE K)) vs H → DeAll K H vs ds
  | [], [], _ => .nil
  | _ :: _, _ :: _, h => .cons h.1 (des_of h.2)
theorem des_to {K : PySem.W.Frag} {H : Hp} : ∀ {ds : List PyData} {vs : List V}, DeAll K H vs ds → AllP (ds.map (IsE K)) vs H
  | [], [], _ => trivial
  | _ :: _, _ :: _, .cons a b => ⟨a, des_to b⟩
theorem des_len {K : PySem.W.Frag} {H : Hp} : ∀ {ds : List PyData} {vs : List V}, DeAll K H vs ds → vs.length = ds.length
  | [], [], _ => rfl
  | _ :: _, _ :: _, .cons _ b => congrArg Nat.succ (des_len b)
/-- of what may be anything: what a test of it tells -/
def RBE (K : PySem.W.Frag) (f : PyData → Bool) : List Pr → Pr → Prop := fun ps p => ∃ (q : Pr) (d : PyData), ToE K q d ∧ smB d = true ∧ ps = [q] ∧ p = IsV (.bl (f d))
theorem to_idE {K : PySem.W.Frag} {d : PyData} : ToE K (IsE K d) d := fun _ _ h => h
theorem toE_of {K : PySem.W.Frag} {q : Pr} {d : PyData} (h : To K q d) : ToE K q d := fun v H x => dp_de (h v H x)
section
variable {K : PySem.W.Frag} {te ta tb : TE} {σ : L2.St} {B H : Hp} {q : Pr} {d : PyData} {ds : List PyData} {v : V} {D : Ends} {p : Pr}
theorem ty_e (h : De K H v d) : TyX K H v (.type (tyS d)) := by
  cases h with
  | non => exact .base .non
  | bl b => exact .base (.bl b)
  | int i => exact .base (.int i)
  | str x => exact .base (.str x)
  | lst a b =>
    rcases a with (a | ⟨o, a⟩) | ⟨o, its, n, hk, hc, _⟩
    · exact .base (.lst a)
    · exact .base (.frz a)
    · exact .kList hk hc
  | tup a b =>
    rcases a with (a | ⟨o, a⟩) | ⟨o, its, n, hk, hc, _⟩
    · exact .base (.tup a)
    · exact .fTuple a
    · exact .kTuple hk hc
  | dct a => exact .base (.dK a)
theorem ev_isiE {T : String} {b : Bool} (h : EvP te σ B (IsE K d)) (hk : kitB (tyS d) T = some b) : Ev (tCB (rIsi K) (tCons te (tCons (tC (.ty T)) tNil))) σ B (.bl b) := fun H1 a Q k =>
  h H1 a _ fun v B2 H2 g x => ⟨v, .ty T, .type (tyS d), .type T, b, rfl, .ty T, ty_e (de_m g.c x), kit_ty hk, k H2 g.a⟩
theorem ev_lenE {es : List PyData} (h : EvP te σ B (IsE K d)) (hd : d = .tuple es ∨ d = .list es) : Ev (tCB (rLenS K) (tCons te tNil)) σ B (.int (es.length : Int)) := fun H1 a Q k =>
  h H1 a _ fun v B2 H2 g x => by
    rcases hd with rfl | rfl
    · cases x with
      | tup y z =>
        refine ⟨_, _, rfl, .inr (ex_t g.c y), ?_⟩
        rw [des_len z]
        exact k H2 g.a
    · cases x with
      | lst y z =>
        refine ⟨_, _, rfl, .inl (ex_l g.c y), ?_⟩
        rw [des_len z]
        exact k H2 g.a
theorem p_toE (h : EvP te σ B p) (k : ToE K p d) : EvP te σ B (IsE K d) := h.imp fun v B1 _ b => k v B1 b
theorem p_dE (h : EvP te σ B (IsD K d)) : EvP te σ B (IsE K d) := h.imp fun v B1 _ b => dp_de b
theorem ev_inE {i : Int} (h : EvP te σ B (IsE K (.int i))) : Ev te σ B (.int i) := ev_p (h.imp fun v B1 _ x => by cases x; rfl)
theorem tu_e (h : De K H v (.tuple ds)) : (TuP K (ds.map (IsE K))).P v H := by
  cases h with
  | tup a b => exact ⟨_, _, rfl, a, des_to b⟩
theorem e_tu (h : (TuP K (ds.map (IsE K))).P v H) : De K H v (.tuple ds) := by
  obtain ⟨a, xs, rfl, h1, h2⟩ := h
  exact .tup h1 (des_of h2)
theorem ev_isTuE (h : EvP te σ B (IsE K d)) : Ev (tCB (rIsi K) (tCons te (tCons (tC (.ty "tuple")) tNil))) σ B (.bl (isTu d)) :=
  ev_isiE h (by cases d <;> (dsimp only [tyS, isTu]; decide +kernel))
theorem et_tupNE {n : Nat} (h : EvP te σ B (IsE K d)) : EvT (tOr (tNot (tTest (tCB (rIsi K) (tCons te (tCons (tC (.ty "tuple")) tNil))))) (tTest (tOp rNe (tCB (rLenS K) (tCons te tNil)) (tC (.int (n : Int)))))) σ B (!tupN n d) := by
  refine et_is (et_or (a := !isTu d) (b := !tupN n d) (et_not (et_test (ev_isTuE h))) fun e => ?_) ?_
  · obtain ⟨xs, rfl⟩ : ∃ xs, d = .tuple xs := by
      cases d <;> first | exact ⟨_, rfl⟩ | exact absurd e (by simp [isTu])
    refine et_is (et_test (ev_op (ev_lenE h (.inl rfl)) ev_c (rv_ne rfl))) ?_
    show (!decide (V.int (xs.length : Int) = V.int (n : Int))) = !(xs.length == n)
    by_cases q : xs.length = n
    · subst q
      simp
    · have : ¬ V.int (xs.length : Int) = V.int (n : Int) := fun z => q (by cases z; rfl)
      rw [decide_eq_false this]
      simp [q]
  · cases d <;> first | rfl | simp [isTu, tupN]
end
/-! ### their text -/
/-- the modules' dict stands in the written part -/
def SysK (K : PySem.W.Frag) : Prop := ∃ o, K.lookup sysModules = some o ∧ o.cls = .type "dict"
section
variable {X : Cx} {pins : List (Addr × Obj)} {σ : L2.St} {H : Hp} {s : Shared}
mutual
theorem De.reads (I : Inv X pins σ H s) (S : SysK X.K) : ∀ {d : PyData} {v : V} {u : Value}, De X.K H v d → RelV v u → ∃ as, Reads s.heap u d as ∧ sysModules ∉ as
  | _, _, _, .non, r => by
    cases r
    exact ⟨_, Reads.none, List.not_mem_nil⟩
  | _, _, _, .bl b, r => by
    cases r
    exact ⟨_, Reads.bool b, List.not_mem_nil⟩
  | _, _, _, .int i, r => by
    obtain ⟨t, rfl⟩ := r
    exact ⟨_, Reads.int i t, List.not_mem_nil⟩
  | _, _, _, .str x, r => by
    obtain ⟨t, rfl⟩ := r
    exact ⟨_, Reads.str x t, List.not_mem_nil⟩
  | _, _, _, .lst h al, r => by
    cases r
    obtain ⟨its, rv, ⟨o, m, ho, hc, _, hd⟩, _⟩ := I.list h
    obtain ⟨as, hr, hn⟩ := De.readsAll I S al rv
    refine ⟨_, Reads.list ho hc hd hr, fun hm => ?_⟩
    rcases List.mem_cons.mp hm with e | hm
    · obtain ⟨o2, k1, k2⟩ := S
      have := I.kIn _ _ k1
      rw [e, ho] at this
      obtain rfl := Option.some.inj this
      rw [hc] at k2
      exact absurd k2 (by decide)
    · exact hn hm
  | _, _, _, .tup h al, r => by
    cases r
    obtain ⟨its, rv, ⟨o, ho, hc, m, hd⟩, _⟩ := I.tuple h
    obtain ⟨as, hr, hn⟩ := De.readsAll I S al rv
    exact ⟨_, Reads.tuple ho hc hd hr, hn⟩
  | _, _, _, .dct (a := a) h, r => by
    cases r
    obtain ⟨z, y, vs, rv, o, es, ep, e, ex, dat, _, pr, _⟩ := (show ObjOk X.prog X.w H s.heap a (.dK []) from I.hok a _ h)
    cases rv
    have he : es.toList = [] := by
      cases hh : es.toList with
      | nil => rfl
      | cons x l =>
        rw [hh] at pr
        cases pr
    refine ⟨_, Reads.dict (kvs := []) e ex.1 dat (by rw [he]; exact ReadsAll.nil) (by rw [he]; exact ReadsAll.nil), fun hm => ?_⟩
    rw [List.mem_singleton.mp hm] at y
    exact absurd rfl (beq_eq_false_iff_ne.mp y)
theorem De.readsAll (I : Inv X pins σ H s) (S : SysK X.K) : ∀ {ds : List PyData} {vs : List V} {us : List Value}, DeAll X.K H vs ds → Vals vs us → ∃ as, ReadsAll s.heap us ds as ∧ sysModules ∉ as
  | _, _, _, .nil, r => by
    cases r
    exact ⟨_, ReadsAll.nil, List.not_mem_nil⟩
  | _, _, _, .cons h hs, r => by
    cases r with
    | cons r1 r2 =>
      obtain ⟨as, q1, n1⟩ := De.reads I S h r1
      obtain ⟨bs, q2, n2⟩ := De.readsAll I S hs r2
      exact ⟨_, ReadsAll.cons q1 q2, fun hm => (List.mem_append.mp hm).elim n1 n2⟩
end
end
def rReprE (K : PySem.W.Frag) : List V → Hp → VK → Prop := fun xs H Q => ∃ x d, xs = [x] ∧ De K H x d ∧ d.showable = true ∧ d.depth ≤ 60 ∧ d.shown.length ≤ 1000000 ∧ Q (.str d.shown) H
theorem call_reprE {X : Cx} (hG : X.A.guards = some []) (hu : X.A.units + 64 < cLine) (S : SysK X.K) : CallR X (.builtin "repr") (rReprE X.K) := by
  intro pins s σ H xs us Q I r ⟨x, d, e, hd, hs, hp, hz, q⟩
  subst e
  obtain ⟨u, rfl, rx⟩ := vals1 r
  have hz' : d.shown.length ≤ sizeLine := Nat.le_trans hz (by decide)
  have fin : ∀ {a : Addr}, u = .ref a → wpAny (model X.prog X.w) X.A (call (.builtin "repr") [u]) (EP X pins σ Q) X.xe s := fun {a} e => by
    subst e
    obtain ⟨as, ra, hn⟩ := De.reads I S hd rx
    exact repr_of_reads' ra hs (fun _ => hn) hG (by omega) (fun _ _ e => e) (fun h' u tk hk => ⟨.str d.shown, H, I.kept (t' := tk) hk, ⟨u, rfl⟩, q⟩) hz'
  cases hd with
  | non =>
    obtain rfl : u = Value.none := rx
    simp only [PyData.shown] at q
    exact PySem.P.repr_of_none ⟨.str _, H, I.tok _, ⟨_, rfl⟩, q⟩
  | bl b =>
    obtain rfl : u = Value.bool b := rx
    simp only [PyData.shown] at q
    exact PySem.P.repr_of_bool ⟨.str _, H, I.tok _, ⟨_, rfl⟩, q⟩
  | int i =>
    obtain ⟨t, rfl⟩ := rx
    simp only [PyData.shown] at q
    refine PySem.P.repr_of_int ?_ ⟨.str _, H, I.tok _, ⟨_, rfl⟩, q⟩
    simpa only [PyData.showable, decide_eq_true_eq] using hs
  | str y =>
    obtain ⟨t, rfl⟩ := rx
    simp only [PyData.shown] at q hz'
    exact PySem.P.repr_of_str ⟨.str _, H, I.tok _, ⟨_, rfl⟩, q⟩ hz'
  | lst a b => exact fin rx
  | tup a b => exact fin rx
  | dct a => exact fin rx
theorem ev_reprE {te : TE} {σ : L2.St} {B : Hp} {K : PySem.W.Frag} {d : PyData} (h : EvP te σ B (IsE K d)) (hs : d.showable = true) (hp : d.depth ≤ 60) (hz : d.shown.length ≤ 1000000) : Ev (tCB (rReprE K) (tCons te tNil)) σ B (.str d.shown) := fun H1 a Q k =>
  h H1 a _ fun v B2 H2 g x => ⟨v, d, rfl, de_m g.c x, hs, hp, hz, k H2 g.a⟩
end Nd
namespace My
set_option autoImplicit false
open PySem PySem.Spec PySem.W PySem.Calls PyProof.Rows L2 Evl
/-! ### how many texts a tuple has, each once -/
def addZ (L : List Str) (k : Str) : List Str := if k ∈ L then L else k :: L
def dcnt (l : List Str) : Nat := (l.foldl addZ []).length
section
variable {prog : Program} {w : World} {A : Around} {R : Result → Shared → Prop} {I : Addr} {fp wr : List Addr} {n : Nat} {G : Array GenState → Array GenState → Prop} {P : Nat → Value → Prop} {St : Nat → Shared → Prop}
/-- the first i of them are in the set at S -/
abbrev SetTo2 (prog : Program) (w : World) (h : Heap) (S : Addr) (xs : List Str) (i : Nat) : Prop := h.SetOf (PySem.strKind prog w) S (fun z => decide (z ∈ xs.take i)) (dcnt (xs.take i))
theorem SetTo2.moved {h h' : Heap} {S : Addr} {xs : List Str} {i : Nat} (x : SetTo2 prog w h S xs i) (k : ∀ o, h.get? S = some o → h'.get? S = some o) : SetTo2 prog w h' S xs i := by
  obtain ⟨ob, es, ep, tb, ho, more⟩ := x
  exact ⟨ob, es, ep, tb, k _ ho, more⟩
end
section
variable {prog : Program} {w : World} {A : Around} {E : Value → Shared → Prop} {s : Shared}
end
end My
namespace Nd
set_option autoImplicit false
open PySem PySem.Spec PySem.W PyProof.Rows L2 My Evl LamX
/-! ### a row beside an empty one, whatever it holds -/
def rNeNil (K : PySem.W.Frag) : R2 := fun x y H Q => ∃ a b xs, x = .ref a ∧ y = .ref b ∧ SqL K H a xs ∧ SqL K H b [] ∧ Q (.bl (!xs.isEmpty)) H
def rEqNil (K : PySem.W.Frag) : R2 := fun x y H Q => ∃ a b xs, x = .ref a ∧ y = .ref b ∧ SqL K H a xs ∧ SqL K H b [] ∧ Q (.bl xs.isEmpty) H
section
variable {X : Cx}
theorem op_neNil (hu : X.A.units + 64 < cLine) : OpR X (compareOp .NotEq) (rNeNil X.K) := by
  intro pins s σ H x y v u Q I rx ry h
  obtain ⟨a, b, xs, rfl, rfl, ha, hb, q⟩ := h
  cases (show v = Value.ref a from rx)
  cases (show u = Value.ref b from ry)
  obtain ⟨us, r1, p1, _⟩ := I.list ha
  obtain ⟨ws, r2, p2, _⟩ := I.list hb
  cases r2
  cases xs with
  | nil =>
    cases r1
    exact (SeqAt.RcNeAt.lists (e := fun _ => true) p1.isList p2.isList rfl (by omega) (fun j h1 => absurd h1 (Nat.not_lt_zero j))) _ _ _ _ ⟨.bl _, H, I, rfl, q⟩
  | cons x xs =>
    have : us.toArray.size ≠ 0 := by
      rw [List.size_toArray, ← r1.length, List.length_cons]
      omega
    exact (SeqAt.RcNeAt.lists_lengths p1.isList p2.isList (by simpa using this) (by omega)) _ _ _ _ ⟨.bl _, H, I, rfl, q⟩
theorem op_eqNil (hu : X.A.units + 64 < cLine) : OpR X (compareOp .Eq) (rEqNil X.K) := by
  intro pins s σ H x y v u Q I rx ry h
  obtain ⟨a, b, xs, rfl, rfl, ha, hb, q⟩ := h
  cases (show v = Value.ref a from rx)
  cases (show u = Value.ref b from ry)
  obtain ⟨us, r1, p1, _⟩ := I.list ha
  obtain ⟨ws, r2, p2, _⟩ := I.list hb
  cases r2
  cases xs with
  | nil =>
    cases r1
    exact (SeqAt.RcAt.lists (e := fun _ => true) p1.isList p2.isList rfl (by omega) (fun j h1 => absurd h1 (Nat.not_lt_zero j))) _ _ _ _ ⟨.bl _, H, I, rfl, q⟩
  | cons x xs =>
    have : us.toArray.size ≠ 0 := by
      rw [List.size_toArray, ← r1.length, List.length_cons]
      omega
    exact (SeqAt.RcAt.lists_lengths p1.isList p2.isList (by simpa using this) (by omega)) _ _ _ _ ⟨.bl _, H, I, rfl, q⟩
end
section
variable {K : PySem.W.Frag} {ta tb : TE} {σ : L2.St} {B : Hp} {ps : List Pr}
theorem ev_neNil (ha : EvP ta σ B (LqP K ps)) (hb : EvP tb σ B (LqP K [])) : Ev (tOp (rNeNil K) ta tb) σ B (.bl (!ps.isEmpty)) := fun H1 a Q k =>
  ha H1 a _ fun v B2 H2 g b => hb H2 (g.b.trans g.c) _ fun w B3 H3 g3 b3 => by
    obtain ⟨l, xs, rfl, hl, al⟩ := b
    obtain ⟨l2, ys, rfl, hl2, al2⟩ := b3
    have e2 : ys = [] := List.length_eq_zero_iff.mp al2.len
    subst e2
    have e : xs.isEmpty = ps.isEmpty := by
      have := al.len
      cases xs <;> cases ps <;> first | rfl | cases this
    refine ⟨l, l2, xs, rfl, rfl, ex_l (g.c.trans g3.a) hl, ex_l g3.c hl2, ?_⟩
    rw [e]
    exact k H3 (g.a.trans g3.a)
theorem ev_eqNil (ha : EvP ta σ B (LqP K ps)) (hb : EvP tb σ B (LqP K [])) : Ev (tOp (rEqNil K) ta tb) σ B (.bl ps.isEmpty) := fun H1 a Q k =>
  ha H1 a _ fun v B2 H2 g b => hb H2 (g.b.trans g.c) _ fun w B3 H3 g3 b3 => by
    obtain ⟨l, xs, rfl, hl, al⟩ := b
    obtain ⟨l2, ys, rfl, hl2, al2⟩ := b3
    have e2 : ys = [] := List.length_eq_zero_iff.mp al2.len
    subst e2
    have e : xs.isEmpty = ps.isEmpty := by
      have := al.len
      cases xs <;> cases ps <;> first | rfl | cases this
    refine ⟨l, l2, xs, rfl, rfl, ex_l (g.c.trans g3.a) hl, ex_l g3.c hl2, ?_⟩
    rw [e]
    exact k H3 (g.a.trans g3.a)
end
end Nd
namespace Nd
set_option autoImplicit false
open scoped Rat
/-! ### fractions are the rationals -/
def fr (r : Rat) : Int × Int := (r.num, (r.den : Int))
theorem fr_eq {n d : Int} (hd : 0 < d) (hg : Int.gcd n d = 1) : fr (n /. d) = (n, d) := by
  unfold fr
  rw [Rat.num_divInt, Rat.den_divInt, Int.gcd_comm, hg, if_neg (by omega), Int.sign_eq_one_of_pos hd]
  simp
  omega
theorem fr_pos (r : Rat) : 0 < (fr r).2 := by
  have := r.den_pos
  show (0 : Int) < (r.den : Int)
  omega
theorem fr_low (r : Rat) : Int.gcd (fr r).1 (fr r).2 = 1 := by
  have := r.reduced
  show Nat.gcd r.num.natAbs (r.den : Int).natAbs = 1
  rw [Int.natAbs_natCast]
  exact this
theorem fr_val (r : Rat) : (fr r).1 /. (fr r).2 = r := Rat.num_divInt_den r
/-- lowest terms of any fraction -/
theorem fr_lowest {n d : Int} (hd : 0 < d) : fr (n /. d) = (n / (Int.gcd n d : Int), d / (Int.gcd n d : Int)) := by
  have g0 : Int.gcd n d ≠ 0 := fun h => by
    have := (Int.gcd_eq_zero_iff.mp h).2
    omega
  have hn := Int.gcd_dvd_left (a := n) (b := d)
  have hd2 := Int.gcd_dvd_right (a := n) (b := d)
  have e : n /. d = (n / (Int.gcd n d : Int)) /. (d / (Int.gcd n d : Int)) := by
    have h1 : (n / (Int.gcd n d : Int)) * (Int.gcd n d : Int) = n := Int.ediv_mul_cancel hn
    have h2 : (d / (Int.gcd n d : Int)) * (Int.gcd n d : Int) = d := Int.ediv_mul_cancel hd2
    have := Rat.divInt_mul_right (n := n / (Int.gcd n d : Int)) (d := d / (Int.gcd n d : Int)) (a := (Int.gcd n d : Int)) (by omega)
    rw [h1, h2] at this
    exact this
  have hp : 0 < d / (Int.gcd n d : Int) := Int.ediv_pos_of_pos_of_dvd hd (by omega) hd2
  rw [e]
  refine fr_eq hp ?_
  exact Int.gcd_ediv_gcd_ediv_gcd (by omega)
theorem cop_mul {a b c : Int} (h : Int.gcd a b = 1) (k : Int.gcd a c = 1) : Int.gcd a (b * c) = 1 := by
  have h1 : Nat.Coprime a.natAbs b.natAbs := h
  have h2 : Nat.Coprime a.natAbs c.natAbs := k
  show Nat.gcd a.natAbs (b * c).natAbs = 1
  rw [Int.natAbs_mul]
  exact Nat.Coprime.mul_right h1 h2
theorem cop_mul' {a b c : Int} (h : Int.gcd b a = 1) (k : Int.gcd c a = 1) : Int.gcd (b * c) a = 1 := by
  rw [Int.gcd_comm] at h k ⊢
  exact cop_mul h k
theorem cop_dvd {a b c : Int} (h : Int.gcd a b = 1) (k : c ∣ b) : Int.gcd a c = 1 := by
  have h1 : Nat.Coprime a.natAbs b.natAbs := h
  exact Nat.Coprime.coprime_dvd_right (Int.natAbs_dvd_natAbs.mpr k) h1
theorem cop_dvd' {a b c : Int} (h : Int.gcd a b = 1) (k : c ∣ a) : Int.gcd c b = 1 := by
  rw [Int.gcd_comm] at h ⊢
  exact cop_dvd h k
/-- the product as the program has it -/
theorem fr_mul (r s : Rat) : fr (r * s) = ((fr r).1 / (Int.gcd (fr r).1 (fr s).2 : Int) * ((fr s).1 / (Int.gcd (fr s).1 (fr r).2 : Int)), (fr r).2 / (Int.gcd (fr s).1 (fr r).2 : Int) * ((fr s).2 / (Int.gcd (fr r).1 (fr s).2 : Int))) := by
  have hr := fr_low r
  have hs := fr_low s
  have pr := fr_pos r
  have ps := fr_pos s
  have er := fr_val r
  have es := fr_val s
  generalize (fr r).1 = a at *
  generalize (fr r).2 = b at *
  generalize (fr s).1 = c at *
  generalize (fr s).2 = d at *
  have l0 : (Int.gcd a d : Int) ≠ 0 := fun h => by
    have := (Int.gcd_eq_zero_iff.mp (Int.ofNat_eq_zero.mp h)).2
    omega
  have r0 : (Int.gcd c b : Int) ≠ 0 := fun h => by
    have := (Int.gcd_eq_zero_iff.mp (Int.ofNat_eq_zero.mp h)).2
    omega
  have la := Int.gcd_dvd_left (a := a) (b := d)
  have ld := Int.gcd_dvd_right (a := a) (b := d)
  have rc := Int.gcd_dvd_left (a := c) (b := b)
  have rb := Int.gcd_dvd_right (a := c) (b := b)
  have h1 := Int.ediv_mul_cancel la
  have h2 := Int.ediv_mul_cancel ld
  have h3 := Int.ediv_mul_cancel rc
  have h4 := Int.ediv_mul_cancel rb
  have c1 : Int.gcd (a / (Int.gcd a d : Int)) (d / (Int.gcd a d : Int)) = 1 := Int.gcd_ediv_gcd_ediv_gcd (by omega)
  have c2 : Int.gcd (c / (Int.gcd c b : Int)) (b / (Int.gcd c b : Int)) = 1 := Int.gcd_ediv_gcd_ediv_gcd (by omega)
  have p1 : 0 < d / (Int.gcd a d : Int) := Int.ediv_pos_of_pos_of_dvd ps (by omega) ld
  have p2 : 0 < b / (Int.gcd c b : Int) := Int.ediv_pos_of_pos_of_dvd pr (by omega) rb
  generalize a / (Int.gcd a d : Int) = a' at *
  generalize d / (Int.gcd a d : Int) = d' at *
  generalize c / (Int.gcd c b : Int) = c' at *
  generalize b / (Int.gcd c b : Int) = b' at *
  generalize (Int.gcd a d : Int) = l at *
  generalize (Int.gcd c b : Int) = m at *
  have e : r * s = (a' * c') /. (b' * d') := by
    rw [← er, ← es, Rat.divInt_mul_divInt, ← h1, ← h3, ← h4, ← h2]
    have : a' * l * (c' * m) = (a' * c') * (l * m) := by grind
    rw [this]
    have : b' * m * (d' * l) = (b' * d') * (l * m) := by grind
    rw [this]
    exact Rat.divInt_mul_right (Int.mul_ne_zero l0 r0)
  rw [e]
  refine fr_eq (Int.mul_pos p2 p1) ?_
  have ab : Int.gcd a' b' = 1 := cop_dvd (cop_dvd' hr ⟨l, h1.symm⟩) ⟨m, h4.symm⟩
  have cd : Int.gcd c' d' = 1 := cop_dvd (cop_dvd' hs ⟨m, h3.symm⟩) ⟨l, h2.symm⟩
  exact cop_mul (cop_mul' ab c2) (cop_mul' c1 cd)
/-- the sum as the program has it -/
theorem fr_add1 {r s : Rat} (h : (fr r).2 = 1) (k : (fr s).2 = 1) : fr (r + s) = ((fr r).1 + (fr s).1, 1) := by
  have er := fr_val r
  have es := fr_val s
  rw [h] at er
  rw [k] at es
  generalize (fr r).1 = a at *
  generalize (fr s).1 = c at *
  rw [← er, ← es, Rat.divInt_add_divInt _ _ (by omega) (by omega)]
  have : a * 1 + c * 1 = a + c := by omega
  rw [this]
  exact fr_eq (by omega) (Int.gcd_one_right (a + c))
theorem fr_add (r s : Rat) : fr (r + s) =
    (((fr r).1 * ((fr s).2 / (Int.gcd (fr r).2 (fr s).2 : Int)) + (fr s).1 * ((fr r).2 / (Int.gcd (fr r).2 (fr s).2 : Int))) / (Int.gcd ((fr r).1 * ((fr s).2 / (Int.gcd (fr r).2 (fr s).2 : Int)) + (fr s).1 * ((fr r).2 / (Int.gcd (fr r).2 (fr s).2 : Int))) (Int.gcd (fr r).2 (fr s).2 : Int) : Int),
     ((fr r).2 / (Int.gcd (fr r).2 (fr s).2 : Int)) * ((fr s).2 / (Int.gcd ((fr r).1 * ((fr s).2 / (Int.gcd (fr r).2 (fr s).2 : Int)) + (fr s).1 * ((fr r).2 / (Int.gcd (fr r).2 (fr s).2 : Int))) (Int.gcd (fr r).2 (fr s).2 : Int) : Int))) := by
  have hr := fr_low r
  have hs := fr_low s
  have pr := fr_pos r
  have ps := fr_pos s
  have er := fr_val r
  have es := fr_val s
  generalize (fr r).1 = a at *
  generalize (fr r).2 = b at *
  generalize (fr s).1 = c at *
  generalize (fr s).2 = d at *
  have g0 : (Int.gcd b d : Int) ≠ 0 := fun h => by
    have := (Int.gcd_eq_zero_iff.mp (Int.ofNat_eq_zero.mp h)).2
    omega
  have gb := Int.gcd_dvd_left (a := b) (b := d)
  have gd := Int.gcd_dvd_right (a := b) (b := d)
  have h1 := Int.ediv_mul_cancel gb
  have h2 := Int.ediv_mul_cancel gd
  have c1 : Int.gcd (b / (Int.gcd b d : Int)) (d / (Int.gcd b d : Int)) = 1 := Int.gcd_ediv_gcd_ediv_gcd (by omega)
  have p1 : 0 < b / (Int.gcd b d : Int) := Int.ediv_pos_of_pos_of_dvd pr (by omega) gb
  have p2 : 0 < d / (Int.gcd b d : Int) := Int.ediv_pos_of_pos_of_dvd ps (by omega) gd
  have gp : (0 : Int) < (Int.gcd b d : Int) := by omega
  generalize b / (Int.gcd b d : Int) = b' at *
  generalize d / (Int.gcd b d : Int) = d' at *
  generalize (Int.gcd b d : Int) = g at *
  -- the top, and what it has in common with g
  have tb : Int.gcd (a * d' + c * b') b' = 1 := by
    have : Int.gcd (a * d' + c * b') b' = Int.gcd (a * d') b' := by
      rw [Int.gcd_comm, Int.gcd_comm (a * d')]
      exact Int.gcd_add_mul_right_right ..
    rw [this]
    exact cop_mul' (cop_dvd hr ⟨g, h1.symm⟩) (by rw [Int.gcd_comm]; exact c1)
  have td : Int.gcd (a * d' + c * b') d' = 1 := by
    have : Int.gcd (a * d' + c * b') d' = Int.gcd (c * b') d' := by
      rw [Int.add_comm, Int.gcd_comm, Int.gcd_comm (c * b')]
      exact Int.gcd_add_mul_right_right ..
    rw [this]
    exact cop_mul' (cop_dvd hs ⟨g, h2.symm⟩) c1
  have ev : r + s = (a * d' + c * b') /. (b' * (d' * g)) := by
    rw [← er, ← es, Rat.divInt_add_divInt _ _ (by omega) (by omega), ← h1, ← h2]
    have : a * (d' * g) + c * (b' * g) = (a * d' + c * b') * g := by grind
    rw [this]
    have : b' * g * (d' * g) = (b' * (d' * g)) * g := by grind
    rw [this]
    exact Rat.divInt_mul_right g0
  generalize a * d' + c * b' = t at *
  have q0 : (Int.gcd t g : Int) ≠ 0 := fun h => by
    have := (Int.gcd_eq_zero_iff.mp (Int.ofNat_eq_zero.mp h)).2
    omega
  have qt := Int.gcd_dvd_left (a := t) (b := g)
  have qg := Int.gcd_dvd_right (a := t) (b := g)
  have h3 := Int.ediv_mul_cancel qt
  have h4 := Int.ediv_mul_cancel qg
  have c3 : Int.gcd (t / (Int.gcd t g : Int)) (g / (Int.gcd t g : Int)) = 1 := Int.gcd_ediv_gcd_ediv_gcd (by omega)
  have p3 : 0 < g / (Int.gcd t g : Int) := Int.ediv_pos_of_pos_of_dvd gp (by omega) qg
  have ed : d / (Int.gcd t g : Int) = d' * (g / (Int.gcd t g : Int)) := by
    rw [← h2, Int.mul_ediv_assoc _ qg]
  rw [ed]
  generalize t / (Int.gcd t g : Int) = t' at *
  generalize g / (Int.gcd t g : Int) = g' at *
  generalize (Int.gcd t g : Int) = q at *
  have e2 : r + s = t' /. (b' * (d' * g')) := by
    rw [ev, ← h3, ← h4]
    have : b' * (d' * (g' * q)) = b' * (d' * g') * q := by grind
    rw [this]
    exact Rat.divInt_mul_right q0
  rw [e2]
  refine fr_eq (Int.mul_pos p1 (Int.mul_pos p2 p3)) ?_
  exact cop_mul (cop_dvd' tb ⟨q, h3.symm⟩) (cop_mul (cop_dvd' td ⟨q, h3.symm⟩) c3)
end Nd
namespace Nd
set_option autoImplicit false
set_option linter.unusedSectionVars false
/-! ### sums by keys, in order -/
class Od (κ : Type) [DecidableEq κ] where
  lt : κ → κ → Bool
  irr : ∀ a, lt a a = false
  tr : ∀ {a b c}, lt a b = true → lt b c = true → lt a c = true
  tri : ∀ {a b}, a ≠ b → lt a b = true ∨ lt b a = true
open Lean.Grind
section
variable {κ : Type} [DecidableEq κ] {β : Type} [CommRing β]
theorem z_add (a : β) : 0 + a = a := by grind
theorem a_zero (a : β) : a + 0 = a := by grind
/-- what all pairs of a key come to -/
def co : List (κ × β) → κ → β
  | [], _ => 0
  | z :: l, k => (if z.1 = k then z.2 else 0) + co l k
@[simp] theorem co_nil (k : κ) : co ([] : List (κ × β)) k = 0 := rfl
theorem co_cons (z : κ × β) (l : List (κ × β)) (k : κ) : co (z :: l) k = (if z.1 = k then z.2 else 0) + co l k := rfl
theorem co_none {k : κ} : ∀ {l : List (κ × β)}, (∀ z ∈ l, z.1 ≠ k) → co l k = 0
  | [], _ => rfl
  | z :: l, h => by
    rw [co_cons, if_neg (h z List.mem_cons_self), co_none fun y hy => h y (List.mem_cons_of_mem _ hy), z_add]
theorem co_one {l : List (κ × β)} (nd : (l.map (·.1)).Nodup) {z : κ × β} (h : z ∈ l) : co l z.1 = z.2 := by
  induction l with
  | nil => cases h
  | cons y l ih =>
    rw [List.map_cons, List.nodup_cons] at nd
    rw [co_cons]
    rcases List.mem_cons.mp h with rfl | h
    · rw [if_pos rfl, co_none (fun x hx e => nd.1 (List.mem_map.mpr ⟨x, hx, e⟩)), a_zero]
    · rw [ih nd.2 h, if_neg (fun e => nd.1 (List.mem_map.mpr ⟨z, h, e.symm⟩)), z_add]
/-- a sum over all pairs of what is additive -/
def lin {γ : Type} [CommRing γ] (f : κ → β → γ) : List (κ × β) → γ
  | [] => 0
  | z :: l => f z.1 z.2 + lin f l
variable [Od κ]
/-- rising, and nothing is nought -/
structure Cn (l : List (κ × β)) : Prop where
  up : l.Pairwise fun a b => Od.lt a.1 b.1 = true
  nz : ∀ z ∈ l, z.2 ≠ 0
theorem Cn.tl {z : κ × β} {l : List (κ × β)} (h : Cn (z :: l)) : Cn l := ⟨(List.pairwise_cons.mp h.up).2, fun y hy => h.nz y (List.mem_cons_of_mem _ hy)⟩
theorem lt_ne {a b : κ} (h : Od.lt a b = true) : a ≠ b := fun e => by
  subst e
  rw [Od.irr] at h
  cases h
theorem Cn.nd {l : List (κ × β)} (h : Cn l) : (l.map (·.1)).Nodup := List.pairwise_map.mpr (h.up.imp fun k => lt_ne k)
theorem Cn.hd {z : κ × β} {l : List (κ × β)} (h : Cn (z :: l)) : co (z :: l) z.1 = z.2 := co_one h.nd List.mem_cons_self
theorem Cn.tl0 {z : κ × β} {l : List (κ × β)} (h : Cn (z :: l)) : co l z.1 = 0 := co_none fun y hy => (lt_ne ((List.pairwise_cons.mp h.up).1 y hy)).symm
theorem Cn.low {y : κ × β} {l : List (κ × β)} {k : κ} (h : Cn (y :: l)) (e : Od.lt k y.1 = true) : co (y :: l) k = 0 := co_none fun x hx => by
  rcases List.mem_cons.mp hx with rfl | hx
  · exact (lt_ne e).symm
  · exact (lt_ne (Od.tr e ((List.pairwise_cons.mp h.up).1 x hx))).symm
theorem cn_ext : ∀ {l m : List (κ × β)}, Cn l → Cn m → (∀ k, co l k = co m k) → l = m
  | [], [], _, _, _ => rfl
  | [], y :: m, _, b, h => absurd ((h y.1).trans b.hd).symm (b.nz y List.mem_cons_self)
  | z :: l, [], a, _, h => absurd (a.hd.symm.trans (h z.1)) (a.nz z List.mem_cons_self)
  | z :: l, y :: m, a, b, h => by
    by_cases e : z.1 = y.1
    · have h2 : z.2 = y.2 := by rw [← a.hd, ← b.hd, h z.1, e]
      have ez : z = y := Prod.ext e h2
      subst ez
      rw [cn_ext a.tl b.tl fun k => ?_]
      by_cases ek : z.1 = k
      · subst ek
        rw [a.tl0, b.tl0]
      · have := h k
        rw [co_cons, co_cons, if_neg ek, z_add, z_add] at this
        exact this
    · rcases Od.tri e with k | k
      · exact absurd (a.hd.symm.trans ((h z.1).trans (b.low k))) (a.nz z List.mem_cons_self)
      · exact absurd (b.hd.symm.trans ((h y.1).symm.trans (a.low k))) (b.nz y List.mem_cons_self)
def ins [DecidableEq β] (k : κ) (v : β) : List (κ × β) → List (κ × β)
  | [] => if v = 0 then [] else [(k, v)]
  | z :: l => if z.1 = k then (if z.2 + v = 0 then l else (k, z.2 + v) :: l) else if Od.lt k z.1 = true then (if v = 0 then z :: l else (k, v) :: z :: l) else z :: ins k v l
variable [DecidableEq β]
/-- the sums by keys: rising, none of them nought -/
def cf (l : List (κ × β)) : List (κ × β) := l.foldr (fun z a => ins z.1 z.2 a) []
theorem ins_mem {k : κ} {v : β} {x : κ × β} : ∀ {l : List (κ × β)}, x ∈ ins k v l → x.1 = k ∨ x ∈ l
  | [], h => by
    unfold ins at h
    split at h
    · cases h
    · exact .inl (by rw [List.mem_singleton.mp h])
  | z :: l, h => by
    unfold ins at h
    split at h
    · split at h
      · exact .inr (List.mem_cons_of_mem _ h)
      · rcases List.mem_cons.mp h with rfl | h
        · exact .inl rfl
        · exact .inr (List.mem_cons_of_mem _ h)
    · split at h
      · split at h
        · exact .inr h
        · rcases List.mem_cons.mp h with rfl | h
          · exact .inl rfl
          · exact .inr h
      · rcases List.mem_cons.mp h with rfl | h
        · exact .inr List.mem_cons_self
        · exact (ins_mem h).imp_right (List.mem_cons_of_mem _)
theorem cn_ins {k : κ} {v : β} : ∀ {l : List (κ × β)}, Cn l → Cn (ins k v l)
  | [], _ => by
    unfold ins
    split
    · exact ⟨.nil, fun _ h => by cases h⟩
    · rename_i e
      exact ⟨List.pairwise_singleton _ _, fun z h => by rw [List.mem_singleton.mp h]; exact e⟩
  | z :: l, h => by
    have hp := List.pairwise_cons.mp h.up
    unfold ins
    split
    · rename_i e
      split
      · exact h.tl
      · rename_i n
        exact ⟨List.pairwise_cons.mpr ⟨fun y hy => e ▸ hp.1 y hy, hp.2⟩, fun y hy => by
          rcases List.mem_cons.mp hy with rfl | hy
          · exact n
          · exact h.nz y (List.mem_cons_of_mem _ hy)⟩
    · rename_i e
      split
      · rename_i lt
        split
        · exact h
        · rename_i n
          exact ⟨List.pairwise_cons.mpr ⟨fun y hy => by
            rcases List.mem_cons.mp hy with rfl | hy
            · exact lt
            · exact Od.tr lt (hp.1 y hy), h.up⟩, fun y hy => by
            rcases List.mem_cons.mp hy with rfl | hy
            · exact n
            · exact h.nz y hy⟩
      · rename_i nl
        have ih := cn_ins (k := k) (v := v) h.tl
        refine ⟨List.pairwise_cons.mpr ⟨fun y hy => ?_, ih.up⟩, fun y hy => ?_⟩
        · rcases ins_mem hy with a | a
          · rw [a]
            rcases Od.tri e with b | b
            · exact b
            · exact absurd b nl
          · exact hp.1 y a
        · rcases List.mem_cons.mp hy with rfl | hy
          · exact h.nz _ List.mem_cons_self
          · exact ih.nz y hy
theorem lin_ins {γ : Type} [CommRing γ] {f : κ → β → γ} (f0 : ∀ k, f k 0 = 0) (fa : ∀ k a b, f k (a + b) = f k a + f k b) {k : κ} {v : β} : ∀ l : List (κ × β), lin f (ins k v l) = lin f l + f k v
  | [] => by
    unfold ins
    split
    · rename_i e
      rw [e, f0]
      exact (a_zero _).symm
    · show f k v + 0 = 0 + f k v
      grind
  | z :: l => by
    unfold ins
    split
    · rename_i e
      split
      · rename_i n
        show lin f l = f z.1 z.2 + lin f l + f k v
        have : f k (z.2 + v) = 0 := by rw [n, f0]
        rw [fa] at this
        rw [e]
        have h2 : f k z.2 + lin f l + f k v = (f k z.2 + f k v) + lin f l := by grind
        rw [h2, this, z_add]
      · show f k (z.2 + v) + lin f l = f z.1 z.2 + lin f l + f k v
        rw [fa, e]
        grind
    · split
      · split
        · rename_i n
          rw [n, f0, a_zero]
        · show f k v + (f z.1 z.2 + lin f l) = f z.1 z.2 + lin f l + f k v
          grind
      · show f z.1 z.2 + lin f (ins k v l) = f z.1 z.2 + lin f l + f k v
        rw [lin_ins f0 fa l]
        grind
theorem cn_cf : ∀ l : List (κ × β), Cn (cf l)
  | [] => ⟨.nil, fun _ h => by cases h⟩
  | z :: l => cn_ins (cn_cf l)
theorem lin_cf {γ : Type} [CommRing γ] {f : κ → β → γ} (f0 : ∀ k, f k 0 = 0) (fa : ∀ k a b, f k (a + b) = f k a + f k b) : ∀ l : List (κ × β), lin f (cf l) = lin f l
  | [] => rfl
  | z :: l => by
    show lin f (ins z.1 z.2 (cf l)) = f z.1 z.2 + lin f l
    rw [lin_ins f0 fa, lin_cf f0 fa l]
    grind
theorem co_lin (k : κ) : ∀ l : List (κ × β), co l k = lin (fun k' (v : β) => if k' = k then v else 0) l
  | [] => rfl
  | z :: l => by
    rw [co_cons, co_lin k l]
    rfl
theorem co_cf (l : List (κ × β)) (k : κ) : co (cf l) k = co l k := by
  rw [co_lin, co_lin, lin_cf]
  · intro k'
    split <;> rfl
  · intro k' a b
    split
    · rfl
    · exact (z_add _).symm
theorem cf_cn {l : List (κ × β)} (h : Cn l) : cf l = l := cn_ext (cn_cf l) h fun k => co_cf l k
end
end Nd
namespace Nd
set_option autoImplicit false
set_option linter.unusedSectionVars false
open scoped Rat
/-! ### how great the numbers are -/
/-- r times D is whole -/
def Wh (D : Nat) (r : Rat) : Prop := ∃ z : Int, r * ((D : Int) : Rat) = (z : Rat)
def ab (D : Nat) (r : Rat) : Nat := (r * ((D : Int) : Rat)).num.natAbs
theorem ab_of {D : Nat} {r : Rat} {z : Int} (h : r * ((D : Int) : Rat) = (z : Rat)) : ab D r = z.natAbs := by
  unfold ab
  rw [h, Rat.num_intCast]
theorem wh_nul {D : Nat} : Wh D 0 := ⟨0, by rw [Rat.zero_mul]; rfl⟩
theorem ab_nul {D : Nat} : ab D 0 = 0 := by rw [ab_of (z := 0) (by rw [Rat.zero_mul]; rfl)]; rfl
theorem wh_add {D : Nat} {r s : Rat} (h : Wh D r) (k : Wh D s) : Wh D (r + s) ∧ ab D (r + s) ≤ ab D r + ab D s := by
  obtain ⟨a, ha⟩ := h
  obtain ⟨b, hb⟩ := k
  have e : (r + s) * ((D : Int) : Rat) = ((a + b : Int) : Rat) := by rw [Rat.add_mul, ha, hb, Rat.intCast_add]
  refine ⟨⟨_, e⟩, ?_⟩
  rw [ab_of e, ab_of ha, ab_of hb]
  exact Int.natAbs_add_le a b
theorem wh_mul {D E : Nat} {r s : Rat} (h : Wh D r) (k : Wh E s) : Wh (D * E) (r * s) ∧ ab (D * E) (r * s) = ab D r * ab E s := by
  obtain ⟨a, ha⟩ := h
  obtain ⟨b, hb⟩ := k
  have e : (r * s) * (((D * E : Nat) : Int) : Rat) = ((a * b : Int) : Rat) := by
    rw [Rat.intCast_mul, ← ha, ← hb, Int.natCast_mul, Rat.intCast_mul]
    grind
  refine ⟨⟨_, e⟩, ?_⟩
  rw [ab_of e, ab_of ha, ab_of hb, Int.natAbs_mul]
theorem wh_c {c : Nat} : Wh c 1 ∧ ab c 1 = c := by
  have e : (1 : Rat) * ((c : Int) : Rat) = ((c : Int) : Rat) := Rat.one_mul _
  exact ⟨⟨_, e⟩, by rw [ab_of e]; rfl⟩
theorem wh_up {D : Nat} (c : Nat) {r : Rat} (h : Wh D r) : Wh (D * c) r ∧ ab (D * c) r = ab D r * c := by
  have := wh_mul h (wh_c (c := c)).1
  rw [Rat.mul_one, wh_c.2] at this
  exact this
section
variable {κ : Type} [DecidableEq κ]
def wt (D : Nat) (p : List (κ × Rat)) : Nat := (p.map fun t => ab D t.2).sum
structure Lim (D N : Nat) (p : List (κ × Rat)) : Prop where
  w : ∀ t ∈ p, Wh D t.2
  s : wt D p ≤ N
variable {D E N M : Nat} {p q : List (κ × Rat)}
theorem wt_cons (t : κ × Rat) : wt D (t :: p) = ab D t.2 + wt D p := by unfold wt; rw [List.map_cons, List.sum_cons]
theorem wt_app : wt D (p ++ q) = wt D p + wt D q := by unfold wt; rw [List.map_append, List.sum_append]
theorem Lim.le (h : Lim D N p) (k : N ≤ M) : Lim D M p := ⟨h.w, Nat.le_trans h.s k⟩
theorem Lim.nil : Lim D N ([] : List (κ × Rat)) := ⟨fun _ h => (by cases h), Nat.zero_le _⟩
theorem Lim.app (h : Lim D N p) (k : Lim D M q) : Lim D (N + M) (p ++ q) := ⟨fun t ht => by
  rcases List.mem_append.mp ht with a | a
  · exact h.w t a
  · exact k.w t a, by rw [wt_app]; exact Nat.add_le_add h.s k.s⟩
theorem Lim.l (h : Lim D N (p ++ q)) : Lim D N p := ⟨fun t ht => h.w t (List.mem_append_left _ ht), by have := h.s; rw [wt_app] at this; omega⟩
theorem Lim.r (h : Lim D N (p ++ q)) : Lim D N q := ⟨fun t ht => h.w t (List.mem_append_right _ ht), by have := h.s; rw [wt_app] at this; omega⟩
theorem Lim.at (h : Lim D N p) {t : κ × Rat} (ht : t ∈ p) : Wh D t.2 ∧ ab D t.2 ≤ N := by
  refine ⟨h.w t ht, Nat.le_trans ?_ h.s⟩
  obtain ⟨a, b, rfl⟩ := List.append_of_mem ht
  rw [wt_app, wt_cons]
  omega
theorem Lim.co (h : Lim D N p) (k : κ) : Wh D (co p k) ∧ ab D (co p k) ≤ N := by
  suffices ∀ p : List (κ × Rat), (∀ t ∈ p, Wh D t.2) → Wh D (Nd.co p k) ∧ ab D (Nd.co p k) ≤ wt D p by
    obtain ⟨a, b⟩ := this p h.w
    exact ⟨a, Nat.le_trans b h.s⟩
  intro p hp
  induction p with
  | nil => exact ⟨wh_nul, by rw [co_nil, ab_nul]; exact Nat.zero_le _⟩
  | cons t p ih =>
    obtain ⟨i1, i2⟩ := ih fun x hx => hp x (List.mem_cons_of_mem _ hx)
    have h1 := hp t List.mem_cons_self
    rw [co_cons, wt_cons]
    by_cases e : t.1 = k
    · rw [if_pos e]
      obtain ⟨j1, j2⟩ := wh_add h1 i1
      exact ⟨j1, by omega⟩
    · rw [if_neg e]
      obtain ⟨j1, j2⟩ := wh_add (wh_nul (D := D)) i1
      rw [ab_nul] at j2
      exact ⟨j1, by omega⟩
theorem Lim.up (h : Lim D N p) (c : Nat) : Lim (D * c) (N * c) p := by
  refine ⟨fun t ht => (wh_up c (h.w t ht)).1, Nat.le_trans (Nat.le_of_eq ?_) (Nat.mul_le_mul_right c h.s)⟩
  have hw := h.w
  clear h
  induction p with
  | nil => unfold wt; simp
  | cons t p ih =>
    rw [wt_cons, wt_cons, (wh_up c (hw t List.mem_cons_self)).2, ih fun x hx => hw x (List.mem_cons_of_mem _ hx), Nat.add_mul]
theorem Lim.map {ι : Type} [DecidableEq ι] {f : κ × Rat → ι × Rat} {c : Nat} (h : Lim D N p) (hf : ∀ t ∈ p, Wh D t.2 → Wh E (f t).2 ∧ ab E (f t).2 ≤ ab D t.2 * c) : Lim E (N * c) (p.map f) := by
  refine ⟨fun x hx => ?_, Nat.le_trans ?_ (Nat.mul_le_mul_right c h.s)⟩
  · obtain ⟨t, ht, rfl⟩ := List.mem_map.mp hx
    exact (hf t ht (h.w t ht)).1
  · have hw := h.w
    clear h
    induction p with
    | nil => unfold wt; simp
    | cons t p ih =>
      rw [List.map_cons, wt_cons, wt_cons, Nat.add_mul]
      exact Nat.add_le_add (hf t List.mem_cons_self (hw t List.mem_cons_self)).2 (ih (fun x hx => hf x (List.mem_cons_of_mem _ hx)) fun x hx => hw x (List.mem_cons_of_mem _ hx))
theorem Lim.filter (h : Lim D N p) (f : κ × Rat → Bool) : Lim D N (p.filter f) := by
  refine ⟨fun t ht => h.w t (List.mem_filter.mp ht).1, Nat.le_trans ?_ h.s⟩
  clear h
  induction p with
  | nil => exact Nat.le_refl _
  | cons t p ih =>
    rw [List.filter_cons, wt_cons]
    split
    · rw [wt_cons]
      omega
    · omega
variable [Od κ]
theorem lim_ins {k : κ} {v : Rat} (hv : Wh D v) (hw : ∀ t ∈ p, Wh D t.2) : (∀ t ∈ ins k v p, Wh D t.2) ∧ wt D (ins k v p) ≤ ab D v + wt D p := by
  induction p with
  | nil =>
    unfold ins
    split
    · exact ⟨fun _ h => (by cases h), Nat.zero_le _⟩
    · exact ⟨fun t h => by rw [List.mem_singleton.mp h]; exact hv, by rw [wt_cons]; exact Nat.le_refl _⟩
  | cons t p ih =>
    obtain ⟨i1, i2⟩ := ih fun x hx => hw x (List.mem_cons_of_mem _ hx)
    have h0 := hw t List.mem_cons_self
    have h1 : ∀ x ∈ p, Wh D x.2 := fun x hx => hw x (List.mem_cons_of_mem _ hx)
    obtain ⟨j1, j2⟩ := wh_add h0 hv
    unfold ins
    rw [wt_cons]
    split
    · split
      · exact ⟨h1, by omega⟩
      · refine ⟨fun x hx => ?_, by rw [wt_cons]; dsimp only; omega⟩
        rcases List.mem_cons.mp hx with rfl | hx
        · exact j1
        · exact h1 x hx
    · split
      · split
        · exact ⟨hw, by rw [wt_cons]; omega⟩
        · refine ⟨fun x hx => ?_, by rw [wt_cons, wt_cons]; exact Nat.le_refl _⟩
          rcases List.mem_cons.mp hx with rfl | hx
          · exact hv
          · exact hw x hx
      · refine ⟨fun x hx => ?_, by rw [wt_cons]; omega⟩
        rcases List.mem_cons.mp hx with rfl | hx
        · exact h0
        · exact i1 x hx
theorem Lim.cf (h : Lim D N p) : Lim D N (cf p) := by
  suffices ∀ p : List (κ × Rat), (∀ t ∈ p, Wh D t.2) → (∀ t ∈ Nd.cf p, Wh D t.2) ∧ wt D (Nd.cf p) ≤ wt D p by
    obtain ⟨a, b⟩ := this p h.w
    exact ⟨a, Nat.le_trans b h.s⟩
  intro p hp
  induction p with
  | nil => exact ⟨hp, Nat.le_refl _⟩
  | cons t p ih =>
    obtain ⟨i1, i2⟩ := ih fun x hx => hp x (List.mem_cons_of_mem _ hx)
    obtain ⟨j1, j2⟩ := lim_ins (k := t.1) (hp t List.mem_cons_self) i1
    refine ⟨j1, Nat.le_trans j2 ?_⟩
    rw [wt_cons]
    omega
end
/-- small enough to be divided by -/
def Sm (r : Rat) : Prop := r.num.natAbs < 2 ^ 4000 ∧ r.den < 2 ^ 4000
/-- limits under which all is done -/
structure LimB (D N : Nat) : Prop where
  p : 0 < D
  d : D < 2 ^ 4000
  n : N < 2 ^ 4000
end Nd
namespace Nd
set_option autoImplicit false
open PySem PySem.W L2 My Evl PyProof.Rows Lean.Grind
/-! ### derivatives and monomials in order -/
instance : Od Dv where
  lt u v := dataLt u.D v.D
  irr u := lex_irrefl _
  tr h k := lex_trans _ _ _ h k
  tri {u v} h := dlt_ne (alike_dv u v) (by rw [eqv_dv0, decide_eq_false h])
instance : Od Mo where
  lt m n := dataLt (moD m) (moD n)
  irr m := lex_irrefl _
  tr h k := lex_trans _ _ _ h k
  tri {m n} h := dlt_ne (alike_mo m n) (by rw [eqv_mo, decide_eq_false h])
abbrev Pq := List (Mo × Rat)
/-- a monomial as it should be -/
structure MoC (m : Mo) : Prop where
  c : Cn m
  p : ∀ x ∈ m, 0 < x.2
structure PoC (p : Pq) : Prop where
  c : Cn p
  m : ∀ t ∈ p, MoC t.1
def tq (t : Mo × Rat) : Mo × Fr := (t.1, fr t.2)
/-- monomials together -/
def mm (m n : Mo) : Mo := cf (m ++ n)
theorem mm_nil {m : Mo} (h : MoC m) : mm [] m = m := cf_cn h.c
/-- all terms of a product, one by one -/
def rowP (t : Mo × Rat) (q : Pq) : Pq := q.map fun s => (mm t.1 s.1, t.2 * s.2)
def mulR (p q : Pq) : Pq := p.flatMap fun t => rowP t q
def mulP (p q : Pq) : Pq := cf (mulR p q)
theorem mem_row {t : Mo × Rat} {q : Pq} {z : Mo × Rat} (h : z ∈ rowP t q) : ∃ s ∈ q, z.1 = mm t.1 s.1 := by
  obtain ⟨s, hs, rfl⟩ := List.mem_map.mp h
  exact ⟨s, hs, rfl⟩
theorem one_mul {p : Pq} (h : PoC p) : mulP [([], 1)] p = p := by
  unfold mulP
  have : mulR [([], 1)] p = p := by
    show rowP ([], 1) p ++ [] = p
    rw [List.append_nil]
    unfold rowP
    conv => rhs; rw [← List.map_id p]
    refine List.map_congr_left fun s hs => ?_
    show (mm [] s.1, (1 : Rat) * s.2) = s
    rw [mm_nil (h.m s hs), Rat.one_mul]
  rw [this]
  exact cf_cn h.c
/-! ### deriving -/
end Nd
namespace Nd
set_option autoImplicit false
open PySem PySem.Spec PySem.W PySem.Calls PyProof.Rows L2 My Evl
/-! ### dicts by nested keys: read -/
section
variable {X : Cx} {o i f : Expr} {pos apos cpos : Pos} {td ty tx : TE}
end
end Nd
namespace Nd
set_option autoImplicit false
open PySem PySem.Spec PySem.W PySem.Calls PyProof.Rows L2 My Evl
/-! ### dicts by nested keys: comprehensions -/
section
variable {X : Cx}
end
end Nd
namespace Nd
set_option autoImplicit false
open PySem PySem.W L2 My Evl Lean.Grind
/-! ### what a dict by nested keys holds -/
structure Ky (K : PySem.W.Frag) (κ : Type) where
  kp : κ → Pr
  kd : κ → PyData
  to : ∀ k, To K (kp k) (kd k)
  rf : ∀ {k : κ} {v : V} {H : Hp}, (kp k).P v H → ∃ a, v = .ref a
  ks : ∀ k, keyish (kd k) = true
  inj : ∀ {a b : κ}, nk (kd a) = nk (kd b) → a = b
  dp : ∀ k, (nk (kd k)).depth ≤ 8
section
variable {κ β : Type} [DecidableEq κ]
def KG {K : PySem.W.Frag} (ky : Ky K κ) (vp : β → Pr) : List (κ × β) → List NV → Hp → Prop
  | [], [], _ => True
  | z :: zs, x :: xs, B => (x.1 = nk (ky.kd z.1) ∧ (ky.kp z.1).P (.ref x.2.1) B ∧ (vp z.2).P x.2.2 B) ∧ KG ky vp zs xs B
  | [], _ :: _, _ => False
  | _ :: _, [], _ => False
def hasG (zs : List (κ × β)) (k : κ) : Bool := zs.any fun z => decide (z.1 = k)
def putG (zs : List (κ × β)) (k : κ) (v : β) : List (κ × β) := if hasG zs k = true then zs.map fun z => if z.1 = k then (z.1, v) else z else zs ++ [(k, v)]
def valG (zs : List (κ × β)) (k : κ) : Option β := (zs.find? fun z => decide (z.1 = k)).map (·.2)
variable {K : PySem.W.Frag} {ky : Ky K κ} {vp : β → Pr} {B B' H : Hp}
theorem KG.m (e : Ex B B') : ∀ {zs : List (κ × β)} {xs : List NV}, KG ky vp zs xs B → KG ky vp zs xs B'
  | [], [], _ => trivial
  | _ :: _, _ :: _, h => ⟨⟨h.1.1, (ky.kp _).m e h.1.2.1, (vp _).m e h.1.2.2⟩, KG.m e h.2⟩
theorem KG.len : ∀ {zs : List (κ × β)} {xs : List NV}, KG ky vp zs xs B → xs.length = zs.length
  | [], [], _ => rfl
  | _ :: _, _ :: _, h => congrArg Nat.succ (KG.len h.2)
theorem KG.at : ∀ {zs : List (κ × β)} {xs : List NV} {i : Nat} {x : NV}, KG ky vp zs xs B → xs[i]? = some x → ∃ z, zs[i]? = some z ∧ x.1 = nk (ky.kd z.1) ∧ (ky.kp z.1).P (.ref x.2.1) B ∧ (vp z.2).P x.2.2 B
  | [], [], i, x, _, h => by simp at h
  | z :: _, y :: _, 0, x, h, e => by
    obtain rfl := Option.some.inj e
    exact ⟨z, rfl, h.1⟩
  | _ :: _, _ :: _, i + 1, x, h, e => KG.at (i := i) h.2 e
theorem KG.has (k : κ) : ∀ {zs : List (κ × β)} {xs : List NV}, KG ky vp zs xs B → hasN xs (nk (ky.kd k)) = hasG zs k
  | [], [], _ => rfl
  | z :: zs, x :: xs, h => by
    have ih := KG.has k h.2
    unfold hasN hasG at *
    rw [List.any_cons, List.any_cons, ih, h.1.1]
    congr 1
    rw [Bool.eq_iff_iff, decide_eq_true_eq, decide_eq_true_eq]
    exact ⟨ky.inj, fun e => by rw [e]⟩
theorem KG.app : ∀ {zs ys : List (κ × β)} {xs us : List NV}, KG ky vp zs xs B → KG ky vp ys us B → KG ky vp (zs ++ ys) (xs ++ us) B
  | [], _, [], _, _, h => h
  | _ :: _, _, _ :: _, _, a, h => ⟨a.1, KG.app a.2 h⟩
theorem KG.set {k : κ} {f : β} {v : V} (hf : (vp f).P v B) : ∀ {zs : List (κ × β)} {xs : List NV}, KG ky vp zs xs B → KG ky vp (zs.map fun z => if z.1 = k then (z.1, f) else z) (xs.map fun x => if x.1 = nk (ky.kd k) then (x.1, x.2.1, v) else x) B
  | [], [], _ => trivial
  | z :: zs, x :: xs, h => by
    refine ⟨?_, KG.set hf h.2⟩
    dsimp only
    by_cases e : z.1 = k
    · rw [if_pos e, if_pos (by rw [h.1.1, e])]
      exact ⟨h.1.1, h.1.2.1, hf⟩
    · rw [if_neg e, if_neg (fun q => e (ky.inj (h.1.1.symm.trans q)))]
      exact h.1
theorem KG.put {k : κ} {f : β} {a : Addr} {v : V} {zs : List (κ × β)} {xs : List NV} (h : KG ky vp zs xs B) (ha : (ky.kp k).P (.ref a) B) (hf : (vp f).P v B) : KG ky vp (putG zs k f) (putN xs (nk (ky.kd k)) a v) B := by
  unfold putG putN
  rw [h.has k]
  cases hasG zs k with
  | true => exact h.set hf
  | false => exact h.app ⟨⟨rfl, ha, hf⟩, trivial⟩
theorem Ky.at_ {k : κ} {a : Addr} (ky : Ky K κ) (h : (ky.kp k).P (.ref a) H) : KeyAt K H a (nk (ky.kd k)) := ⟨ky.kd k, ky.to k _ _ h, ky.ks k, rfl, ky.dp k⟩
theorem KG.ok {zs : List (κ × β)} {xs : List NV} (h : KG ky vp zs xs B) (e : Ex B H) : KeysOk K H xs := fun x hx => by
  obtain ⟨i, hi⟩ := List.mem_iff_getElem?.mp hx
  obtain ⟨z, _, h1, h2, _⟩ := (h.m e).at hi
  rw [h1]
  exact ky.at_ h2
theorem KG.look (k : κ) : ∀ {zs : List (κ × β)} {xs : List NV}, KG ky vp zs xs B → (valG zs k = none ∧ look xs (nk (ky.kd k)) = none) ∨ ∃ f v, valG zs k = some f ∧ look xs (nk (ky.kd k)) = some v ∧ (vp f).P v B
  | [], [], _ => .inl ⟨rfl, rfl⟩
  | z :: zs, x :: xs, h => by
    have ih := KG.look k h.2
    unfold valG Nd.look at *
    rw [List.find?_cons, List.find?_cons]
    by_cases e : z.1 = k
    · rw [_root_.decide_eq_true e, _root_.decide_eq_true (by rw [h.1.1, e])]
      exact .inr ⟨_, _, rfl, rfl, h.1.2.2⟩
    · rw [decide_eq_false e, decide_eq_false (fun q => e (ky.inj (h.1.1.symm.trans q)))]
      exact ih
variable [CommRing β]
end
end Nd
namespace Nd
set_option autoImplicit false
open PySem PySem.Spec PySem.W PySem.Calls PyProof.Rows L2 My Evl
/-! ### d.items() walked, d a dict by nested keys that is locked -/
end Nd
namespace Nd
set_option autoImplicit false
open PySem PySem.W L2 My Evl
/-! ### a dict under way: made at H0, at d -/
section
variable {κ β : Type} [DecidableEq κ] {P : Program} {w : World} {K : PySem.W.Frag} {ky : Ky K κ} {vp : β → Pr}
structure DcAt (P : Program) (w : World) {K : PySem.W.Frag} (ky : Ky K κ) (vp : β → Pr) (B H0 : Hp) (d : Addr) (zs : List (κ × β)) (Bi H : Hp) : Prop where
  g : Gr B H0 Bi (wo d H)
  at_ : ∃ xs, H d = some (DN P w d xs) ∧ KG ky vp zs xs Bi
/-- a dict that holds this, as it is known -/
def DcP (P : Program) (w : World) {K : PySem.W.Frag} (ky : Ky K κ) (vp : β → Pr) (zs : List (κ × β)) : Pr :=
  ⟨fun v B => ∃ (d : Addr) (xs : List NV) (B0 : Hp), v = .ref d ∧ B d = some (DN P w d xs) ∧ B0 d = none ∧ Ex B0 B ∧ KG ky vp zs xs B0, fun e h => by
    obtain ⟨d, xs, B0, h1, h2, h3, h4, h5⟩ := h
    exact ⟨d, xs, B0, h1, e _ _ h2, h3, h4.trans e, h5⟩⟩
variable {B H0 Bi B2 H H2 : Hp} {d : Addr} {zs : List (κ × β)} {k : κ} {f f0 : β} {σ : L2.St} {D : Ends} {te ta tb ty tx tv : TE} {t tr : TA} {i : Nat} {p q : Pr} {ps qs : List Pr} {v : V}
theorem DcAt.ex (A : DcAt P w ky vp B H0 d zs Bi H) : Ex Bi H := A.g.c.trans wo_ex
theorem DcAt.no (A : DcAt P w ky vp B H0 d zs Bi H) : Bi d = none := wo_none A.g.c
theorem DcAt.on (A : DcAt P w ky vp B H0 d zs Bi H) : H d ≠ none := by
  obtain ⟨xs, h, _⟩ := A.at_
  rw [h]
  exact fun z => nomatch z
theorem DcAt.step (A : DcAt P w ky vp B H0 d zs Bi H) (k : Gr Bi H B2 H2) : DcAt P w ky vp B H0 d zs B2 H2 := by
  obtain ⟨xs, h, al⟩ := A.at_
  exact ⟨A.g.side A.on k, xs, k.a _ _ h, al.m k.b⟩
theorem DcAt.new (e : Ex B H) (hd : H d = none) : DcAt P w ky vp B H d [] B (upd H d (DN P w d [])) := ⟨by rw [wo_new hd]; exact Gr.refl e, [], upd_same, trivial⟩
theorem DcAt.put {xs : List NV} {a : Addr} (A : DcAt P w ky vp B H0 d zs Bi H) (h : H d = some (DN P w d xs)) (hx : KG ky vp zs xs Bi) (hk : (ky.kp k).P (.ref a) Bi) (hf : (vp f).P v Bi) :
    DcAt P w ky vp B H0 d (putG zs k f) Bi (upd H d (DN P w d (putN xs (nk (ky.kd k)) a v))) := ⟨by rw [wo_upd]; exact A.g, _, upd_same, hx.put hk hf⟩
theorem DcAt.fin (A : DcAt P w ky vp B H0 d zs Bi H) (h0 : H0 d = none) : ∃ B', Gr B H0 B' H ∧ (DcP P w ky vp zs).P (.ref d) B' := by
  obtain ⟨xs, hd, al⟩ := A.at_
  have hB := A.no
  refine ⟨upd Bi d (DN P w d xs), ⟨A.g.a.trans wo_ex, A.g.b.trans (Ex.new hB), fun b o e => ?_, fun x hb hh => ?_, fun z b qs q => ?_⟩, d, xs, Bi, rfl, upd_same, hB, Ex.new hB, al⟩
  · by_cases n : b = d
    · subst n
      rw [upd_same] at e
      rw [hd]
      exact e
    · rw [upd_ne n] at e
      exact A.ex _ _ e
  · have n : x ≠ d := fun z => hh (by rw [z]; exact h0)
    rw [upd_ne n]
    exact A.g.d x hb hh
  · by_cases n : b = d
    · subst n
      rw [upd_same] at q
      cases q
    · rw [upd_ne n] at q
      exact A.g.e z b qs q
end
end Nd
namespace Nd
set_option autoImplicit false
open PySem PySem.W L2 My Evl
section
variable {κ β : Type} [DecidableEq κ] {P : Program} {w : World} {K : PySem.W.Frag} {ky : Ky K κ} {vp : β → Pr}
variable {B H : Hp} {σ : L2.St} {te tk tv : TE} {g : TG} {tt : TT} {vs : List Nat} {ps : List Pr} {Q : VK}
end
end Nd
namespace Nd
set_option autoImplicit false
open PySem PySem.Spec PySem.W PySem.Calls PyProof.Rows L2 My Evl
/-! ### sorted of a list, by data -/
section
variable {X : Cx}
end
end Nd
namespace Nd
set_option autoImplicit false
open PySem PySem.W L2 My Evl PyProof.Rows
section
variable {te : TE} {σ : L2.St} {B H : Hp} {K : PySem.W.Frag} {ps : List Pr}
end
/-! ### sorting by data, any things -/
section
variable {α : Type}
end
section
variable {κ β : Type} [DecidableEq κ] [Od κ] [Lean.Grind.CommRing β] [DecidableEq β]
end
open Classical in
section
variable {C H : Hp}
end
end Nd
namespace My
set_option autoImplicit false
open PySem PySem.Spec PySem.W PySem.Calls PyProof.Rows L2 Evl NdefX LamX
section
variable {X : Cx} {pins : List (Addr × Obj)} {σ : L2.St} {A : Around} {f S I l : Addr} {fo : Obj} {R : Result → Shared → Prop} {xs : List V} {ks : List PyData} {H0 : Hp}
end
end My
namespace My
set_option autoImplicit false
open PySem PySem.Spec PySem.W PySem.Calls PyProof.Rows L2 Evl NdefX LamX
end My
namespace Nd
set_option autoImplicit false
open PySem PySem.Spec PySem.W PySem.Calls PyProof.Rows L2 My Evl
section
variable {X : Cx}
end
/-! ### a tuple, its object known as it stands -/
section
variable {κ β : Type} [DecidableEq κ] {P : Program} {w : World} {K : PySem.W.Frag} {ky : Ky K κ} {vp : β → Pr}
end
end Nd
namespace PySem.W
set_option autoImplicit false
open PySem PySem.Calls PyProof.Rows PySem.SeqAt
theorem keyLt'_general (x y : Value) : keyLt' general' x y = oneLt' false x y := rfl
section
variable {prog : Program} {w : World} {A : Around} {E : Value → Shared → Prop} {s : Shared}
/-- the call of tuple's own __lt__, as sorting makes it -/
theorem call_tuple_lt {Q : Value → Shared → Prop} {l b : Addr} {items items2 : Array Value} {e r : Nat → Bool} (hl : s.heap.IsTuple l items) (hb : s.heap.IsTuple b items2)
    (he : ∀ j (h1 : j < items.size) (h2 : j < items2.size), EqAt A.in1 s items[j] items2[j] (e j)) (hr : ∀ j (h1 : j < items.size) (h2 : j < items2.size), e j = false → RcLt A.in1 s items[j] items2[j] (r j))
    (h : Q (.bool (firstLt e r (decide (items.size < items2.size)) (List.range (min items.size items2.size)))) s) : wpAny (model prog w) A (call (.builtin "tuple.__lt__") [.ref l, .ref b]) Q E s := by
  obtain ⟨⟨cls, dd, data, sl⟩, ho, hc, n, hd⟩ := id hl
  obtain ⟨⟨cls2, dd2, data2, sl2⟩, ho2, hc2, n2, hd2⟩ := id hb
  simp only at hc hd hc2 hd2
  subst hc hd hc2 hd2
  exact call_meets F.slot_tuple_lt ⟨_, ho, rfl⟩ F.entry_tuple_lt (F.args_tuple_lt_2 _ _) (tuple_ltAt l b items items2 n n2 dd dd2 sl sl2 e r) ⟨ho, ho2, he, hr, h⟩
theorem oneLt_tup {xs ys : List PyData} {a b : Value} {as bs : List Addr} {Q : Bool → Shared → Prop} (ra : Reads s.heap a (.tuple xs) as) (rb : Reads s.heap b (.tuple ys) bs) (h : alike (.tuple xs) (.tuple ys) = true)
    (hu : A.units + min (PyData.tuple xs).depth (PyData.tuple ys).depth < cLine) (hq : Q (dataLt (.tuple xs) (.tuple ys)) s) : wpAny (model prog w) A (oneLt' true a b) Q E s := by
  have hal : alikeAll xs ys = true := by simpa [alike] using h
  cases ra with
  | @tuple l o vs n _ as₁ h1 h2 h3 h4 =>
    cases rb with
    | @tuple l' o' vs' n' _ bs₁ k1 k2 k3 k4 =>
      have n1 : vs.size = xs.length := by simpa using SeqAt.ReadsAll.length _ _ _ h4
      have n2 : vs'.size = ys.length := by simpa using SeqAt.ReadsAll.length _ _ _ k4
      rw [dataLt_tuple, ← firstLt_toks xs ys hal, ← n1, ← n2] at hq
      rw [oneLt'_eq]
      simp only [if_true]
      refine wpAny_bind (wpAny_cRoomFor (room_here hu) ?_)
      refine wpAny_bind (wpAny_callSpecialIfBound?_slot (T := "tuple") ⟨_, h1, h2⟩ F.slot_tuple_lt (call_tuple_lt (e := pairEq xs ys) (r := fun j => dataLt (xs.getD j .none) (ys.getD j .none)) ⟨_, h1, h2, _, h3⟩ ⟨_, k1, k2, _, k3⟩ (fun j j1 j2 => ?_) (fun j j1 j2 hj => ?_) ?_))
      · have := eqAt_alikeAll xs ys A.in1 s vs.toList vs'.toList _ _ h4 k4 hal (room_in hu) j (by simpa using j1) (by simpa using j2)
        simpa using this
      · have := rcLt_alikeAll xs ys A.in1 s vs.toList vs'.toList _ _ h4 k4 hal (room_in hu) j (by simpa using j1) (by simpa using j2) hj
        simpa using this
      · exact wpAny_truthy_bool hq
theorem each_right {α β : Type} {R : α → β → Prop} : ∀ {as : List α} {bs : List β}, EachIs R as bs → ∀ b ∈ bs, ∃ a ∈ as, R a b
  | _, _, .nil, b, h => absurd h (by simp)
  | _, _, .cons (a := x) h t, b, hb => by
    rcases List.mem_cons.mp hb with rfl | hb
    · exact ⟨x, List.mem_cons_self .., h⟩
    · obtain ⟨a, ha, r⟩ := each_right t b hb
      exact ⟨a, List.mem_cons_of_mem _ ha, r⟩
theorem tup_first {h : Heap} {xs : List PyData} {v : Value} {as : List Addr} (r : Reads h v (.tuple xs) as) : ∃ a o vs n, v = .ref a ∧ h.get? a = some o ∧ o.cls = .type "tuple" ∧ o.data = .seq vs n ∧ (vs[0]?.isSome = true ↔ xs ≠ []) := by
  cases r with
  | @tuple l o vs n _ as₁ h1 h2 h3 h4 =>
    have n1 : vs.size = xs.length := by simpa using SeqAt.ReadsAll.length _ _ _ h4
    refine ⟨l, o, vs, n, rfl, h1, h2, h3, ?_⟩
    cases xs with
    | nil =>
      have : vs[0]? = none := Array.getElem?_eq_none (by rw [n1]; exact Nat.le_refl _)
      rw [this]
      simp
    | cons x r =>
      have : vs[0]? = some (vs[0]'(by rw [n1]; exact Nat.succ_pos _)) := Array.getElem?_eq_getElem _
      rw [this]
      simp
theorem each_firsts {M : Model} : ∀ {vs : List Value} {ds : List PyData}, EachIs (fun v d => ∃ as, Reads s.heap v d as) vs ds → (∀ d ∈ ds, ∃ xs, d = .tuple xs) →
    ∃ fs : List (Option Value), (∀ (Q : List (Option Value) → Shared → Prop), Q fs s → wpAny M A (vs.mapM firstOfTuple') Q E s) ∧ EachIs (fun f d => f.isSome = true ↔ d ≠ .tuple []) fs ds
  | _, _, .nil, _ => ⟨[], fun Q q => by rw [List.mapM_nil]; exact wpAny_pure q, .nil⟩
  | _, _, .cons (b := d) ⟨as, r⟩ t, ht => by
    obtain ⟨fs, h1, h2⟩ := each_firsts (M := M) t fun d hd => ht d (List.mem_cons_of_mem _ hd)
    obtain ⟨xs, rfl⟩ := ht d (List.mem_cons_self ..)
    obtain ⟨a, o, vs, n, rfl, ho, hc, hd, hf⟩ := tup_first r
    refine ⟨vs[0]? :: fs, fun Q q => ?_, .cons ?_ h2⟩
    · rw [List.mapM_cons]
      refine wpAny_bind ?_
      rw [kas_first_eq]
      refine wpAny_bind (Looks.here (show Looks M s.heap (typeOf (.ref a)) o.cls from (Looks.ld ho).andThen .now) ?_)
      rw [hc, if_neg (by first | decide | simp)]
      refine wpAny_bind (listItems_at ho hd (wpAny_pure ?_))
      exact wpAny_bind (h1 (fun bs s' => wpAny M A (pure (vs[0]? :: bs)) Q E s') (wpAny_pure q))
    · rw [hf]
      constructor
      · intro h e
        injection e with e
        exact h e
      · intro h e
        exact h (by rw [e])
/-- tuples, some of them empty, can be sorted -/
theorem SortsAt.tups {vs : List Value} {ds : List PyData} (e : EachIs (fun v d => ∃ as, Reads s.heap v d as) vs ds) (hal : AllAlike ds) (hk : ∀ d ∈ ds, ∃ xs, d = PyData.tuple xs) (hu : ∀ d, d ∈ ds → A.units + d.depth < cLine) : SortsAt prog w A s (dataKind s.heap ds) vs := by
  by_cases hne : ∀ d ∈ ds, d ≠ PyData.tuple []
  · refine SortsAt.data e hal (.inl fun d hd => ?_) hu
    obtain ⟨xs, rfl⟩ := hk d hd
    cases xs with
    | nil => exact absurd rfl (hne _ hd)
    | cons x r => exact ⟨x, r, rfl⟩
  · have room : ∀ {d d' : PyData}, d ∈ ds → A.units + min d.depth d'.depth < cLine := fun {d d'} hd => Nat.lt_of_le_of_lt (Nat.add_le_add_left (Nat.min_le_left _ _) _) (hu d hd)
    have hsome : ∃ d ∈ ds, d = PyData.tuple [] := Classical.byContradiction fun hn => hne fun d hd he => hn ⟨d, hd, he⟩
    have kind : ∃ f : Bool, ∀ (E : Value → Shared → Prop) {Q : SortKind → Shared → Prop}, Q (cond f general' oneType') s → wpAny (model prog w) A (keyKind' vs.toArray) Q E s := by
      obtain ⟨fs, -, h2⟩ := each_firsts (A := A) (E := fun _ _ => True) (M := model prog w) e hk
      have hnall : (fs.toArray.all fun x => x.isSome) = false := by
        rw [List.all_toArray, List.all_eq_false]
        obtain ⟨d, hd, he⟩ := hsome
        obtain ⟨f, hf, hfd⟩ := each_right h2 d hd
        exact ⟨f, hf, fun q => hfd.mp q he⟩
      refine ⟨(fs.toArray[0]?.bind id).isSome, fun E Q hq => ?_⟩
      obtain ⟨fs', h1, h2'⟩ := each_firsts (A := A) (E := E) (M := model prog w) e hk
      rw [keyKind'_eq, List.mapM_toArray, map_eq_pure_bind]
      refine wpAny_bind (wpAny_bind (h1 _ (wpAny_pure ?_)))
      have hnall' : (fs'.toArray.all fun x => x.isSome) = false := by
        rw [List.all_toArray, List.all_eq_false]
        obtain ⟨d, hd, he⟩ := hsome
        obtain ⟨f, hf, hfd⟩ := each_right h2' d hd
        exact ⟨f, hf, fun q => hfd.mp q he⟩
      rw [hnall']
      rw [if_neg Bool.false_ne_true]
      have hsame : (fs'.toArray[0]?.bind id).isSome = (fs.toArray[0]?.bind id).isSome := by
        cases h2 with
        | nil =>
          cases h2'
          rfl
        | cons a b =>
          cases h2' with
          | cons a' b' =>
            simp only [List.getElem?_toArray, List.getElem?_cons_zero, Option.bind_some, id]
            rw [Bool.eq_iff_iff]
            exact a'.trans a.symm
      rw [hsame]
      cases hb : (fs.toArray[0]?.bind id).isSome with
      | true =>
        rw [hb] at hq
        rw [if_pos rfl]
        exact wpAny_pure hq
      | false =>
        rw [hb] at hq
        rw [if_neg Bool.false_ne_true]
        have looks : ∀ v ∈ vs, Looks (model prog w) s.heap (typeOf v) (Value.type "tuple") := fun v hv => by
          obtain ⟨d, hd, as, r⟩ := e.left v hv
          obtain ⟨xs, rfl⟩ := hk d hd
          exact looks_reads r
        have hpos : 0 < vs.length := by
          obtain ⟨d, hd, he⟩ := hsome
          obtain ⟨v, hv, -⟩ := each_right e d hd
          exact List.length_pos_of_mem hv
        rw [oneTypeOnly'_eq, List.mapM_toArray, map_eq_pure_bind]
        refine wpAny_bind (wpAny_bind (wpAny_bind (kas_mapM (r := Value.type "tuple") _ (fun v hv Q' hq => (looks v hv).here hq) (wpAny_pure ?_))))
        have hall : ((List.map (fun _ => Value.type "tuple") vs).toArray.all fun x => x == Value.type "tuple") = true := by
          simp only [List.all_toArray, List.all_map, List.all_eq_true]
          intro _ _
          rfl
        have h0 : (List.map (fun _ => Value.type "tuple") vs).toArray[0]? = some (Value.type "tuple") := by
          cases vs with
          | nil => exact absurd hpos (Nat.lt_irrefl _)
          | cons v vs => simp
        rw [h0]
        simp only [hall, if_true]
        exact wpAny_pure (wpAny_pure hq)
    obtain ⟨f, hkind⟩ := kind
    refine ⟨fun v hv => ?_, cond f general' oneType', ?_, fun _ E Q hq => hkind E hq⟩
    · obtain ⟨d, hd, as, r⟩ := e.left v hv
      exact ⟨_, dataKind_some hal hd r⟩
    · intro E x y a b Q ha hb hq
      obtain ⟨d, as, hd, ra, rfl⟩ := dataKind_inv ha
      obtain ⟨d', as', hd', rb, rfl⟩ := dataKind_inv hb
      obtain ⟨xs, rfl⟩ := hk d hd
      obtain ⟨ys, rfl⟩ := hk d' hd'
      cases f with
      | true =>
        show wpAny (model prog w) A (keyLt' general' x y) Q E s
        rw [keyLt'_general]
        exact oneLt_alike (fun h => absurd h Bool.false_ne_true) ra rb (hal _ hd _ hd') (fun h => nomatch h) (room hd) hq
      | false =>
        show wpAny (model prog w) A (keyLt' oneType' x y) Q E s
        rw [keyLt'_oneType]
        exact oneLt_tup ra rb (hal _ hd _ hd') (room hd) hq
end
end PySem.W
-- PART2
namespace Nd
set_option autoImplicit false
open PySem PySem.Spec PySem.W PySem.Calls PyProof.Rows L2 My Evl
section
variable {X : Cx} {pins : List (Addr × Obj)} {σ : L2.St} {H : Hp} {s : Shared} {A : Around} {E : Value → Shared → Prop}
end
section
variable {X : Cx} {pins : List (Addr × Obj)} {σ : L2.St} {H : Hp} {s : Shared}
end
end Nd
local macro_rules | `(tactic| walk_at "cond") => `(tactic| (refine My.isP ?_; first
  | decide
  | omega
  | (dsimp only; first | omega | decide)
  | exact ⟨by decide, by decide, by decide⟩
  | exact ⟨by decide, by decide⟩
  | exact ⟨by omega, by omega⟩
  | exact Or.inl ⟨by omega, by omega⟩
  | exact Or.inr ⟨by omega, by omega⟩))
local macro_rules | `(tactic| walk_at "go") => `(tactic| repeat (first
  | refine ⟨_, _, rfl, rfl, (by (walk_at "cond"); done), ?_⟩
  | refine ⟨_, _, rfl, rfl, ?_⟩
  | refine ⟨_, rfl, ?_⟩
  | refine ⟨rfl, ?_⟩
  | refine ⟨⟨_, rfl⟩, ?_⟩))
namespace Nd
set_option autoImplicit false
open PySem PySem.Spec PySem.W PyProof.Rows L2 My Evl
def strOf : PyData → Str
  | .str x => x
  | _ => Str.empty
def isStB : PyData → Bool
  | .str _ => true
  | _ => false
def axB : PyData → Bool
  | .str x => decide (x ∈ [("x" : Str), "y"])
  | _ => false
theorem axB_eq (d : PyData) : axB d = (isStB d && decide (strOf d ∈ [("x" : Str), "y"])) := by
  cases d <;> rfl
theorem isSt_ex {d : PyData} (h : isStB d = true) : d = .str (strOf d) := by
  cases d <;> first | rfl | exact absurd h (by simp [isStB])
def amgB (l m : Int) (d : PyData) : Bool := wholeB d && (decide (l ≤ intOf d) && decide (intOf d ≤ m))
def RamgE (K : PySem.W.Frag) : List Pr → Pr → Prop := fun ps p => ∃ (q : Pr) (d : PyData) (l m : Int), ToE K q d ∧ smB d = true ∧ ps = [q, IsV (.int l), IsV (.int m)] ∧ p = IsV (.bl (amgB l m d))
section
variable {K : PySem.W.Frag} {te ta tb : TE} {σ : L2.St} {B H : Hp} {d : PyData} {ds : List PyData} {v : V}
theorem ev_isStE (h : EvP te σ B (IsE K d)) : Ev (tCB (rIsi K) (tCons te (tCons (tC (.ty "str")) tNil))) σ B (.bl (isStB d)) := ev_isiE h (by cases d <;> (dsimp only [tyS, isStB]; decide +kernel))
theorem ev_strE (h : EvP te σ B (IsE K d)) (e : isStB d = true) : Ev te σ B (.str (strOf d)) := ev_p (h.imp fun v B1 _ x => by
  have x : De K B1 v d := x
  rw [isSt_ex e] at x
  cases x
  rfl)
end
end Nd
namespace K12
set_option autoImplicit false
open PySem PySem.W L2 Evl My Nd
def topS (i : Nat) : Stmt := PySem.Challenge.pw_rankedchains_k01_words_and_numbers.main.body.getD i (.Pass ⟨0, 0, 0, 0⟩)
theorem all1 {p : Pr} {vs : List V} {H : Hp} (h : AllP [p] vs H) : ∃ v, vs = [v] ∧ p.P v H := by
  match vs, h with
  | [v], h => exact ⟨v, rfl, h.1⟩
theorem all2 {p q : Pr} {vs : List V} {H : Hp} (h : AllP [p, q] vs H) : ∃ v u, vs = [v, u] ∧ p.P v H ∧ q.P u H := by
  match vs, h with
  | [v, u], h => exact ⟨v, u, rfl, h.1, h.2.1⟩
theorem all3 {p q r : Pr} {vs : List V} {H : Hp} (h : AllP [p, q, r] vs H) : ∃ v u t, vs = [v, u, t] ∧ p.P v H ∧ q.P u H ∧ r.P t H := by
  match vs, h with
  | [v, u, t], h => exact ⟨v, u, t, rfl, h.1, h.2.1, h.2.2.1⟩
section
variable {P : Program} {w : World} {K : PySem.W.Frag} {mg : Str → Option Value} {base : Heap}

/-- is_whole -/
abbrev s_is_whole : Stmt := topS 25
abbrev N_is_whole : List Str := ["thing"]
theorem sc_is_whole : FnScope N_is_whole ["thing"] (defScope s_is_whole) := ⟨rfl, rfl, rfl, by decide +kernel, rfl, by decide +kernel, by decide +kernel⟩
theorem ok_is_whole {f : Addr} {fd : FuncData} (F : Fun K "is_whole" "is_whole" s_is_whole f fd)   (n_isinstance : mg "isinstance" = none) (n_int : mg "int" = none) (n_bool : mg "bool" = none)  :
    FnOk P w K mg base CX0 2 f fd ["thing"] (spP (RBE K wholeB)) := by
  refine F.ok sc_is_whole (spP_len (by rintro _ _ ⟨_, _, _, _, rfl, rfl⟩; rfl)) (fun cdv A outer s H vs Q E hr h => ?_)
  obtain ⟨B, ps, p, eB, hv, ⟨qd, d, tq, hs, rfl, rfl⟩, q⟩ := h
  obtain ⟨v, rfl, h1⟩ := all1 hv
  have hu := hu_of hr
  refine ⟨_, (pss_one (ps_ret (pe_and (pe_callB call_isi (by rfl) n_isinstance (by decide +kernel) (pa_cons (pv 0) (pa_cons (pe_bltn (v := .ty "int") (u := .type "int") (by rfl) n_int (by decide +kernel) rfl) pa_nil))) (pe_one (pe_not (pe_callB call_isi (by rfl) n_isinstance (by decide +kernel) (pa_cons (pv 0) (pa_cons (pe_bltn (v := .ty "bool") (u := .type "bool") (by rfl) n_bool (by decide +kernel) rfl) pa_nil)))))))), ?_⟩
  have hd : EvP (tVar 0) [some v] B (IsE K d) := p_toE (p_var rfl h1) tq
  refine My.ps_ret eB (p_ev (v := .bl (wholeB d)) (ev_is (ev_andV (a := (match d with | .int _ => true | .bool _ => true | _ => false)) (b := (match d with | .bool _ => false | _ => true)) (ev_isiE (K := K) hd ?_) fun _ => ev_is (ev_notV (a := (match d with | .bool _ => true | _ => false)) (ev_isiE (K := K) hd ?_)) ?_) ?_)) fun v B1 H1 g hp => q v B1 H1 g hp
  · cases d <;> (dsimp only [tyS]; decide +kernel)
  · cases d <;> (dsimp only [tyS]; decide +kernel)
  · cases d <;> rfl
  · cases d <;> rfl

/-- is_name -/
abbrev s_is_name : Stmt := topS 27
abbrev N_is_name : List Str := ["thing", "sign"]
theorem sc_is_name : FnScope N_is_name ["thing"] (defScope s_is_name) := ⟨rfl, rfl, rfl, by decide +kernel, rfl, by decide +kernel, by decide +kernel⟩
theorem ok_is_name {f : Addr} {fd : FuncData} (F : Fun K "is_name" "is_name" s_is_name f fd)   (n_isinstance : mg "isinstance" = none) (n_str : mg "str" = none) (n_len : mg "len" = none) (n_all : mg "all" = none) {tk1 tk2 : Nat} (g_MOST_LETTERS : mg "MOST_LETTERS" = some (.int 8 tk1)) (g_LETTERS : mg "LETTERS" = some (.str "abcdefghijklmnopqrstuvwxyz" tk2)) :
    FnOk P w K mg base CX0 2 f fd ["thing"] (spP (RBE K nameB)) := by
  refine F.ok sc_is_name (spP_len (by rintro _ _ ⟨_, _, _, _, rfl, rfl⟩; rfl)) (fun cdv A outer s H vs Q E hr h => ?_)
  obtain ⟨B, ps, p, eB, hv, ⟨qd, d, tq, hs, rfl, rfl⟩, q⟩ := h
  obtain ⟨v, rfl, h1⟩ := all1 hv
  have hu := hu_of hr
  refine ⟨_, (pss_cons (ps_if (PW.pt (pw_or (pt_not (pt_val (pe_callB call_isi (by rfl) n_isinstance (by decide +kernel) (pa_cons (pv 0) (pa_cons (pe_bltn (v := .ty "str") (u := .type "str") (by rfl) n_str (by decide +kernel) rfl) pa_nil))))) (pw_or1 (pt_not (pt_chain op_le op_le pe_int (pe_callB call_len_str (by rfl) n_len (by decide +kernel) (pa_cons (pv 0) pa_nil)) (pe_glob (by rfl) (v := .int 8) g_MOST_LETTERS ⟨_, rfl⟩)))))) (pss_one (ps_ret pe_bl)) pss_nil)
    (pss_one (ps_ret (pe_callB (cr_all rfl) (by rfl) n_all (by decide +kernel) (pa_cons (pe_lc (own := [("sign", 1)]) rfl sc_is_name.nd (pi_str (pv 0)) (blkOk_by (N := N_is_name) (sc := defScope s_is_name) (by decide +kernel)) (fun _ _ _ _ _ => (pg_name (i := 1) sc_is_name.nd rfl (Or.inl rfl))) (fun _ _ _ _ _ => pts_nil) (fun _ _ _ _ _ => (pe_cmpR op_in_sign (pv 1) (pe_glob (by rfl) (v := .str "abcdefghijklmnopqrstuvwxyz") g_LETTERS ⟨_, rfl⟩) (by rfl)))) pa_nil))))), ?_⟩
  have hd : De K B v d := tq _ _ h1
  have isS : Ev (tCB (rIsi K) (tCons (tVar 0) (tCons (tC (.ty "str")) tNil))) [some v] B (.bl (match d with | .str _ => true | _ => false)) := ev_isiE (K := K) (p_var (p := IsE K d) rfl hd) (by cases d <;> (dsimp only [tyS]; decide +kernel))
  by_cases hx : ∃ x, d = .str x
  · obtain ⟨x, rfl⟩ := hx
    obtain rfl : v = .str x := by cases hd; rfl
    have hl : x.length ≤ 100000 := by
      have := hs
      unfold smB at this
      exact of_decide_eq_true this
    cases hb : decide ((1 : Int) ≤ (x.length : Int)) && decide ((x.length : Int) ≤ 8) with
    | false =>
      refine ps_ifT eB (et_is (et_or (a := false) (b := true) (et_is (et_not (et_test isS)) rfl) fun _ => et_is (et_not (et_test (ev_chain (r1 := fun i j => decide (i ≤ j)) (r2 := fun i j => decide (i ≤ j)) ev_c (ev_lenS (x := x) (ev_var rfl) hl) ev_c))) (by rw [hb]; rfl)) rfl) fun H1 e1 => ?_
      refine My.ps_ret (eB.trans e1) (p_c (v := .bl false)) fun v B1 H2 g hp => q v B1 H2 ((Gr.wide eB e1).trans g) ?_
      have : nameB (.str x) = false := by
        show (decide (1 ≤ x.length) && decide (x.length ≤ 8) && _) = false
        have e1 : (decide (1 ≤ x.length) && decide (x.length ≤ 8)) = false := by
          rw [← hb]
          congr 1 <;> (apply decide_eq_decide.mpr; omega)
        rw [e1]
        rfl
      rw [this]
      exact hp
    | true =>
      refine ps_ifN eB (et_is (et_or (a := false) (b := false) (et_is (et_not (et_test isS)) rfl) fun _ => et_is (et_not (et_test (ev_chain (r1 := fun i j => decide (i ≤ j)) (r2 := fun i j => decide (i ≤ j)) ev_c (ev_lenS (x := x) (ev_var rfl) hl) ev_c))) (by rw [hb]; rfl)) rfl) fun H1 e1 => ?_
      dsimp only
      simp only [Bool.and_eq_true, decide_eq_true_eq] at hb
      refine My.ps_ret (eB.trans e1) (p_ev (v := .bl (nameB (.str x))) (ev_is (ev_allL (K := K) (bs := (List.range x.cps.size).map fun i => decide (x.cps.getD i 0 ∈ (Str.ofString "abcdefghijklmnopqrstuvwxyz").cps.toList)) ?_) ?_)) fun v B1 H2 g hp => q v B1 H2 ((Gr.wide eB e1).trans g) hp
      rotate_left
      · rw [all_cps x fun c => decide (c ∈ (Str.ofString "abcdefghijklmnopqrstuvwxyz").cps.toList)]
        refine congrArg V.bl ?_
        show _ = isNmB x
        unfold isNmB
        rw [decide_eq_true (show 1 ≤ x.length by omega), decide_eq_true (show x.length ≤ 8 by omega)]
        exact congrArg (x.cps.toList.all) (funext fun c => low_let)
      rw [List.map_map]
      refine p_lcA (K := K) (src_str (x := x) (ev_var rfl)) (by show x.length ≤ _; omega) (fun i => .bool (decide (x.cps.getD i 0 ∈ (Str.ofString "abcdefghijklmnopqrstuvwxyz").cps.toList))) fun i v B1 hi e pv => ?_
      obtain rfl : v = .str (oneS x i) := pv
      exact ⟨[some (.str x), some (.str (oneS x i))], rfl, fun H2 Q e q => q, ed_bl (ev_sign (c := x.cps.getD i 0) (z := "abcdefghijklmnopqrstuvwxyz") (ev_var rfl) ev_c)⟩
  · have hn : nameB d = false := by cases d <;> first | rfl | exact absurd ⟨_, rfl⟩ hx
    refine ps_ifT eB (et_is (et_or (a := true) (b := true) (et_is (et_not (et_test isS)) (by cases d <;> first | rfl | exact absurd ⟨_, rfl⟩ hx)) fun z => nomatch z) rfl) fun H1 e1 => ?_
    refine My.ps_ret (eB.trans e1) (p_c (v := .bl false)) fun v B1 H2 g hp => q v B1 H2 ((Gr.wide eB e1).trans g) ?_
    rw [hn]
    exact hp

/-- is_axis -/
abbrev s_is_axis : Stmt := topS 28
abbrev N_is_axis : List Str := ["thing"]
theorem sc_is_axis : FnScope N_is_axis ["thing"] (defScope s_is_axis) := ⟨rfl, rfl, rfl, by decide +kernel, rfl, by decide +kernel, by decide +kernel⟩
theorem ok_is_axis {f : Addr} {fd : FuncData} (F : Fun K "is_axis" "is_axis" s_is_axis f fd)   (n_isinstance : mg "isinstance" = none) (n_str : mg "str" = none) {aA : Addr} (g_AXES : mg "AXES" = some (.ref aA)) (v_AXES : ∀ H, Dp K H (.ref aA) (.tuple ([("x" : Str), "y"].map .str))) :
    FnOk P w K mg base CX0 1 f fd ["thing"] (spP (RBE K axB)) := by
  refine F.ok sc_is_axis (spP_len (by rintro _ _ ⟨_, _, _, _, rfl, rfl⟩; rfl)) (fun cdv A outer s H vs Q E hr h => ?_)
  obtain ⟨B, ps, p, eB, hv, ⟨qd, d, tq, hs, rfl, rfl⟩, q⟩ := h
  obtain ⟨v, rfl, h1⟩ := all1 hv
  have hd : De K B v d := tq _ _ h1
  have hu := hu_of hr
  refine ⟨_, (pss_one (ps_ret (pe_and (pe_callB call_isi (by rfl) n_isinstance (by decide +kernel) (pa_cons (pv 0) (pa_cons (pe_bltn (v := .ty "str") (u := .type "str") (by rfl) n_str (by decide +kernel) rfl) pa_nil))) (pe_one (pe_cmpR op_in_seq (pv 0) (pe_glob (by rfl) (v := .ref aA) g_AXES rfl) (by rfl)))))), ?_⟩
  refine ps_ret eB (p_ev (v := .bl (axB d)) (ev_is (ev_andV (a := isStB d) (b := decide (strOf d ∈ [("x" : Str), "y"])) (ev_isStE (p_var (p := IsE K d) rfl hd)) fun e => ev_is (ev_inT (neg := false) (x := strOf d) (ys := ["x", "y"]) (ev_strE (p_var (p := IsE K d) rfl hd) e) (ed_ref (v_AXES B))) ?_) (by rw [axB_eq]))) fun v B1 H1 g hp => q v B1 H1 g hp
  simp only [Bool.false_eq_true, if_false]

/-- is_among -/
abbrev s_is_among : Stmt := topS 26
abbrev N_is_among : List Str := ["thing", "least", "most"]
theorem sc_is_among : FnScope N_is_among ["thing", "least", "most"] (defScope s_is_among) := ⟨rfl, rfl, rfl, by decide +kernel, rfl, by decide +kernel, by decide +kernel⟩
theorem ok_is_among {f : Addr} {fd : FuncData} (F : Fun K "is_among" "is_among" s_is_among f fd)  {f_is_whole : Addr} {d_is_whole : FuncData} (c_is_whole : Cal P w K mg base "is_whole" 2 ["thing"] (spP (RBE K wholeB)) f_is_whole d_is_whole)   :
    FnOk P w K mg base CX0 3 f fd ["thing", "least", "most"] (spP (RamgE K)) := by
  refine F.ok sc_is_among (spP_len (by rintro _ _ ⟨_, _, _, _, _, _, rfl, rfl⟩; rfl)) (fun cdv A outer s H vs Q E hr h => ?_)
  obtain ⟨B, ps, p, eB, hv, ⟨qd, d, l, m, tq, hs, rfl, rfl⟩, q⟩ := h
  obtain ⟨v1, v2, v3, rfl, h1, h2, h3⟩ := all3 hv
  obtain rfl : v2 = .int l := h2
  obtain rfl : v3 = .int m := h3
  have hd : De K B v1 d := tq _ _ h1
  have hu := hu_of hr
  refine ⟨_, (pss_one (ps_ret (pe_and (pe_call c_is_whole.G (hr.mono (by decide)) (by rfl) c_is_whole.m c_is_whole.k c_is_whole.b .nil pass0 (pa_cons (pv 0) pa_nil)) (pe_and (pe_call c_is_whole.G (hr.mono (by decide)) (by rfl) c_is_whole.m c_is_whole.k c_is_whole.b .nil pass0 (pa_cons (pv 1) pa_nil)) (pe_and (pe_call c_is_whole.G (hr.mono (by decide)) (by rfl) c_is_whole.m c_is_whole.k c_is_whole.b .nil pass0 (pa_cons (pv 2) pa_nil)) (pe_one (pe_chain op_le op_le (pv 1) (pv 0) (pv 2)))))))), ?_⟩
  have wh : ∀ (i : Nat) (j : Int), ([some v1, some (.int l), some (.int m)] : L2.St)[i]? = some (some (.int j)) → Ev (tCall (spP (RBE K wholeB)) [] E0 (tCons (tVar i) tNil)) [some v1, some (.int l), some (.int m)] B (.bl true) :=
    fun i j hi => ev_p (p_callP (ps := [IsV (.int j)]) (q_cons (p_varV hi) q_nil) ⟨_, .int j, toE_of to_int, smd_int, rfl, rfl⟩)
  refine ps_ret eB (p_ev (v := .bl (amgB l m d)) (ev_is (ev_andV (a := wholeB d) (b := true && (true && (decide (l ≤ intOf d) && decide (intOf d ≤ m)))) (ev_p (p_callP (ps := [IsE K d]) (q_cons (p_var rfl hd) q_nil) ⟨_, _, to_idE, hs, rfl, rfl⟩)) fun e => ev_andV (wh 1 l rfl) fun _ => ev_andV (wh 2 m rfl) fun _ => ?_) (by simp [amgB]))) fun v B1 H1 g hp => q v B1 H1 g hp
  exact ev_chain (r1 := fun i j => decide (i ≤ j)) (r2 := fun i j => decide (i ≤ j)) (ev_var rfl) (ev_inE (K := K) (p_var (p := IsE K (.int (intOf d))) rfl (by rw [← wholeB_ex e]; exact hd))) (ev_var rfl)

end
end K12
namespace K12
set_option autoImplicit false
open PySem PySem.W L2 Evl My Nd
section
variable {P : Program} {w : World} {K : PySem.W.Frag} {mg : Str → Option Value} {base : Heap}
/-- is_fraction -/
abbrev s_is_fraction : Stmt := topS 33
abbrev N_is_fraction : List Str := ["thing", "top", "bottom"]
theorem sc_is_fraction : FnScope N_is_fraction ["thing"] (defScope s_is_fraction) := ⟨rfl, rfl, rfl, by decide +kernel, rfl, by decide +kernel, by decide +kernel⟩
theorem ok_is_fraction {f : Addr} {fd : FuncData} (F : Fun K "is_fraction" "is_fraction" s_is_fraction f fd)  {f_is_whole : Addr} {d_is_whole : FuncData} (c_is_whole : Cal P w K mg base "is_whole" 2 ["thing"] (spP (RBE K wholeB)) f_is_whole d_is_whole) (n_isinstance : mg "isinstance" = none) (n_tuple : mg "tuple" = none) (n_len : mg "len" = none) (g_gcd : mg "gcd" = some (.builtin "math.gcd")) :
    FnOk P w K mg base CX0 3 f fd ["thing"] (spP (RBE K frB)) := by
  refine F.ok sc_is_fraction (spP_len (by rintro _ _ ⟨_, _, _, _, rfl, rfl⟩; rfl)) (fun cdv A outer s H vs Q E hr h => ?_)
  obtain ⟨B, ps, p, eB, hv, ⟨qd, d, tq, hs, rfl, rfl⟩, q⟩ := h
  obtain ⟨v, rfl, h1⟩ := all1 hv
  have hu := hu_of hr
  refine ⟨_, (pss_cons (ps_if (PW.pt (pw_or (pt_not (pt_val (pe_callB call_isi (by rfl) n_isinstance (by decide +kernel) (pa_cons (pv 0) (pa_cons (pe_bltn (v := .ty "tuple") (u := .type "tuple") (by rfl) n_tuple (by decide +kernel) rfl) pa_nil))))) (pw_or1 (pt_cmpR op_ne (pe_callB call_len_seq (by rfl) n_len (by decide +kernel) (pa_cons (pv 0) pa_nil)) pe_int (nomark _))))) (pss_one (ps_ret pe_bl)) pss_nil)
    (pss_cons (ps_asg (pv 0) (pg_tup (by rfl) (pgs_cons (pg_name (i := 1) sc_is_fraction.nd rfl (by first | exact .inl rfl | exact .inr rfl)) (pgs_cons (pg_name (i := 2) sc_is_fraction.nd rfl (by first | exact .inl rfl | exact .inr rfl)) pgs_nil))))
    (pss_one (ps_ret (pe_and (pe_call c_is_whole.G (hr.mono (by decide)) (by rfl) c_is_whole.m c_is_whole.k c_is_whole.b .nil pass0 (pa_cons (pv 1) pa_nil)) (pe_and (pe_call c_is_whole.G (hr.mono (by decide)) (by rfl) c_is_whole.m c_is_whole.k c_is_whole.b .nil pass0 (pa_cons (pv 2) pa_nil)) (pe_and (pe_cmpR op_gt (pv 2) pe_int (nomark _)) (pe_one (pe_cmpR op_eq (pe_callBfun cr_gcd (by rfl) g_gcd (pa_cons (pv 1) (pa_cons (pv 2) pa_nil))) pe_int (nomark _)))))))))), ?_⟩
  have hd : De K B v d := tq _ _ h1
  cases ht : tupN 2 d with
  | false =>
    refine ps_ifT eB (et_is (et_tupNE (n := 2) (p_var (p := IsE K d) rfl hd)) (by rw [ht]; rfl)) fun H1 e1 => ?_
    refine My.ps_ret (eB.trans e1) (p_c (v := .bl false)) fun v B1 H2 g hp => q v B1 H2 ((Gr.wide eB e1).trans g) ?_
    rw [show frB d = false from by unfold frB; rw [ht]; rfl]
    exact hp
  | true =>
    refine ps_ifN eB (et_is (et_tupNE (n := 2) (p_var (p := IsE K d) rfl hd)) (by rw [ht]; rfl)) fun H1 e1 => ?_
    dsimp only
    have s0 := smd_it hs 0
    have s1 := smd_it hs 1
    have ed : frB d = (wholeB (it 0 d) && (wholeB (it 1 d) && (decide (0 < intOf (it 1 d)) && decide (Nat.gcd (intOf (it 0 d)).natAbs (intOf (it 1 d)).natAbs = 1)))) := by unfold frB; rw [ht]; rfl
    refine ps_un2 (K := K) (p := IsE K (it 0 d)) (q := IsE K (it 1 d)) (eB.trans e1) (p_var (p := TuP K [IsE K (it 0 d), IsE K (it 1 d)]) rfl (by rw [tpl2 ht] at hd; exact tu_e hd)) fun w1 w2 B2 H2 g2 n1 n2 => ?_
    dsimp only
    refine My.ps_ret g2.c (p_ev (v := .bl (frB d)) (ev_is (ev_andV (a := wholeB (it 0 d)) (b := wholeB (it 1 d) && (decide (0 < intOf (it 1 d)) && decide (Nat.gcd (intOf (it 0 d)).natAbs (intOf (it 1 d)).natAbs = 1))) (ev_p (p_callP (ps := [IsE K (it 0 d)]) (q_cons (p_var rfl n1) q_nil) ⟨_, _, to_idE, s0, rfl, rfl⟩)) fun k0 =>
      ev_andV (ev_p (p_callP (ps := [IsE K (it 1 d)]) (q_cons (p_var rfl n2) q_nil) ⟨_, _, to_idE, s1, rfl, rfl⟩)) fun k1 => ev_andV (ev_op (ev_inE (K := K) (p_var (p := IsE K (.int (intOf (it 1 d)))) rfl (by rw [← wholeB_ex k1]; exact n2))) ev_c rv_I0) fun _ => ev_is (ev_op (ev_gcd (ev_inE (K := K) (p_var (p := IsE K (.int (intOf (it 0 d)))) rfl (by rw [← wholeB_ex k0]; exact n1))) (ev_inE (K := K) (p_var (p := IsE K (.int (intOf (it 1 d)))) rfl (by rw [← wholeB_ex k1]; exact n2)))) ev_c (rv_eq rfl)) ?_) (by rw [ed]))) fun v B3 H3 g hp => q v B3 H3 (((Gr.wide eB e1).trans g2).trans g) hp
    refine congrArg V.bl ?_
    apply decide_eq_decide.mpr
    constructor
    · intro z
      have := V.int.inj z
      omega
    · intro z
      rw [z]
      rfl

end
end K12
namespace Nd
set_option autoImplicit false
open PySem PySem.W L2 My Evl
open scoped Rat
def rtP (K : PySem.W.Frag) (r : Rat) : Pr := frP K (fr r)
def Rprod (K : PySem.W.Frag) : List Pr → Pr → Prop := fun ps p => ∃ r s : Rat, Sm r ∧ Sm s ∧ ps = [rtP K r, rtP K s] ∧ p = rtP K (r * s)
def Rsum (K : PySem.W.Frag) : List Pr → Pr → Prop := fun ps p => ∃ r s : Rat, Sm r ∧ Sm s ∧ ps = [rtP K r, rtP K s] ∧ p = rtP K (r + s)
theorem lg {n k : Nat} (h : n < 2 ^ k) : n.log2 ≤ k := by
  by_cases e : n = 0
  · subst e
    rw [Nat.log2_zero]
    exact Nat.zero_le _
  · exact Nat.le_of_lt ((Nat.log2_lt e).mpr h)
theorem lg_le {n m k : Nat} (h : n < 2 ^ k) (l : m ≤ n) : m.log2 ≤ k := lg (Nat.lt_of_le_of_lt l h)
section
variable {te ta tb : TE} {σ : L2.St} {B : Hp} {K : PySem.W.Frag} {r s : Rat}
theorem ev_top (h : EvP te σ B (rtP K r)) : Ev (tOp (rIxT K) te (tC (.int 0))) σ B (.int (fr r).1) := ev_p (p_ixT h p_c rfl)
theorem ev_bot (h : EvP te σ B (rtP K r)) : Ev (tOp (rIxT K) te (tC (.int 1))) σ B (.int (fr r).2) := ev_p (p_ixT h p_c rfl)
theorem ev_mulW {i j : Int} {k : Nat} (ha : Ev ta σ B (.int i)) (hb : Ev tb σ B (.int j)) (hi : i.natAbs.log2 ≤ k) (hj : j.natAbs.log2 ≤ k) (hk : k ≤ 100000 := by decide) : Ev (tOp (rI CMulW fun i j => .int (i * j)) ta tb) σ B (.int (i * j)) := ev_op ha hb (rv_I (by show _ + _ < _; omega))
theorem ev_divW {i j : Int} (ha : Ev ta σ B (.int i)) (hb : Ev tb σ B (.int j)) (h : 0 < j ∧ j.natAbs.log2 < 9000) : Ev (tOp (rI CDivW fun i j => .int (i / j)) ta tb) σ B (.int (i / j)) := ev_op ha hb (rv_I h)
theorem ev_addI {i j : Int} (ha : Ev ta σ B (.int i)) (hb : Ev tb σ B (.int j)) : Ev (tOp (rI0 fun i j => .int (i + j)) ta tb) σ B (.int (i + j)) := ev_op ha hb rv_I0
end
theorem gcd_dv {a b : Int} (hb : 0 < b) (hl : b.natAbs < 2 ^ 4000) : 0 < ((Nat.gcd a.natAbs b.natAbs : Nat) : Int) ∧ ((Nat.gcd a.natAbs b.natAbs : Nat) : Int).natAbs.log2 < 9000 := by
  have h0 : 0 < b.natAbs := by omega
  have h1 := Nat.gcd_pos_of_pos_right a.natAbs h0
  refine ⟨by omega, ?_⟩
  rw [Int.natAbs_natCast]
  exact Nat.lt_of_le_of_lt (lg_le hl (Nat.gcd_le_right _ h0)) (by decide)
theorem div_na (a b : Int) : (a / b).natAbs ≤ a.natAbs := Int.natAbs_ediv_le_natAbs a b
theorem fr_mul1 {r s : Rat} (h : (fr r).2 = 1) (k : (fr s).2 = 1) : fr (r * s) = ((fr r).1 * (fr s).1, 1) := by
  rw [fr_mul, h, k]
  simp
theorem sm_top {r : Rat} (h : Sm r) : (fr r).1.natAbs < 2 ^ 4000 := h.1
theorem sm_bot {r : Rat} (h : Sm r) : (fr r).2.natAbs < 2 ^ 4000 := h.2
theorem fr_addc {r s : Rat} (h : Int.gcd (fr r).2 (fr s).2 = 1) : fr (r + s) = ((fr r).1 * (fr s).2 + (fr s).1 * (fr r).2, (fr r).2 * (fr s).2) := by
  rw [fr_add, h]
  simp
end Nd
namespace K12
set_option autoImplicit false
open PySem PySem.W L2 Evl My Nd
section
variable {P : Program} {w : World} {K : PySem.W.Frag} {mg : Str → Option Value} {base : Heap}

/-- product -/
abbrev s_product : Stmt := topS 38
abbrev N_product : List Str := ["one", "other", "left", "right"]
theorem sc_product : FnScope N_product ["one", "other"] (defScope s_product) := ⟨rfl, rfl, rfl, by decide +kernel, rfl, by decide +kernel, by decide +kernel⟩
theorem ok_product {f : Addr} {fd : FuncData} (F : Fun K "product" "product" s_product f fd)    (g_gcd : mg "gcd" = some (.builtin "math.gcd")) :
    FnOk P w K mg base CX0 1 f fd ["one", "other"] (spP (Rprod K)) := by
  refine F.ok sc_product (spP_len (by rintro _ _ ⟨r, s, _, _, rfl, rfl⟩; rfl)) (fun cdv A outer s H vs Q E hr h => ?_)
  obtain ⟨B, ps, p, eB, hv, ⟨r, s, hr1, hs1, rfl, rfl⟩, q⟩ := h
  obtain ⟨v0, v1, rfl, h0, h1⟩ := all2 hv
  have hu := hu_of hr
  refine ⟨_, (pss_cons (ps_if (PW.pt (pw_and (pt_cmpR op_eq (pe_ix ix_tup (pv 0) pe_int (fun _ _ => rfl)) pe_int (nomark _)) (pw_and1 (pt_cmpR op_eq (pe_ix ix_tup (pv 1) pe_int (fun _ _ => rfl)) pe_int (nomark _))))) (pss_one (ps_ret (pe_tup (pa_cons (pe_op op_mulW (pe_ix ix_tup (pv 0) pe_int (fun _ _ => rfl)) (pe_ix ix_tup (pv 1) pe_int (fun _ _ => rfl))) (pa_cons pe_int pa_nil))))) pss_nil)
    (pss_cons (ps_set (i := 2) sc_product.nd rfl (by first | exact .inl rfl | exact .inr rfl) (pe_callBfun cr_gcd (by rfl) g_gcd (pa_cons (pe_ix ix_tup (pv 0) pe_int (fun _ _ => rfl)) (pa_cons (pe_ix ix_tup (pv 1) pe_int (fun _ _ => rfl)) pa_nil))))
    (pss_cons (ps_set (i := 3) sc_product.nd rfl (by first | exact .inl rfl | exact .inr rfl) (pe_callBfun cr_gcd (by rfl) g_gcd (pa_cons (pe_ix ix_tup (pv 1) pe_int (fun _ _ => rfl)) (pa_cons (pe_ix ix_tup (pv 0) pe_int (fun _ _ => rfl)) pa_nil))))
    (pss_one (ps_ret (pe_tup (pa_cons (pe_op op_mulW (pe_op op_fdivW (pe_ix ix_tup (pv 0) pe_int (fun _ _ => rfl)) (pv 2)) (pe_op op_fdivW (pe_ix ix_tup (pv 1) pe_int (fun _ _ => rfl)) (pv 3))) (pa_cons (pe_op op_mulW (pe_op op_fdivW (pe_ix ix_tup (pv 0) pe_int (fun _ _ => rfl)) (pv 3)) (pe_op op_fdivW (pe_ix ix_tup (pv 1) pe_int (fun _ _ => rfl)) (pv 2))) pa_nil)))))))), ?_⟩
  have pr := fr_pos r
  have pq := fr_pos s
  have tr := sm_top hr1
  have tq := sm_top hs1
  have br := sm_bot hr1
  have bq := sm_bot hs1
  have tst := et_and (σ := [some v0, some v1, none, none]) (et_test (ev_op (ev_bot (K := K) (p_var (i := 0) rfl h0)) (ev_c (v := .int 1)) (rv_eq rfl))) (fun _ => et_test (ev_op (ev_bot (K := K) (p_var (i := 1) rfl h1)) (ev_c (v := .int 1)) (rv_eq rfl)))
  by_cases hc : (fr r).2 = 1 ∧ (fr s).2 = 1
  · refine My.ps_ifT eB (et_is tst (by simp [hc.1, hc.2])) fun H1 e1 => ?_
    refine My.ps_ret (eB.trans e1) (p_tup (K := K) (ps := [IsV (.int ((fr r).1 * (fr s).1)), IsV (.int 1)]) (q_cons (p_ev (ev_mulW (ev_top (p_var rfl h0)) (ev_top (p_var rfl h1)) (lg tr) (lg tq))) (q_cons p_c q_nil)) (by show 2 ≤ 100000; decide)) fun v B1 H2 g hp => q v B1 H2 ((Gr.wide eB e1).trans g) ?_
    show (frP K (fr (r * s))).P v B1
    rw [fr_mul1 hc.1 hc.2]
    exact hp
  · refine ps_ifN eB (et_is tst (by rw [Bool.eq_false_iff]; simpa using hc)) fun H1 e1 => ?_
    dsimp only
    refine ps_asgN (fun x => [some v0, some v1, some x, none]) (eB.trans e1) (p_ev (ev_gcd (ev_top (p_var rfl h0)) (ev_bot (p_var rfl h1)))) (fun x B2 H2 g2 hx => ?_) (fun _ => rfl)
    obtain rfl := (show x = _ from hx)
    have h0' := (rtP K r).m g2.b h0
    have h1' := (rtP K s).m g2.b h1
    dsimp only
    refine ps_asgN (fun x => [some v0, some v1, some (.int ((Nat.gcd (fr r).1.natAbs (fr s).2.natAbs : Nat) : Int)), some x]) g2.c (p_ev (ev_gcd (ev_top (p_var rfl h1')) (ev_bot (p_var rfl h0')))) (fun x B3 H3 g3 hx => ?_) (fun _ => rfl)
    obtain rfl := (show x = _ from hx)
    have h0 := (rtP K r).m g3.b h0'
    have h1 := (rtP K s).m g3.b h1'
    dsimp only
    have gl := gcd_dv (a := (fr r).1) pq bq
    have gr := gcd_dv (a := (fr s).1) pr br
    refine My.ps_ret g3.c (p_tup (K := K) (ps := [IsV (.int ((fr r).1 / ((Nat.gcd (fr r).1.natAbs (fr s).2.natAbs : Nat) : Int) * ((fr s).1 / ((Nat.gcd (fr s).1.natAbs (fr r).2.natAbs : Nat) : Int)))), IsV (.int ((fr r).2 / ((Nat.gcd (fr s).1.natAbs (fr r).2.natAbs : Nat) : Int) * ((fr s).2 / ((Nat.gcd (fr r).1.natAbs (fr s).2.natAbs : Nat) : Int))))])
      (q_cons (p_ev (ev_mulW (ev_divW (ev_top (p_var rfl h0)) (ev_var rfl) gl) (ev_divW (ev_top (p_var rfl h1)) (ev_var rfl) gr) (lg_le tr (div_na _ _)) (lg_le tq (div_na _ _))))
       (q_cons (p_ev (ev_mulW (ev_divW (ev_bot (p_var rfl h0)) (ev_var rfl) gr) (ev_divW (ev_bot (p_var rfl h1)) (ev_var rfl) gl) (lg_le br (div_na _ _)) (lg_le bq (div_na _ _)))) q_nil)) (by show 2 ≤ 100000; decide)) fun v B1 H4 g hp => q v B1 H4 (((Gr.wide eB e1).trans (g2.trans g3)).trans g) ?_
    show (frP K (fr (r * s))).P v B1
    rw [fr_mul]
    exact hp

/-- sum_of -/
abbrev s_sum_of : Stmt := topS 36
abbrev N_sum_of : List Str := ["one", "other", "common", "own", "top", "rest"]
theorem sc_sum_of : FnScope N_sum_of ["one", "other"] (defScope s_sum_of) := ⟨rfl, rfl, rfl, by decide +kernel, rfl, by decide +kernel, by decide +kernel⟩
theorem ok_sum_of {f : Addr} {fd : FuncData} (F : Fun K "sum_of" "sum_of" s_sum_of f fd)    (g_gcd : mg "gcd" = some (.builtin "math.gcd")) :
    FnOk P w K mg base CX0 1 f fd ["one", "other"] (spP (Rsum K)) := by
  refine F.ok sc_sum_of (spP_len (by rintro _ _ ⟨r, s, _, _, rfl, rfl⟩; rfl)) (fun cdv A outer s H vs Q E hr h => ?_)
  obtain ⟨B, ps, p, eB, hv, ⟨r, s, hr1, hs1, rfl, rfl⟩, q⟩ := h
  obtain ⟨v0, v1, rfl, h0, h1⟩ := all2 hv
  have hu := hu_of hr
  refine ⟨_, (pss_cons (ps_if (PW.pt (pw_and (pt_cmpR op_eq (pe_ix ix_tup (pv 0) pe_int (fun _ _ => rfl)) pe_int (nomark _)) (pw_and1 (pt_cmpR op_eq (pe_ix ix_tup (pv 1) pe_int (fun _ _ => rfl)) pe_int (nomark _))))) (pss_one (ps_ret (pe_tup (pa_cons (pe_op op_add (pe_ix ix_tup (pv 0) pe_int (fun _ _ => rfl)) (pe_ix ix_tup (pv 1) pe_int (fun _ _ => rfl))) (pa_cons pe_int pa_nil))))) pss_nil)
    (pss_cons (ps_set (i := 2) sc_sum_of.nd rfl (by first | exact .inl rfl | exact .inr rfl) (pe_callBfun cr_gcd (by rfl) g_gcd (pa_cons (pe_ix ix_tup (pv 0) pe_int (fun _ _ => rfl)) (pa_cons (pe_ix ix_tup (pv 1) pe_int (fun _ _ => rfl)) pa_nil))))
    (pss_cons (ps_if (pt_cmpR op_eq (pv 2) pe_int (nomark _)) (pss_one (ps_ret (pe_tup (pa_cons (pe_op op_add (pe_op op_mulW (pe_ix ix_tup (pv 0) pe_int (fun _ _ => rfl)) (pe_ix ix_tup (pv 1) pe_int (fun _ _ => rfl))) (pe_op op_mulW (pe_ix ix_tup (pv 1) pe_int (fun _ _ => rfl)) (pe_ix ix_tup (pv 0) pe_int (fun _ _ => rfl)))) (pa_cons (pe_op op_mulW (pe_ix ix_tup (pv 0) pe_int (fun _ _ => rfl)) (pe_ix ix_tup (pv 1) pe_int (fun _ _ => rfl))) pa_nil))))) pss_nil)
    (pss_cons (ps_set (i := 3) sc_sum_of.nd rfl (by first | exact .inl rfl | exact .inr rfl) (pe_op op_fdivW (pe_ix ix_tup (pv 0) pe_int (fun _ _ => rfl)) (pv 2)))
    (pss_cons (ps_set (i := 4) sc_sum_of.nd rfl (by first | exact .inl rfl | exact .inr rfl) (pe_op op_add (pe_op op_mulW (pe_ix ix_tup (pv 0) pe_int (fun _ _ => rfl)) (pe_op op_fdivW (pe_ix ix_tup (pv 1) pe_int (fun _ _ => rfl)) (pv 2))) (pe_op op_mulW (pe_ix ix_tup (pv 1) pe_int (fun _ _ => rfl)) (pv 3))))
    (pss_cons (ps_set (i := 5) sc_sum_of.nd rfl (by first | exact .inl rfl | exact .inr rfl) (pe_callBfun cr_gcd (by rfl) g_gcd (pa_cons (pv 4) (pa_cons (pv 2) pa_nil))))
    (pss_one (ps_ret (pe_tup (pa_cons (pe_op op_fdivW (pv 4) (pv 5)) (pa_cons (pe_op op_mulW (pv 3) (pe_op op_fdivW (pe_ix ix_tup (pv 1) pe_int (fun _ _ => rfl)) (pv 5))) pa_nil))))))))))), ?_⟩
  have pr := fr_pos r
  have pq := fr_pos s
  have tr := sm_top hr1
  have tq := sm_top hs1
  have br := sm_bot hr1
  have bq := sm_bot hs1
  have tst := et_and (σ := [some v0, some v1, none, none, none, none]) (et_test (ev_op (ev_bot (K := K) (p_var (i := 0) rfl h0)) (ev_c (v := .int 1)) (rv_eq rfl))) (fun _ => et_test (ev_op (ev_bot (K := K) (p_var (i := 1) rfl h1)) (ev_c (v := .int 1)) (rv_eq rfl)))
  by_cases hc : (fr r).2 = 1 ∧ (fr s).2 = 1
  · refine My.ps_ifT eB (et_is tst (by simp [hc.1, hc.2])) fun H1 e1 => ?_
    refine My.ps_ret (eB.trans e1) (p_tup (K := K) (ps := [IsV (.int ((fr r).1 + (fr s).1)), IsV (.int 1)]) (q_cons (p_ev (ev_addI (ev_top (p_var rfl h0)) (ev_top (p_var rfl h1)))) (q_cons p_c q_nil)) (by show 2 ≤ 100000; decide)) fun v B1 H2 g hp => q v B1 H2 ((Gr.wide eB e1).trans g) ?_
    show (frP K (fr (r + s))).P v B1
    rw [fr_add1 hc.1 hc.2]
    exact hp
  · refine ps_ifN eB (et_is tst (by rw [Bool.eq_false_iff]; simpa using hc)) fun H1 e1 => ?_
    dsimp only
    refine ps_asgN (fun x => [some v0, some v1, some x, none, none, none]) (eB.trans e1) (p_ev (ev_gcd (ev_bot (p_var rfl h0)) (ev_bot (p_var rfl h1)))) (fun x B2 H2 g2 hx => ?_) (fun _ => rfl)
    obtain rfl := (show x = _ from hx)
    have h0' := (rtP K r).m g2.b h0
    have h1' := (rtP K s).m g2.b h1
    dsimp only
    have gg := gcd_dv (a := (fr r).2) pq bq
    have tst2 := et_test (σ := [some v0, some v1, some (.int ((Nat.gcd (fr r).2.natAbs (fr s).2.natAbs : Nat) : Int)), none, none, none]) (H := B2) (ev_op (ev_var (i := 2) rfl) (ev_c (v := .int 1)) (rv_eq rfl))
    by_cases hd : Int.gcd (fr r).2 (fr s).2 = 1
    · refine My.ps_ifT g2.c (et_is tst2 (by rw [show Nat.gcd (fr r).2.natAbs (fr s).2.natAbs = 1 from hd]; rfl)) fun H3 e3 => ?_
      refine My.ps_ret (g2.c.trans e3) (p_tup (K := K) (ps := [IsV (.int ((fr r).1 * (fr s).2 + (fr s).1 * (fr r).2)), IsV (.int ((fr r).2 * (fr s).2))]) (q_cons (p_ev (ev_addI (ev_mulW (ev_top (p_var rfl h0')) (ev_bot (p_var rfl h1')) (lg tr) (lg bq)) (ev_mulW (ev_top (p_var rfl h1')) (ev_bot (p_var rfl h0')) (lg tq) (lg br)))) (q_cons (p_ev (ev_mulW (ev_bot (p_var rfl h0')) (ev_bot (p_var rfl h1')) (lg br) (lg bq))) q_nil)) (by show 2 ≤ 100000; decide)) fun v B1 H4 g hp => q v B1 H4 (((Gr.wide eB e1).trans (g2.trans (Gr.wide g2.c e3))).trans g) ?_
      show (frP K (fr (r + s))).P v B1
      rw [fr_addc hd]
      exact hp
    · refine ps_ifN g2.c (et_is tst2 (by
        rw [decide_eq_false]
        intro z
        injection z with z
        exact hd (by unfold Int.gcd; omega))) fun H3 e3 => ?_
      dsimp only
      -- own
      refine ps_asgN (fun x => [some v0, some v1, some (.int ((Nat.gcd (fr r).2.natAbs (fr s).2.natAbs : Nat) : Int)), some x, none, none]) (g2.c.trans e3) (p_ev (ev_divW (ev_bot (p_var rfl h0')) (ev_var rfl) gg)) (fun x B4 H4 g4 hx => ?_) (fun _ => rfl)
      obtain rfl := (show x = _ from hx)
      have h0 := (rtP K r).m g4.b h0'
      have h1 := (rtP K s).m g4.b h1'
      dsimp only
      -- top
      refine ps_asgN (fun x => [some v0, some v1, some (.int ((Nat.gcd (fr r).2.natAbs (fr s).2.natAbs : Nat) : Int)), some (.int ((fr r).2 / ((Nat.gcd (fr r).2.natAbs (fr s).2.natAbs : Nat) : Int))), some x, none]) g4.c
        (p_ev (ev_addI (ev_mulW (ev_top (p_var rfl h0)) (ev_divW (ev_bot (p_var rfl h1)) (ev_var rfl) gg) (lg tr) (lg_le bq (div_na _ _))) (ev_mulW (ev_top (p_var rfl h1)) (ev_var rfl) (lg tq) (lg_le br (div_na _ _))))) (fun x B5 H5 g5 hx => ?_) (fun _ => rfl)
      obtain rfl := (show x = _ from hx)
      have h0 := (rtP K r).m g5.b h0
      have h1 := (rtP K s).m g5.b h1
      dsimp only
      -- rest
      have g1l : ((Nat.gcd (fr r).2.natAbs (fr s).2.natAbs : Nat) : Int).natAbs < 2 ^ 4000 := by
        rw [Int.natAbs_natCast]
        exact Nat.lt_of_le_of_lt (Nat.gcd_le_right _ (by omega)) bq
      refine ps_asgN (fun x => [some v0, some v1, some (.int ((Nat.gcd (fr r).2.natAbs (fr s).2.natAbs : Nat) : Int)), some (.int ((fr r).2 / ((Nat.gcd (fr r).2.natAbs (fr s).2.natAbs : Nat) : Int))), some (.int ((fr r).1 * ((fr s).2 / ((Nat.gcd (fr r).2.natAbs (fr s).2.natAbs : Nat) : Int)) + (fr s).1 * ((fr r).2 / ((Nat.gcd (fr r).2.natAbs (fr s).2.natAbs : Nat) : Int)))), some x]) g5.c
        (p_ev (ev_gcd (ev_var rfl) (ev_var rfl))) (fun x B6 H6 g6 hx => ?_) (fun _ => rfl)
      obtain rfl := (show x = _ from hx)
      have h1 := (rtP K s).m g6.b h1
      dsimp only
      have gq := gcd_dv (a := (fr r).1 * ((fr s).2 / ((Nat.gcd (fr r).2.natAbs (fr s).2.natAbs : Nat) : Int)) + (fr s).1 * ((fr r).2 / ((Nat.gcd (fr r).2.natAbs (fr s).2.natAbs : Nat) : Int))) gg.1 g1l
      refine My.ps_ret g6.c (p_tup (K := K) (ps := [IsV _, IsV _]) (q_cons (p_ev (ev_divW (ev_var rfl) (ev_var rfl) gq)) (q_cons (p_ev (ev_mulW (ev_var rfl) (ev_divW (ev_bot (p_var rfl h1)) (ev_var rfl) gq) (lg_le br (div_na _ _)) (lg_le bq (div_na _ _)))) q_nil)) (by show 2 ≤ 100000; decide)) fun v B1 H7 g hp => q v B1 H7 (((Gr.wide eB e1).trans ((g2.trans (Gr.wide g2.c e3)).trans ((g4.trans g5).trans g6))).trans g) ?_
      show (frP K (fr (r + s))).P v B1
      rw [fr_add]
      exact hp

end
end K12
namespace K12
open PySem L2 My
/-- a draw's state at d -/
def DSt (H : Hp) (d : Addr) (n : Nat) : Prop := ∃ l c t : Int, H d = some (.dK [(.inr "left", .int l), (.inr "cell", .int c), (.inr "turns", .int t)]) ∧ 0 ≤ l ∧ 0 ≤ t ∧ t ≤ n
/-- all but d as it was -/
def SameBut (d : Addr) (H H' : Hp) : Prop := ∀ b o, b ≠ d → H b = some o → H' b = some o
def spMixed : Sp := fun vs H Q _ => ∃ c k : Int, vs = [.int c, .int k] ∧ 0 ≤ k ∧ k ≤ 2 ^ 40 ∧ ∀ (m : Int) (H' : Hp), 0 ≤ m → m < 2147483647 → Same H H' → Q (.int m) H'
def spDraw : Sp := fun vs H Q _ => ∃ c k : Int, vs = [.int c, .int k] ∧ 0 ≤ k ∧ k ≤ 1000 ∧ ∀ (d : Addr) (H' : Hp), H d = none → DSt H' d 1000000 → Same H H' → Q (.ref d) H'
def spDigitW : Sp := fun vs H Q _ => ∃ (d : Addr) (z : Int) (n : Nat), vs = [.ref d, .int z] ∧ 0 < z ∧ z.natAbs.log2 < 9000 ∧ DSt H d n ∧ n ≤ 2 ^ 39 ∧ ∀ (m : Int) (H' : Hp), 0 ≤ m → m < z → DSt H' d (n + 4) → SameBut d H H' → Q (.int m) H'

abbrev s_Lmixed : Stmt := topS 43
abbrev N_Lmixed : List Str := ["_law_cell", "_law_k", "_law_number"]
theorem sc_Lmixed : FnScope N_Lmixed ["_law_cell", "_law_k"] (defScope s_Lmixed) := ⟨rfl, rfl, rfl, by decide +kernel, rfl, by decide +kernel, by decide +kernel⟩
abbrev s_Ldraw : Stmt := topS 44
abbrev N_Ldraw : List Str := ["_law_cell", "_law_k"]
theorem sc_Ldraw : FnScope N_Ldraw ["_law_cell", "_law_k"] (defScope s_Ldraw) := ⟨rfl, rfl, rfl, by decide +kernel, rfl, by decide +kernel, by decide +kernel⟩
section
variable {P : Program} {w : World} {K : PySem.W.Frag} {mg : Str → Option Value} {base : Heap}
theorem ok_Lmixed {f : Addr} {fd : FuncData} (F : Fun K "_law_mixed" "_law_mixed" s_Lmixed f fd) : FnOk P w K mg base CX0 1 f fd ["_law_cell", "_law_k"] spMixed := by
  refine F.ok sc_Lmixed (fun vs H Q E h => ?_) (fun cdv A outer s H vs Q E hr h => ?_)
  · obtain ⟨c, k, rfl, _⟩ := h
    rfl
  · obtain ⟨c, k, rfl, hk0, hk, q⟩ := h
    refine ⟨_, (pss_cons (ps_set (i := 2) sc_Lmixed.nd rfl (by first | exact .inl rfl | exact .inr rfl) (pe_op op_add (pe_op op_add (pe_op op_mod (pv 0) (pe_ix ix_list (pe_lst (pa_cons pe_int (pa_cons pe_int (pa_cons pe_int (pa_cons pe_int pa_nil))))) (pe_op op_mod (pv 1) pe_int) (fun _ _ => rfl))) (pe_op op_mul pe_int (pv 1))) pe_int))
    (pss_one (ps_ret (pe_op op_mod (pe_op op_mul (pe_op op_mod (pe_op op_mul (pv 2) (pv 2)) pe_int) pe_int) pe_int)))), ?_⟩
    walk_at "go"
    refine ⟨My.small (by decide), fun p hp => ?_⟩
    walk_at "go"
    obtain ⟨v, hv, e⟩ := My.atIn [V.int 1000000007, V.int 998244353, V.int 2147483629, V.int 1000000009] (k % 4) (by omega) (by show k % 4 < 4; omega)
    obtain ⟨y, rfl, hy⟩ : ∃ y, v = V.int y ∧ 0 < y ∧ y < 2147483647 := by
      simp only [List.mem_cons, List.not_mem_nil, or_false] at hv
      rcases hv with rfl | rfl | rfl | rfl <;> exact ⟨_, rfl, by decide⟩

    refine ⟨p, _, _, _, rfl, rfl, My.lstNew, e, ?_⟩
    have h1 := Int.emod_nonneg c (b := y) (by omega)
    have h2 := Int.emod_lt_of_pos c (b := y) (by omega)
    refine ⟨_, _, rfl, rfl, hy.1, ?_⟩
    walk_at "go"
    exact q _ _ (Int.emod_nonneg _ (by decide)) (Int.emod_lt_of_pos _ (by decide)) (My.new hp)
theorem ok_Ldraw {f : Addr} {fd : FuncData} (F : Fun K "_law_draw" "_law_draw" s_Ldraw f fd) : FnOk P w K mg base CX0 1 f fd ["_law_cell", "_law_k"] spDraw := by
  refine F.ok sc_Ldraw (fun vs H Q E h => ?_) (fun cdv A outer s H vs Q E hr h => ?_)
  · obtain ⟨c, k, rfl, _⟩ := h
    rfl
  · obtain ⟨c, k, rfl, hk0, hk, q⟩ := h
    have hu := hu_of hr
    refine ⟨_, (pss_one (ps_ret (pe_disp (pps_cons pe_str (pe_ifExp (pt_cmpR op_ge (pv 0) (pe_op op_pow pe_int pe_int) (nomark _)) (pv 0) pe_int) (pps_cons pe_str (pv 0) (pps_cons pe_str (pe_op op_mul pe_int (pv 1)) pps_nil))) rfl rfl (by simp) (by decide)))), ?_⟩
    intro p hp
    walk_at "go"
    refine ite2 (fun h => ?_) (fun h => ?_)
    · walk_at "go"
      refine ⟨upd_same, [(.inr "left", .int c), (.inr "cell", .int c), (.inr "turns", .int (1000 * k))], rfl, (by show 3 ≤ 15; decide), ?_⟩
      refine q _ _ hp ⟨c, c, 1000 * k, ?_, ?_, by omega, by omega⟩ ?_
      · rw [upd_same]; rfl
      · have := of_decide_eq_true h
        simp at this
        omega
      · exact My.new2 hp
    · walk_at "go"
      refine ⟨upd_same, [(.inr "left", .int 0), (.inr "cell", .int c), (.inr "turns", .int (1000 * k))], rfl, (by show 3 ≤ 15; decide), ?_⟩
      refine q _ _ hp ⟨0, c, 1000 * k, ?_, by omega, by omega, by omega⟩ ?_
      · rw [upd_same]; rfl
      · exact My.new2 hp
theorem sb_trans {d : Addr} {H H1 H2 : Hp} (a : SameBut d H H1) (b : SameBut d H1 H2) : SameBut d H H2 := fun c o n e => b c o n (a c o n e)
theorem sb_same {d : Addr} {H H1 : Hp} (a : Same H H1) : SameBut d H H1 := fun c o _ e => a c o e
theorem sb_upd {d : Addr} {H : Hp} {o : HO} : SameBut d H (upd H d o) := fun c u n e => by rw [upd_ne n]; exact e
theorem dget_left {H : Hp} {d : Addr} {a b c : V} (h : H d = some (.dK [(.inr "left", a), (.inr "cell", b), (.inr "turns", c)])) : DGet H d (.str "left") (some a) := DGet.k (k := .inr "left") h
theorem dget_cell {H : Hp} {d : Addr} {a b c : V} (h : H d = some (.dK [(.inr "left", a), (.inr "cell", b), (.inr "turns", c)])) : DGet H d (.str "cell") (some b) := DGet.k (k := .inr "cell") h
theorem dget_turns {H : Hp} {d : Addr} {a b c : V} (h : H d = some (.dK [(.inr "left", a), (.inr "cell", b), (.inr "turns", c)])) : DGet H d (.str "turns") (some c) := DGet.k (k := .inr "turns") h
theorem dput_left {H : Hp} {d : Addr} {a b c v : V} (h : H d = some (.dK [(.inr "left", a), (.inr "cell", b), (.inr "turns", c)])) : DPut H d (.str "left") v (upd H d (.dK [(.inr "left", v), (.inr "cell", b), (.inr "turns", c)])) := DPut.k (k := .inr "left") h (by show 3 < sizeLine; decide)
theorem dput_turns {H : Hp} {d : Addr} {a b c v : V} (h : H d = some (.dK [(.inr "left", a), (.inr "cell", b), (.inr "turns", c)])) : DPut H d (.str "turns") v (upd H d (.dK [(.inr "left", a), (.inr "cell", b), (.inr "turns", v)])) := DPut.k (k := .inr "turns") h (by show 3 < sizeLine; decide)

abbrev s_Ldigit : Stmt := topS 45
abbrev N_Ldigit : List Str := ["_law_state", "_law_many", "_law_j", "_law_found"]
theorem sc_Ldigit : FnScope N_Ldigit ["_law_state", "_law_many"] (defScope s_Ldigit) := ⟨rfl, rfl, rfl, by decide +kernel, rfl, by decide +kernel, by decide +kernel⟩
theorem ok_LdigitW {f fM : Addr} {fd fdM : FuncData} (F : Fun K "_law_digit" "_law_digit" s_Ldigit f fd) (G : FnOk P w K mg base CX0 1 fM fdM ["_law_cell", "_law_k"] spMixed)
    (n_range : mg "range" = none) (m_Lmixed : mg "_law_mixed" = some (.ref fM)) (k_Lmixed : PySem.W.keepIn K (.ref fM) = true) (b_Lmixed : Binds K fdM ["_law_cell", "_law_k"] []) : FnOk P w K mg base CX0 2 f fd ["_law_state", "_law_many"] spDigitW := by
  refine F.ok sc_Ldigit (fun vs H Q E h => ?_) (fun cdv A outer s H vs Q E hr h => ?_)
  · obtain ⟨d, z, n, rfl, _⟩ := h
    rfl
  · obtain ⟨d, z, n, rfl, hz, hz2, ⟨l, c, t, hd, hl, ht, htn⟩, hn, q⟩ := h
    have hu := hu_of hr
    refine ⟨_, (pss_cons (ps_if (pt_cmpR op_eq (pe_dget hu (pv 0) pe_str (fun _ _ => rfl)) pe_int (nomark _)) (pss_one (ps_for PassesOwn.never rfl (pi_range1 (by rfl) n_range (pa_cons pe_int pa_nil)) (pg_name (i := 2) sc_Ldigit.nd rfl (by first | exact .inl rfl | exact .inr rfl))
      (pss_cons (ps_dput hu (pv 0) pe_str (pe_op op_add (pe_dget hu (pv 0) pe_str (fun _ _ => rfl)) pe_int) rfl)
    (pss_one (ps_dput hu (pv 0) pe_str (pe_op op_add (pe_op op_mul (pe_dget hu (pv 0) pe_str (fun _ _ => rfl)) pe_int) (pe_call G (hr.mono (by decide)) (by rfl) m_Lmixed k_Lmixed b_Lmixed .nil pass0 (pa_cons (pe_dget hu (pv 0) pe_str (fun _ _ => rfl)) (pa_cons (pe_dget hu (pv 0) pe_str (fun _ _ => rfl)) pa_nil)))) rfl))))) pss_nil)
    (pss_cons (ps_set (i := 3) sc_Ldigit.nd rfl (by first | exact .inl rfl | exact .inr rfl) (pe_op op_mod (pe_dget hu (pv 0) pe_str (fun _ _ => rfl)) (pv 1)))
    (pss_cons (ps_dput hu (pv 0) pe_str (pe_op op_fdivW (pe_dget hu (pv 0) pe_str (fun _ _ => rfl)) (pv 1)) rfl)
    (pss_one (ps_ret (pv 3)))))), ?_⟩
    -- what follows the if, from any state
    have rest : ∀ (x : Option V) (l t : Int) (H1 : Hp), H1 d = some (.dK [(.inr "left", .int l), (.inr "cell", .int c), (.inr "turns", .int t)]) → 0 ≤ l → 0 ≤ t → t ≤ (n + 4 : Nat) → SameBut d H H1 →
      ∀ D : Ends, D.rt = Q → tSeq (tAsg (tOp (rI (fun _ j => 0 < j) fun i j => .int (i % j)) (tDGet (tVar 0) (tC (.str "left"))) (tVar 1)) (gName 3)) (tSeq (sDPut (tVar 0) (tC (.str "left")) (tOp (rI CDivW fun i j => .int (i / j)) (tDGet (tVar 0) (tC (.str "left"))) (tVar 1))) (tRet (tVar 3))) D [some (.ref d), some (.int z), x, none] H1 := by
      intro x l t H1 h1 hl ht htn sb D hD
      walk_at "go"
      refine ⟨_, _, rfl, dget_left h1, ?_⟩
      walk_at "go"
      refine ⟨_, _, rfl, dget_left h1, ?_⟩
      walk_at "go"
      refine ⟨_, _, rfl, dput_left h1, ?_⟩
      walk_at "go"
      show D.rt _ _
      rw [hD]
      exact q _ _ (Int.emod_nonneg _ (by omega)) (Int.emod_lt_of_pos _ hz) ⟨_, _, _, upd_same, Int.ediv_nonneg hl (by omega), ht, htn⟩ (sb_trans sb sb_upd)
    walk_at "go"
    refine ⟨_, _, rfl, dget_left hd, ?_⟩
    walk_at "go"
    refine ite2 (fun h => ?_) (fun h => ?_)
    · walk_at "go"
      refine ⟨by decide, by decide, for_range (lo := 0) (n := 4) (fun i σ H1 => ∃ (x : Option V) (l t : Int), σ = [some (.ref d), some (.int z), x, none] ∧ H1 d = some (.dK [(.inr "left", .int l), (.inr "cell", .int c), (.inr "turns", .int t)]) ∧ 0 ≤ l ∧ 0 ≤ t ∧ t ≤ (n + i : Nat) ∧ SameBut d H H1)
        ⟨none, l, t, rfl, hd, hl, ht, by omega, fun c o n e => e⟩ ?_ ?_⟩
      · rintro i σ H1 hi ⟨x, l1, t1, rfl, h1, hl1, ht1, ht2, sb⟩
        walk_at "go"
        refine ⟨_, _, rfl, dget_turns h1, ?_⟩
        walk_at "go"
        refine ⟨_, _, rfl, dput_turns h1, ?_⟩
        walk_at "go"
        refine ⟨_, _, rfl, dget_left upd_same, ?_⟩
        walk_at "go"
        refine ⟨_, _, rfl, dget_cell upd_same, ?_⟩
        walk_at "go"
        refine ⟨_, _, rfl, dget_turns upd_same, ?_⟩
        refine ⟨c, t1 + 1, rfl, by omega, by omega, fun m H2 hm0 hm1 S => ?_⟩
        walk_at "go"
        refine ⟨_, _, rfl, dput_left (S _ _ upd_same), ?_⟩
        refine ⟨_, _, _, rfl, upd_same, ?_, by omega, by omega, sb_trans sb (sb_trans sb_upd (sb_trans (sb_same S) sb_upd))⟩
        have := Int.mul_nonneg hl1 (by decide : (0 : Int) ≤ 2147483647)
        omega
      · rintro σ H1 ⟨x, l1, t1, rfl, h1, hl1, ht1, ht2, sb⟩
        exact rest x l1 t1 H1 h1 hl1 ht1 ht2 sb _ rfl
    · exact rest none l t H hd hl ht (by omega) (fun c o n e => e) _ rfl
end
end K12
namespace K12
open PySem L2 My
def one (c : Nat) : Str := ⟨#[c]⟩
theorem DSt.le {H : Hp} {d : Addr} {n m : Nat} (h : DSt H d n) (k : n ≤ m) : DSt H d m := by
  obtain ⟨l, c, t, a, b, e, f⟩ := h
  exact ⟨l, c, t, a, b, e, by omega⟩
theorem DSt.same {H H' : Hp} {d : Addr} {n : Nat} (h : DSt H d n) (k : Same H H') : DSt H' d n := by
  obtain ⟨l, c, t, a, b⟩ := h
  exact ⟨l, c, t, k _ _ a, b⟩
theorem DSt.ne {H : Hp} {d p : Addr} {n : Nat} (h : DSt H d n) (k : H p = none) : d ≠ p := by
  obtain ⟨l, c, t, a, b⟩ := h
  exact ne_of_none a k
theorem DSt.upd {H : Hp} {d p : Addr} {n : Nat} {o : HO} (h : DSt H d n) (k : d ≠ p) : DSt (upd H p o) d n := by
  obtain ⟨l, c, t, a, b⟩ := h
  exact ⟨l, c, t, by rw [upd_ne k]; exact a, b⟩
end K12

namespace K12
set_option autoImplicit false
open PySem PySem.W L2 Evl My LamX
/-- what a draw leaves: the state's dict at d changed, all else kept; B' known behind, without d -/
structure GrD (d : Addr) (B H B' H' : Hp) : Prop where
  s : SameBut d H H'
  b : Ex B B'
  c : Ex B' H'
  d : B' d = none
  n : NoTab B → NoTab B'
  f : ∀ x, B x = none → H x ≠ none → B' x = none
theorem GrD.refl {d : Addr} {B H : Hp} (e : Ex B H) (h : B d = none) : GrD d B H B H := ⟨fun _ _ _ e => e, Ex.refl B, e, h, id, fun _ h _ => h⟩
theorem GrD.trans {d : Addr} {B H B1 H1 B2 H2 : Hp} (g : GrD d B H B1 H1) (k : GrD d B1 H1 B2 H2) : GrD d B H B2 H2 := ⟨sb_trans g.s k.s, g.b.trans k.b, k.c, k.d, fun z => k.n (g.n z), fun x hb hh => if n : x = d then n ▸ k.d else k.f x (g.f x hb hh) (by cases e : H x with | none => exact absurd e hh | some o => rw [g.s x o n e]; exact fun z => nomatch z)⟩
theorem ex_sb {d : Addr} {B H H' : Hp} (e : Ex B H) (h : B d = none) (s : SameBut d H H') : Ex B H' := fun b o k => s b o (ne_of_none k h) (e b o k)
theorem GrD.same {d : Addr} {B H H' : Hp} (e : Ex B H) (h : B d = none) (s : SameBut d H H') : GrD d B H B H' := ⟨s, Ex.refl B, ex_sb e h s, h, id, fun _ h _ => h⟩
theorem GrD.gr {d : Addr} {B H B' H' : Hp} {n : Nat} (g : Gr B H B' H') (h : B d = none) (hd : DSt H d n) : GrD d B H B' H' := ⟨fun b o _ e => g.a b o e, g.b, g.c, g.d d h (by obtain ⟨l, c, t, e, _⟩ := hd; rw [e]; exact fun z => nomatch z), g.e, fun x hb hh => g.d x hb hh⟩
theorem DSt.ex {H H' : Hp} {d : Addr} {n : Nat} (h : DSt H d n) (e : Ex H H') : DSt H' d n := by
  obtain ⟨l, c, t, a, b⟩ := h
  exact ⟨l, c, t, e _ _ a, b⟩
section
variable {P : Program} {w : World} {K : PySem.W.Frag} {mg : Str → Option Value} {base : Heap}


end
end K12

namespace K12
set_option autoImplicit false
open PySem PySem.W L2 Evl My LamX
section
variable {P : Program} {w : World} {K : PySem.W.Frag} {mg : Str → Option Value} {base : Heap}


end
end K12

namespace K12
set_option autoImplicit false
open PySem PySem.W L2 Evl My LamX
section
variable {P : Program} {w : World} {K : PySem.W.Frag} {mg : Str → Option Value} {base : Heap}


end
end K12
namespace K12
set_option autoImplicit false
open PySem PySem.W L2 Evl My Nd LamX NdefX
theorem DSt.ne0 {H : Hp} {d : Addr} {n : Nat} (h : DSt H d n) : H d ≠ none := by
  obtain ⟨l, c, t, e, _⟩ := h
  rw [e]
  exact fun z => nomatch z
theorem tabs_lst {T : List (Addr × Str)} {p : Addr} {H : Hp} {xs : List V} {o : HO} (t : Tabs T H) (hp : H p = some (.lst xs)) : Tabs T (upd H p o) := by
  have at_ : ∀ {b : Addr} {u : HO}, H b = some u → (∀ ys, u ≠ .lst ys) → wo p H b = some u := fun {b u} h n => by
    rw [wo_ne fun z => by
      subst z
      rw [hp] at h
      exact n xs (Option.some.inj h).symm]
    exact h
  refine Tabs.ext (H := wo p H) (fun q hq => ?_) fun b u e => by
    obtain ⟨n, k⟩ := wo_some e
    rw [upd_ne n]
    exact k
  obtain ⟨ps, h1, h2, h3⟩ := t q hq
  refine ⟨ps, at_ h1 (fun _ z => nomatch z), h2, fun pos cv hc => ?_⟩
  obtain ⟨c, e1, e2⟩ := h3 pos cv hc
  exact ⟨c, e1, at_ e2 (fun _ z => nomatch z)⟩
section
variable {t u : TS} {D : Ends} {σ : L2.St} {H : Hp} {te ta tb : TE} {tx tr : TA} {g : TG} {Q : VK} {r : R2}
theorem b_seq (h : t { D with nx := u D } σ H) : tSeq t u D σ H := h
theorem b_asg (h : te σ H fun x H1 => g x σ H1 D.nx) : tAsg te g D σ H := h
theorem b_op (h : ta σ H fun x H1 => tb σ H1 fun y H2 => r x y H2 Q) : tOp r ta tb σ H Q := h
theorem b_ret (h : te σ H D.rt) : tRet te D σ H := h
theorem b_tup (h : tx σ H fun xs H1 => xs.length ≤ sizeLine ∧ ∀ p, H1 p = none → Q (.ref p) (upd H1 p (.tup xs))) : tTup tx σ H Q := h
theorem b_cons {Q : List V → Hp → Prop} (h : ta σ H fun x H1 => tr σ H1 fun xs H2 => Q (x :: xs) H2) : tCons ta tr σ H Q := h
end
/-- what is known in B of a heap H with tables T and the draws' state at d, of at most n turns -/
structure Kx (T : List (Addr × Str)) (d : Addr) (n : Nat) (B H : Hp) : Prop where
  e : Ex B H
  nt : NoTab B
  t : Tabs T H
  z : B d = none
  s : DSt H d n
/-- what stays: all but the tables and the state -/
structure GX (d : Addr) (B H B' H' : Hp) : Prop where
  a : ∀ b o, b ≠ d → H b = some o → (∀ ps, o ≠ .tbl ps) → H' b = some o
  b : Ex B B'
  f : ∀ x o, x ≠ d → B x = none → H x = some o → (∀ ps, o ≠ .tbl ps) → B' x = none
section
variable {T : List (Addr × Str)} {d : Addr} {n m : Nat} {B H B1 H1 B2 H2 : Hp}
theorem GX.refl : GX d B H B H := ⟨fun _ _ _ e _ => e, Ex.refl B, fun _ _ _ h _ _ => h⟩
theorem GX.trans (g : GX d B H B1 H1) (k : GX d B1 H1 B2 H2) : GX d B H B2 H2 := ⟨fun b o n e z => k.a b o n (g.a b o n e z) z, g.b.trans k.b, fun x o n hb hh z => k.f x o n (g.f x o n hb hh z) (g.a x o n hh z) z⟩
theorem GX.gr (g : Gr B H B1 H1) : GX d B H B1 H1 := ⟨fun b o _ e _ => g.a b o e, g.b, fun x o _ hb hh _ => g.d x hb (by rw [hh]; exact fun z => nomatch z)⟩
theorem GX.gt (g : GT T B H B1 H1) : GX d B H B1 H1 := ⟨fun b o _ e z => g.a b o e z, g.b, fun x o _ hb hh z => g.f x o hb hh z⟩
theorem GX.sb (S : SameBut d H H1) : GX d B H B H1 := ⟨fun b o n e _ => S b o n e, Ex.refl B, fun _ _ _ h _ _ => h⟩
theorem GX.ex (e : Ex H H1) : GX d B H B H1 := ⟨fun b o _ h _ => e b o h, Ex.refl B, fun _ _ _ h _ _ => h⟩
theorem Kx.gr (k : Kx T d n B H) (g : Gr B H B1 H1) : Kx T d n B1 H1 := ⟨g.c, g.e k.nt, k.t.ext g.a, g.d d k.z k.s.ne0, k.s.ex g.a⟩
theorem Kx.ex (k : Kx T d n B H) (e : Ex H H1) : Kx T d n B H1 := ⟨k.e.trans e, k.nt, k.t.ext e, k.z, k.s.ex e⟩
theorem Kx.gt (k : Kx T d n B H) (g : GT T B H B1 H1) : Kx T d n B1 H1 := by
  obtain ⟨l, c, t, a, b⟩ := k.s
  exact ⟨g.c, g.e k.nt, g.t k.t, g.f d _ k.z a (fun _ z => nomatch z), l, c, t, g.a _ _ a (fun _ z => nomatch z), b⟩
theorem Kx.sb (k : Kx T d n B H) (S : SameBut d H H1) (hd : DSt H1 d m) : Kx T d m B H1 := by
  obtain ⟨l, c, t, a, b⟩ := k.s
  exact ⟨fun b o e => S b o (ne_of_none e k.z) (k.e b o e), k.nt, tabs_but k.t a S, k.z, hd⟩
theorem Kx.le (k : Kx T d n B H) (h : n ≤ m) : Kx T d m B H := ⟨k.e, k.nt, k.t, k.z, k.s.le h⟩
theorem x_digitW {i : Nat} {z : Int} {te : TE} {σ : L2.St} {Q : VK} (k : Kx T d n B H) (hi : σ[i]? = some (some (.ref d))) (he : Ev te σ B (.int z)) (z0 : 0 < z) (z1 : z.natAbs.log2 < 9000) (hn : n ≤ 2 ^ 39)
    (q : ∀ (m : Int) H', 0 ≤ m → m < z → Kx T d (n + 4) B H' → GX d B H B H' → Q (.int m) H') : tCall spDigitW [] E0 (tCons (tVar i) (tCons te tNil)) σ H Q :=
  ⟨.ref d, hi, he H k.e _ fun H2 e2 => ⟨d, z, n, rfl, z0, z1, (k.ex e2).s, hn, fun m H' m0 m1 hd S => q m H' m0 m1 ((k.ex e2).sb S hd) ((GX.ex e2).trans (GX.sb S))⟩⟩
theorem x_digit {i : Nat} {z : Int} {te : TE} {σ : L2.St} {Q : VK} (k : Kx T d n B H) (hi : σ[i]? = some (some (.ref d))) (he : Ev te σ B (.int z)) (z0 : 0 < z) (z1 : z < 1073741824) (hn : n ≤ 2 ^ 39)
    (q : ∀ (m : Int) H', 0 ≤ m → m < z → Kx T d (n + 4) B H' → GX d B H B H' → Q (.int m) H') : tCall spDigitW [] E0 (tCons (tVar i) (tCons te tNil)) σ H Q := x_digitW k hi he z0 (by
    have : z.natAbs < 2 ^ 30 := by omega
    exact (Nat.log2_lt (by omega)).mpr (Nat.lt_of_lt_of_le this (Nat.pow_le_pow_right (by decide) (by decide)))) hn q
end
/-- the digit's thing of a list -/
theorem pick {ps : List Pr} {xs : List V} {B : Hp} (h : AllP ps xs B) {m : Int} (m0 : 0 ≤ m) (m1 : m < ps.length) : ∃ (i : Nat) (p : Pr) (v : V), i < ps.length ∧ m = (i : Nat) ∧ ps[i]? = some p ∧ atI xs m = some v ∧ p.P v B := by
  obtain ⟨i, rfl⟩ : ∃ i : Nat, m = (i : Nat) := ⟨m.toNat, by omega⟩
  have hi : i < ps.length := by omega
  obtain ⟨v, hv, pv⟩ := h.at (i := i) (p := ps[i]) (List.getElem?_eq_getElem hi)
  exact ⟨i, ps[i], v, hi, rfl, List.getElem?_eq_getElem hi, atI_nat hv, pv⟩
section
variable {te tb : TE} {σ : L2.St} {B : Hp} {K : PySem.W.Frag} {r : Rk}
end

end K12
namespace K12
set_option autoImplicit false
open PySem PySem.W L2 Evl My Nd LamX NdefX
section
variable {T : List (Addr × Str)} {d : Addr} {n m : Nat} {B H B1 H1 B2 H2 : Hp}
theorem GX.gd (g : GrD d B H B1 H1) : GX d B H B1 H1 := ⟨fun b o n e _ => g.s b o n e, g.b, fun x o _ hb hh _ => g.f x hb (by rw [hh]; exact fun z => nomatch z)⟩
theorem Kx.gd (k : Kx T d n B H) (g : GrD d B H B1 H1) (hd : DSt H1 d m) : Kx T d m B1 H1 := by
  have kk := k.sb g.s hd
  exact ⟨g.c, g.n k.nt, kk.t, g.d, hd⟩
theorem GX.lst {D : Addr} {o : HO} (g : GX d B H B1 H1) (hD : H D = none) : GX d B H B1 (upd H1 D o) := ⟨fun b u n e z => by
  by_cases h : b = D
  · subst h
    rw [hD] at e
    cases e
  · rw [upd_ne h]
    exact g.a b u n e z, g.b, g.f⟩
theorem x_pickI {K : PySem.W.Frag} {ks : List Int} {ta : TA} {σ : L2.St} {i : Nat} {z : Int} {Q : VK} (k : Kx T d n B H) (hl : EvPs ta σ B (ks.map fun i => IsV (.int i))) (hi : σ[i]? = some (some (.ref d))) (hz : z = (ks.length : Nat)) (h0 : 0 < ks.length) (h1 : ks.length < 1000) (hn : n ≤ 2 ^ 38)
    (q : ∀ (j : Nat) (hj : j < ks.length) B' H', Kx T d (n + 4) B' H' → GX d B H B' H' → Q (.int ks[j]) H') : tOp (rIxL K) (tLst ta) (tCall spDigitW [] E0 (tCons (tVar i) (tCons (tC (.int z)) tNil))) σ H Q := by
  subst hz
  refine p_lst hl (by rw [List.length_map]; omega) H k.e _ fun v B1 H1 g hv => ?_
  refine x_digit (k.gr g) hi ev_c (by omega) (by omega) (by omega) fun m H2 m0 m1 k2 g2 => ?_
  obtain ⟨l, xs, rfl, hx, al⟩ := hv
  obtain ⟨j, p, w, hj, rfl, hp, hat, hw⟩ := pick al m0 (by rw [List.length_map]; exact m1)
  rw [List.getElem?_map] at hp
  obtain ⟨c, hc, rfl⟩ := Option.map_eq_some_iff.mp hp
  obtain ⟨hj2, rfl⟩ := List.getElem?_eq_some_iff.mp hc
  obtain rfl : w = _ := hw
  exact ⟨l, xs, _, _, rfl, rfl, sq_of (k2.e _ _ hx), hat, q j hj2 B1 H2 k2 ((GX.gr g).trans g2)⟩
/-- a comprehension over a range, with draws -/
theorem x_lcR {α : Type} {f : α → Pr} {ok : α → Prop} {te : TE} {σ : L2.St} {jx jv c : Nat} {Q : VK} (k : Kx T d n B H) (hj : σ[jx]? = some (some (.int (m : Nat)))) (hm : m ≤ 1000) (hw : ∀ x, wipe ((wipe σ [jv]).set jv (some x)) [jv] = wipe σ [jv])
    (step : ∀ (i : Nat) (B1 H1 : Hp) (Q' : VK), i < m → Kx T d (n + c * i) B1 H1 → GX d B H B1 H1 → (∀ (a : α) v B2 H2, ok a → Kx T d (n + c * (i + 1)) B2 H2 → GX d B1 H1 B2 H2 → (f a).P v B2 → Q' v H2) → te ((wipe σ [jv]).set jv (some (.int (i : Nat)))) H1 Q')
    (q : ∀ (as : List α) v B' H', (∀ a ∈ as, ok a) → as.length = m → Kx T d (n + c * m) B' H' → GX d B H B' H' → (LsP (as.map f)).P v B' → Q v H') :
    tLc (iRng1 (tCons (tVar jx) tNil)) (gName jv) tYes te [jv] σ H Q := by
  refine ⟨_, hj, (m : Int), rfl, by omega, by omega, fun D hD => ?_⟩
  have hDd : D ≠ d := fun e => k.s.ne0 (e ▸ hD)
  have hBD : B D = none := fresh_back k.e hD
  have a0 : AllP (([] : List α).map f) [] B := trivial
  refine lc_range (lo := 0) (n := (m : Int).toNat) (fun i H' => ∃ B1 as acc, (∀ a ∈ as, ok a) ∧ as.length = i ∧ Kx T d (n + c * i) B1 H' ∧ GX d B H B1 H' ∧ B1 D = none ∧ H' D = some (.lst acc) ∧ AllP (as.map f) acc B1)
    ⟨B, [], [], fun a h => absurd h List.not_mem_nil, rfl, k.ex (Ex.new hD), GX.ex (Ex.new hD), hBD, upd_same, a0⟩ (fun i H' hi h => ?_) fun H' h => ?_
  · obtain ⟨B1, as, acc, h1, h2, h3, h4, h5, h6, h7⟩ := h
    refine ⟨hw _, ?_⟩
    dsimp only [tYes]
    rw [if_pos rfl, Int.zero_add]
    refine step i B1 H' _ (by omega) h3 h4 fun a v B2 H2 oa k2 g2 hv => ?_
    have hD2 : H2 D = some (.lst acc) := g2.a D _ hDd h6 (fun _ z => nomatch z)
    have hB2 : B2 D = none := g2.f D _ hDd h5 h6 (fun _ z => nomatch z)
    have hlen := h7.len
    rw [List.length_map] at hlen
    refine ⟨acc, hD2, small1000 (by omega), B2, as ++ [a], acc ++ [v], ?_, by rw [List.length_append, h2]; rfl, ?_, (h4.trans g2).lst hD, hB2, upd_same, ?_⟩
    · intro b hb
      rcases List.mem_append.mp hb with hb | hb
      · exact h1 b hb
      · rw [List.mem_singleton.mp hb]
        exact oa
    · refine ⟨fun b o e => ?_, k2.nt, tabs_lst k2.t hD2, k2.z, k2.s.upd hDd.symm⟩
      rw [upd_ne (fun z => by subst z; rw [hB2] at e; cases e)]
      exact k2.e b o e
    · rw [List.map_append]
      exact (h7.m g2.b).app ⟨hv, trivial⟩
  · obtain ⟨B1, as, acc, h1, h2, h3, h4, h5, h6, h7⟩ := h
    have ne : Ex B1 (upd B1 D (.lst acc)) := Ex.new h5
    refine q as _ (upd B1 D (.lst acc)) H' h1 (by rw [h2]; omega) ?_ ?_ ⟨D, acc, rfl, upd_same, h7.m ne⟩
    · refine ⟨fun b o e => ?_, nt_upd h3.nt (fun _ z => nomatch z), h3.t, by rw [upd_ne hDd.symm]; exact h3.z, ?_⟩
      · by_cases z : b = D
        · subst z
          rw [upd_same] at e
          rw [← e]
          exact h6
        · rw [upd_ne z] at e
          exact h3.e b o e
      · have e : (m : Int).toNat = m := Int.toNat_natCast m
        rw [e] at h3
        exact h3.s
    · exact ⟨h4.a, h4.b.trans ne, fun x o n hb hh z => by
        rw [upd_ne (fun e => by subst e; rw [hD] at hh; cases hh)]
        exact h4.f x o n hb hh z⟩
end
section
variable {t u : TS} {D : Ends} {σ : L2.St} {H : Hp} {tc ta tb : TE} {tt : TT} {g : TG} {Q : VK}
theorem b_forD (h : tc σ H fun v H1 => ∃ j : Int, [v] = [V.int j] ∧ -(2 ^ 62) ≤ j ∧ j < 2 ^ 62 ∧ ∃ W : Nat → Nat → L2.St → Hp → Prop, (∃ m, W 0 m σ H1) ∧ ∀ i m σ H, W i m σ H →
      ((Itr 0 j.toNat).stop i H ∧ D.nx σ H) ∨ ((Itr 0 j.toNat).go i H ∧ ∃ N : L2.St → Hp → Prop, (∀ σ' H', N σ' H' → ∃ m', m' < m ∧ W (i + 1) m' σ' H') ∧ ∀ x H', (Itr 0 j.toNat).yld i H x H' → g x σ H' fun σ2 H2 => t { D with nx := N, ct := N, bk := D.nx } σ2 H2)) : tFor (iRng1 (tCons tc tNil)) g t D σ H := h
end
end K12
namespace Nd
set_option autoImplicit false
open PySem PySem.Spec PySem.W PySem.Calls PyProof.Rows L2 My Evl LamX NdefX
theorem cat_ofString (a b : String) : Str.ofString (a ++ b) = Str.ofString a ++ Str.ofString b := by
  rw [Str.ofString_eq_toList, Str.ofString_eq_toList, Str.ofString_eq_toList, String.toList_append, List.map_append]
  show _ = Str.mk _
  simp
theorem txt_neg {n : Int} (h : n < 0) : Str.ofString (toString n) = Str.ofString "-" ++ Str.ofString (toString (n.natAbs : Int)) := by
  obtain ⟨m, rfl⟩ : ∃ m : Nat, n = Int.negSucc m := ⟨n.natAbs - 1, by omega⟩
  rw [← cat_ofString]
  rfl
theorem join_one (t : Str) : Txt.join (Str.ofString "") [t] = t := by
  unfold Txt.join Builtin.Str.glued
  simp
theorem txt_sign (n : Int) : (if n < 0 then Str.ofString "-" else Str.ofString "") ++ Txt.join (Str.ofString "") [Str.ofString (toString (n.natAbs : Int))] = Str.ofString (toString n) := by
  rw [join_one]
  by_cases h : n < 0
  · rw [if_pos h, txt_neg h]
  · rw [if_neg h, show ((n.natAbs : Nat) : Int) = n from by omega]
    show Str.mk _ = _
    simp [Str.ofString_eq_toList]
theorem ev_strI {te : TE} {σ : L2.St} {B : Hp} {i : Int} (h : Ev te σ B (.int i)) (hl : i.natAbs.log2 < 1920) : Ev (tCB (fun xs H Q => ∃ i, xs = [V.int i] ∧ i.natAbs.log2 < 1920 ∧ Q (.str (toString i)) H) (tCons te tNil)) σ B (.str (toString i)) := fun H1 a Q k =>
  h H1 a _ fun H2 e => ⟨i, rfl, hl, k H2 e⟩
theorem emp_cat (x : Str) : Str.empty ++ x = x := by
  show Str.mk _ = _
  simp [Str.empty]
theorem len_cat (x y : Str) : (x ++ y).length = x.length + y.length := by
  show (x.cps ++ y.cps).size = _
  rw [Array.size_append]
  rfl
theorem txt_len {i : Int} {k : Nat} (h : i.natAbs < 10 ^ k) (hk : 0 < k) : (Str.ofString (toString i)).length ≤ k + 1 := by
  have e : (((10 ^ k : Nat)) : Int) = (10 : Int) ^ k := by simp
  by_cases c : i < 0
  · rw [len_text_neg c]
    have := toString_length_le (v := 0 - i) (by omega) hk (by omega)
    omega
  · have := toString_length_le (v := i) (by omega) hk (by omega)
    omega
theorem log60 {n : Nat} (h : n < 10 ^ 60) : n.log2 < 1920 := by
  by_cases z : n = 0
  · rw [z]; decide
  · exact (Nat.log2_lt z).mpr (Nat.lt_trans h (by decide))
def Rlow (K : PySem.W.Frag) : List Pr → Pr → Prop := fun ps z => ∃ n d : Int, 0 < d ∧ d.natAbs < 2 ^ 4000 ∧ ps = [IsV (.int n), IsV (.int d)] ∧ z = rtP K (Rat.divInt n d)
def RfrO (K : PySem.W.Frag) (C : Addr) : List Pr → Out → Prop := fun ps o => (∃ n d : Int, d ≠ 0 ∧ d.natAbs < 2 ^ 4000 ∧ ps = [IsV (.int n), IsV (.int d)] ∧ o = .ret (rtP K (Rat.divInt n d))) ∨
  (∃ (q1 q2 : Pr) (d1 d2 : PyData), ToE K q1 d1 ∧ ToE K q2 d2 ∧ smB d1 = true ∧ smB d2 = true ∧ (wholeB d1 && wholeB d2) = false ∧ ps = [q1, q2] ∧ o = .exc C []) ∨
  ∃ n : Int, ps = [IsV (.int n), IsV (.int 0)] ∧ o = .exc C []
def RquO (K : PySem.W.Frag) (C : Addr) : List Pr → Out → Prop := fun ps o => ∃ r s : Rat, Sm r ∧ Sm s ∧ (r.den : Int).natAbs * s.num.natAbs < 2 ^ 4000 ∧ ps = [rtP K r, rtP K s] ∧ ((s ≠ 0 ∧ o = .ret (rtP K (Rat.divInt (r.num * s.den) (r.den * s.num)))) ∨ (s = 0 ∧ o = .exc C []))
def Rdif (K : PySem.W.Frag) : List Pr → Pr → Prop := fun ps p => ∃ r s : Rat, Sm r ∧ Sm s ∧ ps = [rtP K r, rtP K s] ∧ p = rtP K (r + -s)
def Rwt (K : PySem.W.Frag) : List Pr → Pr → Prop := fun ps p => ∃ n : Int, n.natAbs < 10 ^ 60 ∧ ps = [IsV (.int n)] ∧ p = IsV (.str (toString n))
def Rnt (K : PySem.W.Frag) : List Pr → Pr → Prop := fun ps p => ∃ r : Rat, r.num.natAbs < 10 ^ 60 ∧ r.den < 10 ^ 60 ∧ ps = [rtP K r] ∧ p = IsV (.str (if r.den = 1 then toString r.num else toString r.num ++ "/" ++ toString (r.den : Int)))
end Nd
namespace K12
set_option autoImplicit false
open PySem PySem.W L2 Evl My Nd LamX NdefX
theorem int_abs (i : Int) : (if i < 0 then -i else i) = (i.natAbs : Int) := by split <;> omega
section
variable {P : Program} {w : World} {K : PySem.W.Frag} {mg : Str → Option Value} {base : Heap} {T : List (Addr × Str)}

/-- lowest -/
abbrev s_lowest : Stmt := topS 35
abbrev N_lowest : List Str := ["top", "bottom", "common"]
theorem sc_lowest : FnScope N_lowest ["top", "bottom"] (defScope s_lowest) := ⟨rfl, rfl, rfl, by decide +kernel, rfl, by decide +kernel, by decide +kernel⟩
theorem ok_lowest {f : Addr} {fd : FuncData} (F : Fun K "lowest" "lowest" s_lowest f fd)    (g_gcd : mg "gcd" = some (.builtin "math.gcd")) :
    FnOk P w K mg base CX0 1 f fd ["top", "bottom"] (spP (Rlow K)) := by
  refine F.ok sc_lowest (spP_len (by rintro _ _ ⟨_, _, _, _, rfl, rfl⟩; rfl)) (fun cdv A outer s H vs Q E hr h => ?_)
  obtain ⟨B, ps, p, eB, hv, ⟨n, d, hd, hs, rfl, rfl⟩, q⟩ := h
  obtain ⟨v0, v1, rfl, h0, h1⟩ := all2 hv
  have hu := hu_of hr
  refine ⟨_, (pss_cons (ps_set (i := 2) sc_lowest.nd rfl (by first | exact .inl rfl | exact .inr rfl) (pe_callBfun cr_gcd (by rfl) g_gcd (pa_cons (pv 0) (pa_cons (pv 1) pa_nil))))
    (pss_one (ps_ret (pe_tup (pa_cons (pe_op op_fdivW (pv 0) (pv 2)) (pa_cons (pe_op op_fdivW (pv 1) (pv 2)) pa_nil)))))), ?_⟩
  obtain rfl : v0 = _ := h0
  obtain rfl : v1 = _ := h1
  refine ps_asgN (fun x => [some (.int n), some (.int d), some x]) eB (p_ev (ev_gcd (ev_var rfl) (ev_var rfl))) (fun x B2 H2 g2 hx => ?_) (fun _ => rfl)
  obtain rfl := (show x = _ from hx)
  have gg := gcd_dv (a := n) hd hs
  dsimp only
  refine My.ps_ret g2.c (p_tup (K := K) (ps := [IsV _, IsV _]) (q_cons (p_ev (ev_divW (ev_var rfl) (ev_var rfl) gg)) (q_cons (p_ev (ev_divW (ev_var rfl) (ev_var rfl) gg)) q_nil)) (by show 2 ≤ 100000; decide)) fun v B1 H4 g hp => q v B1 H4 (g2.trans g) ?_
  show (frP K (fr (Rat.divInt n d))).P v B1
  rw [fr_lowest hd]
  exact hp

/-- fraction -/
abbrev s_fraction : Stmt := topS 34
abbrev N_fraction : List Str := ["top", "bottom"]
theorem sc_fraction : FnScope N_fraction ["top", "bottom"] (defScope s_fraction) := ⟨rfl, rfl, rfl, by decide +kernel, rfl, by decide +kernel, by decide +kernel⟩
theorem ok_fraction {f : Addr} {fd : FuncData} (F : FunD K "fraction" "fraction" (defArgs s_fraction) (defBody s_fraction) (defScope s_fraction) [V.int 1] [] f fd) {aOP : Addr} {f_is_whole : Addr} {d_is_whole : FuncData} (c_is_whole : Cal P w K mg base "is_whole" 2 ["thing"] (spP (RBE K wholeB)) f_is_whole d_is_whole) {f_lowest : Addr} {d_lowest : FuncData} (c_lowest : Cal P w K mg base "lowest" 1 ["top", "bottom"] (spP (Rlow K)) f_lowest d_lowest)  (R_OP : RQ K mg "OutOfPlace" aOP) :
    FnOk P w K mg base (L2.CX P w) 3 f fd ["top", "bottom"] (spO (RfrO K aOP)) := by
  refine FunD.ok (CX := L2.CX P w) F sc_fraction (spO_len (by rintro _ _ (⟨_, _, _, _, rfl, rfl⟩ | ⟨_, _, _, _, _, _, _, _, _, rfl, rfl⟩ | ⟨_, rfl, rfl⟩) <;> rfl)) (fun cdv A outer s H vs Q E hr h => ?_)
  obtain ⟨B, ps, o, eB, hv, ho, q⟩ := h
  have hu := hu_of hr
  have tk : Takes (cxOf (L2.CX P w) P w K mg base N_fraction "fraction" (defScope s_fraction) f cdv A outer s H E) (fun cls d _ H => E cls d H) := L2.takes_of rfl rfl rfl rfl
  refine ⟨_, (pss_cons (ps_if (PW.pt (pw_or (pt_not (pt_val (pe_call c_is_whole.G (hr.mono (by decide)) (by rfl) c_is_whole.m c_is_whole.k c_is_whole.b .nil pass0 (pa_cons (pv 0) pa_nil)))) (pw_or1 (pt_not (pt_val (pe_call c_is_whole.G (hr.mono (by decide)) (by rfl) c_is_whole.m c_is_whole.k c_is_whole.b .nil pass0 (pa_cons (pv 1) pa_nil))))))) (pss_one (ps_raiseQ R_OP rfl tk (by rfl))) pss_nil)
    (pss_cons (ps_if (pt_cmpR op_eq (pv 1) pe_int (nomark _)) (pss_one (ps_raiseQ R_OP rfl tk (by rfl))) pss_nil)
    (pss_cons (ps_if (pt_cmpR op_lt (pv 1) pe_int (nomark _)) (pss_one (ps_ret (pe_call c_lowest.G (hr.mono (by decide)) (by rfl) c_lowest.m c_lowest.k c_lowest.b .nil pass0 (pa_cons (pe_un un_neg (pv 0)) (pa_cons (pe_un un_neg (pv 1)) pa_nil))))) pss_nil)
    (pss_one (ps_ret (pe_call c_lowest.G (hr.mono (by decide)) (by rfl) c_lowest.m c_lowest.k c_lowest.b .nil pass0 (pa_cons (pv 0) (pa_cons (pv 1) pa_nil)))))))), ?_⟩
  have wh : ∀ {qd : Pr} {d : PyData} {i : Nat} {v0 v1 v : V}, ToE K qd d → smB d = true → ([some v0, some v1] : L2.St)[i]? = some (some v) → qd.P v B → Ev (tCall (spP (RBE K wholeB)) [] E0 (tCons (tVar i) tNil)) [some v0, some v1] B (.bl (wholeB d)) :=
    fun t s h hp => ev_p (p_callP (R := RBE K wholeB) (q_cons (p_var h hp) q_nil) ⟨_, _, t, s, rfl, rfl⟩)
  rcases ho with ⟨n, d, hd, hs, rfl, rfl⟩ | ⟨q1, q2, d1, d2, t1, t2, s1, s2, hw, rfl, rfl⟩ | ⟨n, rfl, rfl⟩
  · obtain ⟨v0, v1, rfl, h0, h1⟩ := all2 hv
    obtain rfl : v0 = _ := h0
    obtain rfl : v1 = _ := h1
    have w0 := wh (i := 0) (v0 := .int n) (v1 := .int d) (qd := IsV (.int n)) (toE_of to_int) smd_int rfl rfl
    have w1 := wh (i := 1) (v0 := .int n) (v1 := .int d) (qd := IsV (.int d)) (toE_of to_int) smd_int rfl rfl
    refine ps_ifN eB (et_is (et_or (et_not (et_B w0)) fun _ => et_not (et_B w1)) rfl) fun H1 e1 => ?_
    dsimp only
    refine ps_ifN (eB.trans e1) (et_is (et_test (ev_op (ev_var (i := 1) rfl) (ev_c (v := .int 0)) (rv_eq rfl))) (by simp [hd])) fun H2 e2 => ?_
    have e2' := eB.trans (e1.trans e2)
    dsimp only
    have tst := et_test (σ := [some (.int n), some (.int d)]) (H := B) (ev_op (r := rI0 fun i j => .bl (decide (i < j))) (ev_var (i := 1) rfl) (ev_c (v := .int 0)) rv_I0)
    by_cases c : d < 0
    · refine My.ps_ifT e2' (et_is tst (by simp [c])) fun H3 e3 => ?_
      refine My.ps_ret (e2'.trans e3) (p_callP (R := Rlow K) (p := rtP K (Rat.divInt (-n) (-d))) (ps := [IsV (.int (-n)), IsV (.int (-d))]) (q_cons (p_ev (ev_un (ev_var rfl) ru_neg)) (q_cons (p_ev (ev_un (ev_var rfl) ru_neg)) q_nil)) ⟨-n, -d, by omega, by rw [Int.natAbs_neg]; exact hs, rfl, rfl⟩) fun v B4 H4 g hp => q v B4 H4 ((Gr.wide eB (e1.trans (e2.trans e3))).trans g) ?_
      rw [Rat.neg_divInt_neg] at hp
      exact hp
    · refine ps_ifN e2' (et_is tst (by simp [c])) fun H3 e3 => ?_
      dsimp only
      exact My.ps_ret (e2'.trans e3) (p_callP (R := Rlow K) (p := rtP K (Rat.divInt n d)) (ps := [IsV (.int n), IsV (.int d)]) (q_cons (p_varV rfl) (q_cons (p_varV rfl) q_nil)) ⟨n, d, by omega, hs, rfl, rfl⟩) fun v B4 H4 g hp => q v B4 H4 ((Gr.wide eB (e1.trans (e2.trans e3))).trans g) hp
  · obtain ⟨v0, v1, rfl, h0, h1⟩ := all2 hv
    refine My.ps_ifT eB (et_is (et_or (et_not (et_B (wh (i := 0) t1 s1 rfl h0))) fun _ => et_not (et_B (wh (i := 1) t2 s2 rfl h1))) (by rw [← Bool.not_and, hw]; rfl)) fun H1 e1 => ?_
    exact q none B H1 (Gr.wide eB e1) rfl
  · obtain ⟨v0, v1, rfl, h0, h1⟩ := all2 hv
    obtain rfl : v0 = _ := h0
    obtain rfl : v1 = _ := h1
    have w0 := wh (i := 0) (v0 := .int n) (v1 := .int 0) (qd := IsV (.int n)) (toE_of to_int) smd_int rfl rfl
    have w1 := wh (i := 1) (v0 := .int n) (v1 := .int 0) (qd := IsV (.int 0)) (toE_of to_int) smd_int rfl rfl
    refine ps_ifN eB (et_is (et_or (et_not (et_B w0)) fun _ => et_not (et_B w1)) rfl) fun H1 e1 => ?_
    dsimp only
    refine My.ps_ifT (eB.trans e1) (et_is (et_test (ev_op (ev_var (i := 1) rfl) (ev_c (v := .int 0)) (rv_eq rfl))) (by simp)) fun H2 e2 => ?_
    exact q none B H2 (Gr.wide eB (e1.trans e2)) rfl

/-- quotient -/
abbrev s_quotient : Stmt := topS 39
abbrev N_quotient : List Str := ["one", "other"]
theorem sc_quotient : FnScope N_quotient ["one", "other"] (defScope s_quotient) := ⟨rfl, rfl, rfl, by decide +kernel, rfl, by decide +kernel, by decide +kernel⟩
theorem ok_quotient {f : Addr} {fd : FuncData} (F : Fun K "quotient" "quotient" s_quotient f fd) {aOP : Addr} {f_fraction : Addr} {d_fraction : FuncData} (c_fraction : CalX P w K mg base "fraction" 3 ["top", "bottom"] (spO (RfrO K aOP)) f_fraction d_fraction)   :
    FnOk P w K mg base (L2.CX P w) 4 f fd ["one", "other"] (spO (RquO K aOP)) := by
  refine F.okX sc_quotient (spO_len (by rintro _ _ ⟨_, _, _, _, _, rfl, _⟩; rfl)) (fun cdv A outer s H vs Q E hr h => ?_)
  obtain ⟨B, ps, o, eB, hv, ⟨r, z, hr1, hs1, hb, rfl, ho⟩, q⟩ := h
  obtain ⟨v0, v1, rfl, h0, h1⟩ := all2 hv
  have hu := hu_of hr
  have tk : Takes (cxOf (L2.CX P w) P w K mg base N_quotient "quotient" (defScope s_quotient) f cdv A outer s H E) (fun cls d _ H => E cls d H) := L2.takes_of rfl rfl rfl rfl
  refine ⟨_, (pss_one (ps_ret (pe_callS c_fraction.G (hr.mono (by decide)) (by rfl) c_fraction.m c_fraction.k c_fraction.b (fun σ => passAt tk σ) (pa_cons (pe_op op_mulW (pe_ix ix_tup (pv 0) pe_int (fun _ _ => rfl)) (pe_ix ix_tup (pv 1) pe_int (fun _ _ => rfl))) (pa_cons (pe_op op_mulW (pe_ix ix_tup (pv 0) pe_int (fun _ _ => rfl)) (pe_ix ix_tup (pv 1) pe_int (fun _ _ => rfl))) pa_nil))))), ?_⟩
  have args : EvPs (tCons (tOp (rI CMulW fun i j => .int (i * j)) (tOp (rIxT K) (tVar 0) (tC (.int 0))) (tOp (rIxT K) (tVar 1) (tC (.int 1)))) (tCons (tOp (rI CMulW fun i j => .int (i * j)) (tOp (rIxT K) (tVar 0) (tC (.int 1))) (tOp (rIxT K) (tVar 1) (tC (.int 0)))) tNil)) [some v0, some v1] B [IsV (.int (r.num * z.den)), IsV (.int (r.den * z.num))] :=
    q_cons (p_ev (ev_mulW (k := 4000) (ev_top (K := K) (p_var (i := 0) rfl h0)) (ev_bot (K := K) (p_var (i := 1) rfl h1)) (lg (sm_top hr1)) (lg (sm_bot hs1)))) (q_cons (p_ev (ev_mulW (k := 4000) (ev_bot (K := K) (p_var (i := 0) rfl h0)) (ev_top (K := K) (p_var (i := 1) rfl h1)) (lg (sm_bot hr1)) (lg (sm_top hs1)))) q_nil)
  have dn : (r.den : Int) ≠ 0 := by have := r.den_pos; omega
  rcases ho with ⟨hs0, rfl⟩ | ⟨hs0, rfl⟩
  · refine o_call (E := WE _) eB args (.inl ⟨_, _, ?_, ?_, rfl, rfl⟩) fun v B2 H2 g hp => q v B2 H2 g hp
    · intro e
      rcases Int.mul_eq_zero.mp e with e | e
      · exact dn e
      · exact hs0 (Rat.num_eq_zero.mp e)
    · rw [Int.natAbs_mul]
      exact hb
  · refine o_call (E := WE _) eB args (.inr (.inr ⟨r.num * z.den, by rw [show (r.den : Int) * z.num = 0 from by rw [hs0]; exact Int.mul_zero _], rfl⟩)) fun d B2 H2 g2 hd => q d B2 H2 g2 hd

/-- difference -/
abbrev s_difference : Stmt := topS 37
abbrev N_difference : List Str := ["one", "other"]
theorem sc_difference : FnScope N_difference ["one", "other"] (defScope s_difference) := ⟨rfl, rfl, rfl, by decide +kernel, rfl, by decide +kernel, by decide +kernel⟩
theorem ok_difference {f : Addr} {fd : FuncData} (F : Fun K "difference" "difference" s_difference f fd)  {f_sum_of : Addr} {d_sum_of : FuncData} (c_sum_of : Cal P w K mg base "sum_of" 1 ["one", "other"] (spP (Rsum K)) f_sum_of d_sum_of)   :
    FnOk P w K mg base CX0 2 f fd ["one", "other"] (spP (Rdif K)) := by
  refine F.ok sc_difference (spP_len (by rintro _ _ ⟨_, _, _, _, rfl, rfl⟩; rfl)) (fun cdv A outer s H vs Q E hr h => ?_)
  obtain ⟨B, ps, p, eB, hv, ⟨r, s, hr1, hs1, rfl, rfl⟩, q⟩ := h
  obtain ⟨v0, v1, rfl, h0, h1⟩ := all2 hv
  have hu := hu_of hr
  refine ⟨_, (pss_one (ps_ret (pe_call c_sum_of.G (hr.mono (by decide)) (by rfl) c_sum_of.m c_sum_of.k c_sum_of.b .nil pass0 (pa_cons (pv 0) (pa_cons (pe_tup (pa_cons (pe_un un_neg (pe_ix ix_tup (pv 1) pe_int (fun _ _ => rfl))) (pa_cons (pe_ix ix_tup (pv 1) pe_int (fun _ _ => rfl)) pa_nil))) pa_nil))))), ?_⟩
  have en : EvP _ [some v0, some v1] B (rtP K (-s)) := p_tup (K := K) (ps := [IsV (.int (-s.num)), IsV (.int s.den)]) (q_cons (p_ev (ev_un (ev_top (K := K) (p_var (i := 1) rfl h1)) ru_neg)) (q_cons (p_ev (ev_bot (K := K) (p_var (i := 1) rfl h1))) q_nil)) (by show 2 ≤ 100000; decide)
  exact My.ps_ret eB (p_callP (R := Rsum K) (p := rtP K (r + -s)) (ps := [rtP K r, rtP K (-s)]) (q_cons (p_var (i := 0) rfl h0) (q_cons en q_nil)) ⟨r, -s, hr1, ⟨by show (-s.num).natAbs < _; rw [Int.natAbs_neg]; exact hs1.1, hs1.2⟩, rfl, rfl⟩) fun v B4 H4 g hp => q v B4 H4 g hp

/-- whole_text -/
abbrev s_whole_text : Stmt := topS 41
abbrev N_whole_text : List Str := ["number", "piece", "rest", "pieces", "low", "sign"]
theorem sc_whole_text : FnScope N_whole_text ["number"] (defScope s_whole_text) := ⟨rfl, rfl, rfl, by decide +kernel, rfl, by decide +kernel, by decide +kernel⟩
theorem ok_whole_text {f : Addr} {fd : FuncData} (F : Fun K "whole_text" "whole_text" s_whole_text f fd)   (n_abs : mg "abs" = none) (n_divmod : mg "divmod" = none) (n_str : mg "str" = none)  :
    FnOk P w K mg base CX0 1 f fd ["number"] (spP (Rwt K)) := by
  refine F.ok sc_whole_text (spP_len (by rintro _ _ ⟨_, _, rfl, rfl⟩; rfl)) (fun cdv A outer s H vs Q E hr h => ?_)
  obtain ⟨B, ps, p, eB, hv, ⟨n, hn, rfl, rfl⟩, q⟩ := h
  obtain ⟨v, rfl, h1⟩ := all1 hv
  obtain rfl : v = .int n := h1
  have hu := hu_of hr
  refine ⟨_, (pss_cons (ps_set (i := 1) sc_whole_text.nd rfl (by first | exact .inl rfl | exact .inr rfl) (pe_op op_pow pe_int pe_int))
    (pss_cons (ps_set (i := 2) sc_whole_text.nd rfl (by first | exact .inl rfl | exact .inr rfl) (pe_callB call_abs (by rfl) n_abs (by decide +kernel) (pa_cons (pv 0) pa_nil)))
    (pss_cons (ps_set (i := 3) sc_whole_text.nd rfl (by first | exact .inl rfl | exact .inr rfl) (pe_lst pa_nil))
    (pss_cons (ps_while PassesOwn.never (pt_cmpR op_ge (pv 2) (pv 1) (nomark _))
      (pss_cons (ps_asg (pe_callB call_divmod (by rfl) n_divmod (by decide +kernel) (pa_cons (pv 2) (pa_cons (pv 1) pa_nil))) (pg_tup (by rfl) (pgs_cons (pg_name (i := 2) sc_whole_text.nd rfl (by first | exact .inl rfl | exact .inr rfl)) (pgs_cons (pg_name (i := 4) sc_whole_text.nd rfl (by first | exact .inl rfl | exact .inr rfl)) pgs_nil))))
    (pss_one (ps_expr (pe_bm PySem.F.plainAttrs_list PySem.F.slot_list_append PySem.F.type_list_append mt_append (pv 3) (pa_cons (pe_bm PySem.F.plainAttrs_str PySem.F.slot_str_zfill PySem.F.type_str_zfill mt_zfill (pe_callTy call_str_int (by rfl) n_str (by decide +kernel) (pa_cons (pv 4) pa_nil)) (pa_cons pe_int pa_nil)) pa_nil))))))
    (pss_cons (ps_expr (pe_bm PySem.F.plainAttrs_list PySem.F.slot_list_append PySem.F.type_list_append mt_append (pv 3) (pa_cons (pe_callTy call_str_int (by rfl) n_str (by decide +kernel) (pa_cons (pv 2) pa_nil)) pa_nil)))
    (pss_cons (ps_set (i := 5) sc_whole_text.nd rfl (by first | exact .inl rfl | exact .inr rfl) (pe_ifExp (pt_cmpR op_lt (pv 0) pe_int (nomark _)) pe_str pe_str))
    (pss_one (ps_ret (pe_op op_add_str (pv 5) (pe_join pe_str (pe_revL (pv 3)))))))))))), ?_⟩
  refine ps_asgN (fun x => [some (.int n), some x, none, none, none, none]) eB (p_ev (v := .int (10 ^ 60)) (ev_op ev_c ev_c (rv_I ⟨by decide, by decide, by decide⟩))) (fun x B1 H1 g1 hx => ?_) (fun _ => rfl)
  obtain rfl : x = .int (10 ^ 60) := hx
  dsimp only
  refine b_seq (b_asg ⟨_, rfl, n, rfl, ?_⟩)
  rw [int_abs]
  dsimp only [gName, List.set_cons_succ, List.set_cons_zero]
  refine b_seq (b_asg ?_)
  refine ⟨by decide, fun l hl => ?_⟩
  have A0 := acc_new g1.c hl
  dsimp only [gName, List.set_cons_succ, List.set_cons_zero]
  refine b_seq ?_
  refine ⟨fun m σ' H' => σ' = [some (.int n), some (.int (10 ^ 60)), some (.int (n.natAbs : Nat)), some (.ref l), none, none] ∧ H' = upd H1 l (.lst []), ⟨0, rfl, rfl⟩, fun m σ' H' hw => ?_⟩
  obtain ⟨rfl, rfl⟩ := hw
  refine et_is (et_test (ev_op (r := rI0 fun i j => .bl (decide (j ≤ i))) (ev_var (i := 2) rfl) (ev_var (i := 1) rfl) rv_I0)) (b := false) (decide_eq_false (by omega)) _ A0.ex _ fun H2 e2 => ?_
  rw [if_neg Bool.false_ne_true]
  have A1 := A0.step (Gr.wide A0.ex e2)
  have la := txt_len (i := (n.natAbs : Int)) (k := 60) (by rw [Int.natAbs_natCast]; exact hn) (by decide)
  refine b_seq (ps_app (K := K) (p := IsV (.str (Str.ofString (toString (n.natAbs : Int))))) rfl A1 (p_ev (ev_strI (ev_var (i := 2) rfl) (by rw [Int.natAbs_natCast]; exact log60 hn))) (by show 0 < 100000; decide) fun B3 H3 e3 A3 => ?_)
  dsimp only
  have tst := et_test (σ := [some (.int n), some (.int (10 ^ 60)), some (.int (n.natAbs : Nat)), some (.ref l), none, none]) (H := B3) (ev_op (r := rI0 fun i j => .bl (decide (i < j))) (ev_var (i := 0) (v := .int n) rfl) (ev_c (v := .int 0)) rv_I0)
  refine ps_asgN (fun x => [some (.int n), some (.int (10 ^ 60)), some (.int (n.natAbs : Nat)), some (.ref l), none, some x]) A3.ex (p := IsV (.str (if n < 0 then Str.ofString "-" else Str.ofString ""))) (ed_if tst (fun h => by rw [if_pos (of_decide_eq_true h)]; exact p_c) (fun h => by rw [if_neg (of_decide_eq_false h)]; exact p_c)) (fun x B4 H4 g4 hx => ?_) (fun _ => rfl)
  obtain rfl := (show x = _ from hx)
  obtain ⟨B5, g5, hL⟩ := (A3.step g4).fin hl
  obtain ⟨l', xs, el, hx5, al⟩ := hL
  cases el
  obtain ⟨y, rfl, hy⟩ := all1 al
  obtain rfl : y = _ := hy
  dsimp only
  have ls : (if n < 0 then Str.ofString "-" else Str.ofString "").length ≤ 1 := by split <;> decide +kernel
  refine b_ret (b_op ⟨_, rfl, ⟨_, rfl⟩, _, rfl, l, _, rfl, sq_of (g5.c _ _ hx5), fun p hp => ⟨_, p, [Str.ofString (toString (n.natAbs : Int))], rfl, rfl, .inl (sq_of upd_same), ?_, ?_⟩⟩)
  · simp only [List.map_cons, List.map_nil, List.sum_cons, List.sum_nil, List.length_cons, List.length_nil]
    have : (Str.ofString "").length = 0 := by decide +kernel
    omega
  · refine ⟨_, _, rfl, rfl, ?_, ?_⟩
    · rw [join_one]
      have : 1 + 61 ≤ sizeLine := by decide
      omega
    · rw [txt_sign]
      exact q _ _ _ ((g1.trans g5).trans (Gr.new _ g5.c hp)) rfl

/-- number_text -/
abbrev s_number_text : Stmt := topS 40
abbrev N_number_text : List Str := ["one"]
theorem sc_number_text : FnScope N_number_text ["one"] (defScope s_number_text) := ⟨rfl, rfl, rfl, by decide +kernel, rfl, by decide +kernel, by decide +kernel⟩
theorem ok_number_text {f : Addr} {fd : FuncData} (F : Fun K "number_text" "number_text" s_number_text f fd)  {f_whole_text : Addr} {d_whole_text : FuncData} (c_whole_text : Cal P w K mg base "whole_text" 1 ["number"] (spP (Rwt K)) f_whole_text d_whole_text)   :
    FnOk P w K mg base CX0 2 f fd ["one"] (spP (Rnt K)) := by
  refine F.ok sc_number_text (spP_len (by rintro _ _ ⟨_, _, _, rfl, rfl⟩; rfl)) (fun cdv A outer s H vs Q E hr h => ?_)
  obtain ⟨B, ps, p, eB, hv, ⟨r, hn, hd, rfl, rfl⟩, q⟩ := h
  obtain ⟨v0, rfl, h0⟩ := all1 hv
  have hu := hu_of hr
  refine ⟨_, (pss_cons (ps_if (pt_cmpR op_eq (pe_ix ix_tup (pv 0) pe_int (fun _ _ => rfl)) pe_int (nomark _)) (pss_one (ps_ret (pe_call c_whole_text.G (hr.mono (by decide)) (by rfl) c_whole_text.m c_whole_text.k c_whole_text.b .nil pass0 (pa_cons (pe_ix ix_tup (pv 0) pe_int (fun _ _ => rfl)) pa_nil)))) pss_nil)
    (pss_one (ps_ret (pe_joined (.cons (pe_fmt (pe_call c_whole_text.G (hr.mono (by decide)) (by rfl) c_whole_text.m c_whole_text.k c_whole_text.b .nil pass0 (pa_cons (pe_ix ix_tup (pv 0) pe_int (fun _ _ => rfl)) pa_nil))) (.cons pe_str (.cons (pe_fmt (pe_call c_whole_text.G (hr.mono (by decide)) (by rfl) c_whole_text.m c_whole_text.k c_whole_text.b .nil pass0 (pa_cons (pe_ix ix_tup (pv 0) pe_int (fun _ _ => rfl)) pa_nil))) .nil))))))), ?_⟩
  have wt : ∀ {te : TE} {i : Int}, Ev te [some v0] B (.int i) → i.natAbs < 10 ^ 60 → EvP (tCall (spP (Rwt K)) [] E0 (tCons te tNil)) [some v0] B (IsV (.str (toString i))) := fun h hi => p_callP (R := Rwt K) (ps := [IsV (.int _)]) (q_cons (p_ev h) q_nil) ⟨_, hi, rfl, rfl⟩
  have tst := et_test (ev_op (ev_bot (K := K) (p_var (i := 0) (σ := [some v0]) rfl h0)) (ev_c (v := .int 1)) (rv_eq rfl))
  by_cases c : r.den = 1
  · refine My.ps_ifT eB (et_is tst (by show decide (V.int (r.den : Int) = .int 1) = true; rw [c]; rfl)) fun H1 e1 => ?_
    refine My.ps_ret (eB.trans e1) (wt (ev_top (K := K) (p_var (i := 0) rfl h0)) hn) fun v B4 H4 g hp => q v B4 H4 ((Gr.wide eB e1).trans g) ?_
    rw [if_pos c]
    exact hp
  · refine ps_ifN eB (et_is tst (by show decide (V.int (r.den : Int) = .int 1) = false; exact decide_eq_false fun e => c (by injection e with e; omega))) fun H1 e1 => ?_
    dsimp only
    have t1 := ev_p (wt (ev_top (K := K) (p_var (i := 0) rfl h0)) hn)
    have t2 := ev_p (wt (i := (r.den : Int)) (ev_bot (K := K) (p_var (i := 0) rfl h0)) (by rw [Int.natAbs_natCast]; exact hd))
    have l1 := txt_len (i := r.num) (k := 60) hn (by decide)
    have l2 := txt_len (i := (r.den : Int)) (k := 60) (by rw [Int.natAbs_natCast]; exact hd) (by decide)
    have sl : 200 ≤ sizeLine := by decide
    have s1 : (Str.ofString "/").length = 1 := by decide +kernel
    refine b_ret (t1 H1 (eB.trans e1) _ fun H2 e2 => .inl ⟨_, rfl, by show (Str.ofString (toString r.num)).length ≤ _; omega, _, rfl, by rw [emp_cat]; show (Str.ofString (toString r.num)).length ≤ _; omega, ?_⟩)
    rw [emp_cat]
    refine ⟨_, rfl, by rw [len_cat]; show (Str.ofString (toString r.num)).length + _ ≤ _; omega, t2 H2 (eB.trans (e1.trans e2)) _ fun H3 e3 => .inl ⟨_, rfl, by omega, _, rfl, by rw [len_cat, len_cat]; show (Str.ofString (toString r.num)).length + _ + _ ≤ _; omega, ?_⟩⟩
    refine q _ B H3 (Gr.wide eB (e1.trans (e2.trans e3))) ?_
    rw [if_neg c]
    rfl

end
end K12
namespace Nd
set_option autoImplicit false
open PySem PySem.Spec PySem.W PySem.Calls PyProof.Rows L2 My Evl LamX NdefX
def Rlow2 (K : PySem.W.Frag) : List Pr → Pr → Prop := fun ps z => ∃ n d : Int, d ≠ 0 ∧ d.natAbs < 2 ^ 4000 ∧ ps = [IsV (.int n), IsV (.int d)] ∧ z = rtP K (Rat.divInt n d)
theorem tup2 {K : PySem.W.Frag} {p q : Pr} {v : V} {B H : Hp} (h : (TuP K [p, q]).P v B) (e : Ex B H) : ∃ a x y, v = .ref a ∧ SqT K H a [x, y] ∧ p.P x B ∧ q.P y B := by
  obtain ⟨a, xs, rfl, hx, al⟩ := h
  obtain ⟨x, y, rfl, h1, h2⟩ := K12.all2 al
  exact ⟨a, x, y, rfl, ex_t e hx, h1, h2⟩
/-- what is told of a fraction | of a quotient: it, or the kinds of what refuses -/
def outP : Out → Pr
  | .ret p => p
  | .exc _ _ => txts (kinds 13)
def Rtl (K : PySem.W.Frag) (C : Addr) : List Pr → Pr → Prop := fun ps p => ∃ (w : Int) (q1 q2 : Pr) (o : Out), ((w = 0 ∧ RfrO K C [q1, q2] o) ∨ (w = 1 ∧ RquO K C [q1, q2] o)) ∧ ps = [IsV (.int w), q1, q2] ∧ p = outP o
end Nd
namespace K12
set_option autoImplicit false
open PySem PySem.W L2 Evl My Nd LamX NdefX
/-- _law_kinds -/
abbrev s_Lkinds : Stmt := topS 46
abbrev N_Lkinds : List Str := ["_law_error", "_law_kinds_here", "_law_kind", "_law_holds"]
theorem sc_Lkinds : FnScope N_Lkinds ["_law_error"] (defScope s_Lkinds) := ⟨rfl, rfl, rfl, by decide +kernel, rfl, by decide +kernel, by decide +kernel⟩
section
variable {P : Program} {w : World} {K : PySem.W.Frag} {mg : Str → Option Value} {base : Heap} {T : List (Addr × Str)}
theorem ok_Lkinds {f : Addr} {fd : FuncData} {cx : Nat → Addr} (F : Fun K "_law_kinds" "_law_kinds" s_Lkinds f fd) (T : XT K mg cx) : FnOk P w K mg base CX0 1 f fd ["_law_error"] (spKinds cx) := by
  refine F.ok sc_Lkinds (fun vs H Q E h => ?_) (fun cdv A outer s H vs Q E hr h => ?_)
  · obtain ⟨i, v, B, _, rfl, _⟩ := h
    rfl
  · obtain ⟨i, v, B, hi, rfl, eB, hv, q⟩ := h
    have hu := hu_of hr
    refine ⟨_, (pss_cons (ps_set (i := 1) sc_Lkinds.nd rfl (by first | exact .inl rfl | exact .inr rfl) (pe_lst (pa_cons (pe_tup (pa_cons pe_str (pa_cons (pe_callB call_xis (by rfl) T.n_isinstance (by decide +kernel) (pa_cons (pv 0) (pa_cons (pe_globR (by rfl) T.g_BadRow) pa_nil))) pa_nil))) (pa_cons (pe_tup (pa_cons pe_str (pa_cons (pe_callB call_xis (by rfl) T.n_isinstance (by decide +kernel) (pa_cons (pv 0) (pa_cons (pe_globR (by rfl) T.g_BadPolynomial) pa_nil))) pa_nil))) pa_nil))))
    (pss_cons (ps_set (i := 1) sc_Lkinds.nd rfl (by first | exact .inl rfl | exact .inr rfl) (pe_op op_cat (pv 1) (pe_lst (pa_cons (pe_tup (pa_cons pe_str (pa_cons (pe_callB call_xis (by rfl) T.n_isinstance (by decide +kernel) (pa_cons (pv 0) (pa_cons (pe_globR (by rfl) T.g_BadRanking) pa_nil))) pa_nil))) (pa_cons (pe_tup (pa_cons pe_str (pa_cons (pe_callB call_xis (by rfl) T.n_isinstance (by decide +kernel) (pa_cons (pv 0) (pa_cons (pe_globR (by rfl) T.g_BadChain) pa_nil))) pa_nil))) pa_nil)))))
    (pss_cons (ps_set (i := 1) sc_Lkinds.nd rfl (by first | exact .inl rfl | exact .inr rfl) (pe_op op_cat (pv 1) (pe_lst (pa_cons (pe_tup (pa_cons pe_str (pa_cons (pe_callB call_xis (by rfl) T.n_isinstance (by decide +kernel) (pa_cons (pv 0) (pa_cons (pe_globR (by rfl) T.g_BadData) pa_nil))) pa_nil))) (pa_cons (pe_tup (pa_cons pe_str (pa_cons (pe_callB call_xis (by rfl) T.n_isinstance (by decide +kernel) (pa_cons (pv 0) (pa_cons (pe_globR (by rfl) T.g_BadJet) pa_nil))) pa_nil))) pa_nil)))))
    (pss_cons (ps_set (i := 1) sc_Lkinds.nd rfl (by first | exact .inl rfl | exact .inr rfl) (pe_op op_cat (pv 1) (pe_lst (pa_cons (pe_tup (pa_cons pe_str (pa_cons (pe_callB call_xis (by rfl) T.n_isinstance (by decide +kernel) (pa_cons (pv 0) (pa_cons (pe_globR (by rfl) T.g_BadPaper) pa_nil))) pa_nil))) (pa_cons (pe_tup (pa_cons pe_str (pa_cons (pe_callB call_xis (by rfl) T.n_isinstance (by decide +kernel) (pa_cons (pv 0) (pa_cons (pe_globR (by rfl) T.g_Twice) pa_nil))) pa_nil))) pa_nil)))))
    (pss_cons (ps_set (i := 1) sc_Lkinds.nd rfl (by first | exact .inl rfl | exact .inr rfl) (pe_op op_cat (pv 1) (pe_lst (pa_cons (pe_tup (pa_cons pe_str (pa_cons (pe_callB call_xis (by rfl) T.n_isinstance (by decide +kernel) (pa_cons (pv 0) (pa_cons (pe_globR (by rfl) T.g_OutOfPlace) pa_nil))) pa_nil))) (pa_cons (pe_tup (pa_cons pe_str (pa_cons (pe_callB call_xis (by rfl) T.n_isinstance (by decide +kernel) (pa_cons (pv 0) (pa_cons (pe_globR (by rfl) T.g_TooGreat) pa_nil))) pa_nil))) pa_nil)))))
    (pss_cons (ps_set (i := 1) sc_Lkinds.nd rfl (by first | exact .inl rfl | exact .inr rfl) (pe_op op_cat (pv 1) (pe_lst (pa_cons (pe_tup (pa_cons pe_str (pa_cons (pe_callB call_xis (by rfl) T.n_isinstance (by decide +kernel) (pa_cons (pv 0) (pa_cons (pe_globR (by rfl) T.g_NoUnknown) pa_nil))) pa_nil))) (pa_cons (pe_tup (pa_cons pe_str (pa_cons (pe_callB call_xis (by rfl) T.n_isinstance (by decide +kernel) (pa_cons (pv 0) (pa_cons (pe_globR (by rfl) T.g_NoEquation) pa_nil))) pa_nil))) pa_nil)))))
    (pss_cons (ps_set (i := 1) sc_Lkinds.nd rfl (by first | exact .inl rfl | exact .inr rfl) (pe_op op_cat (pv 1) (pe_lst (pa_cons (pe_tup (pa_cons pe_str (pa_cons (pe_callB call_xis (by rfl) T.n_isinstance (by decide +kernel) (pa_cons (pv 0) (pa_cons (pe_globR (by rfl) T.g_NoCase) pa_nil))) pa_nil))) (pa_cons (pe_tup (pa_cons pe_str (pa_cons (pe_callB call_xis (by rfl) T.n_isinstance (by decide +kernel) (pa_cons (pv 0) (pa_cons (pe_globR (by rfl) T.g_Nothing) pa_nil))) pa_nil))) pa_nil)))))
    (pss_cons (ps_set (i := 1) sc_Lkinds.nd rfl (by first | exact .inl rfl | exact .inr rfl) (pe_op op_cat (pv 1) (pe_lst (pa_cons (pe_tup (pa_cons pe_str (pa_cons (pe_callB call_xis (by rfl) T.n_isinstance (by decide +kernel) (pa_cons (pv 0) (pa_cons (pe_globR (by rfl) T.g_Contradicted) pa_nil))) pa_nil))) (pa_cons (pe_tup (pa_cons pe_str (pa_cons (pe_callB call_xis (by rfl) T.n_isinstance (by decide +kernel) (pa_cons (pv 0) (pa_cons (pe_globR (by rfl) T.g_Knotted) pa_nil))) pa_nil))) pa_nil)))))
    (pss_cons (ps_set (i := 1) sc_Lkinds.nd rfl (by first | exact .inl rfl | exact .inr rfl) (pe_op op_cat (pv 1) (pe_lst (pa_cons (pe_tup (pa_cons pe_str (pa_cons (pe_callB call_xis (by rfl) T.n_isinstance (by decide +kernel) (pa_cons (pv 0) (pa_cons (pe_globR (by rfl) T.g_ChainError) pa_nil))) pa_nil))) (pa_cons (pe_tup (pa_cons pe_str (pa_cons (pe_callB call_xis (by rfl) T.n_isinstance (by decide +kernel) (pa_cons (pv 0) (pa_cons (pe_bltn (v := .ty "ValueError") (by rfl) T.n_ValueError (by decide +kernel) rfl) pa_nil))) pa_nil))) pa_nil)))))
    (pss_cons (ps_set (i := 1) sc_Lkinds.nd rfl (by first | exact .inl rfl | exact .inr rfl) (pe_op op_cat (pv 1) (pe_lst (pa_cons (pe_tup (pa_cons pe_str (pa_cons (pe_callB call_xis (by rfl) T.n_isinstance (by decide +kernel) (pa_cons (pv 0) (pa_cons (pe_globR (by rfl) T.g_MissError) pa_nil))) pa_nil))) (pa_cons (pe_tup (pa_cons pe_str (pa_cons (pe_callB call_xis (by rfl) T.n_isinstance (by decide +kernel) (pa_cons (pv 0) (pa_cons (pe_bltn (v := .ty "LookupError") (by rfl) T.n_LookupError (by decide +kernel) rfl) pa_nil))) pa_nil))) pa_nil)))))
    (pss_cons (ps_set (i := 1) sc_Lkinds.nd rfl (by first | exact .inl rfl | exact .inr rfl) (pe_op op_cat (pv 1) (pe_lst (pa_cons (pe_tup (pa_cons pe_str (pa_cons (pe_callB call_xis (by rfl) T.n_isinstance (by decide +kernel) (pa_cons (pv 0) (pa_cons (pe_globR (by rfl) T.g_CaseError) pa_nil))) pa_nil))) (pa_cons (pe_tup (pa_cons pe_str (pa_cons (pe_callB call_xis (by rfl) T.n_isinstance (by decide +kernel) (pa_cons (pv 0) (pa_cons (pe_bltn (v := .ty "RuntimeError") (by rfl) T.n_RuntimeError (by decide +kernel) rfl) pa_nil))) pa_nil))) pa_nil)))))
    (pss_one (ps_ret (pe_lc (own := [("_law_kind", 2), ("_law_holds", 3)]) (g := (gTup K 2 (gCons (gName 2) (gCons (gName 3) gNil)))) rfl sc_Lkinds.nd (pi_list (pv 1)) (blkOk_by (N := N_Lkinds) (sc := defScope s_Lkinds) (by decide +kernel)) (fun _ _ _ _ _ => (pg_tup (by rfl) (pgs_cons (pg_name (i := 2) sc_Lkinds.nd rfl (Or.inl rfl)) (pgs_cons (pg_name (i := 3) sc_Lkinds.nd rfl (Or.inl rfl)) pgs_nil)))) (fun _ _ _ _ _ => (pts_one (pt_val (pv 3)))) (fun _ _ _ _ _ => (pv 2)))))))))))))))), ?_⟩
    refine My.ps_asgN (fun z => [some v, some z, none, none]) eB (p_lst (q_cons (p_pair (c := .ref (cx 0)) T hi 0 (by decide) rfl hv (fun u r => r)) (q_cons (p_pair (c := .ref (cx 1)) T hi 1 (by decide) rfl hv (fun u r => r)) q_nil)) (by show 2 ≤ 100000; decide)) fun v0 B0 H0 g0 h0 => ?_
    have hv := (XK (cx i)).m g0.b hv
    refine My.ps_asgN (fun z => [some v, some z, none, none]) g0.c (p_cat (p_var rfl h0) (p_lst (q_cons (p_pair (c := .ref (cx 2)) T hi 2 (by decide) rfl hv (fun u r => r)) (q_cons (p_pair (c := .ref (cx 3)) T hi 3 (by decide) rfl hv (fun u r => r)) q_nil)) (by show 2 ≤ 100000; decide)) (by show 2 + 2 ≤ 100000; decide)) fun v1 B1 H1 k1 h1 => ?_
    have g1 := g0.trans k1
    have hv := (XK (cx i)).m k1.b hv
    refine My.ps_asgN (fun z => [some v, some z, none, none]) g1.c (p_cat (p_var rfl h1) (p_lst (q_cons (p_pair (c := .ref (cx 4)) T hi 4 (by decide) rfl hv (fun u r => r)) (q_cons (p_pair (c := .ref (cx 5)) T hi 5 (by decide) rfl hv (fun u r => r)) q_nil)) (by show 2 ≤ 100000; decide)) (by show 4 + 2 ≤ 100000; decide)) fun v2 B2 H2 k2 h2 => ?_
    have g2 := g1.trans k2
    have hv := (XK (cx i)).m k2.b hv
    refine My.ps_asgN (fun z => [some v, some z, none, none]) g2.c (p_cat (p_var rfl h2) (p_lst (q_cons (p_pair (c := .ref (cx 6)) T hi 6 (by decide) rfl hv (fun u r => r)) (q_cons (p_pair (c := .ref (cx 12)) T hi 7 (by decide) rfl hv (fun u r => r)) q_nil)) (by show 2 ≤ 100000; decide)) (by show 6 + 2 ≤ 100000; decide)) fun v3 B3 H3 k3 h3 => ?_
    have g3 := g2.trans k3
    have hv := (XK (cx i)).m k3.b hv
    refine My.ps_asgN (fun z => [some v, some z, none, none]) g3.c (p_cat (p_var rfl h3) (p_lst (q_cons (p_pair (c := .ref (cx 13)) T hi 8 (by decide) rfl hv (fun u r => r)) (q_cons (p_pair (c := .ref (cx 14)) T hi 9 (by decide) rfl hv (fun u r => r)) q_nil)) (by show 2 ≤ 100000; decide)) (by show 8 + 2 ≤ 100000; decide)) fun v4 B4 H4 k4 h4 => ?_
    have g4 := g3.trans k4
    have hv := (XK (cx i)).m k4.b hv
    refine My.ps_asgN (fun z => [some v, some z, none, none]) g4.c (p_cat (p_var rfl h4) (p_lst (q_cons (p_pair (c := .ref (cx 7)) T hi 10 (by decide) rfl hv (fun u r => r)) (q_cons (p_pair (c := .ref (cx 8)) T hi 11 (by decide) rfl hv (fun u r => r)) q_nil)) (by show 2 ≤ 100000; decide)) (by show 10 + 2 ≤ 100000; decide)) fun v5 B5 H5 k5 h5 => ?_
    have g5 := g4.trans k5
    have hv := (XK (cx i)).m k5.b hv
    refine My.ps_asgN (fun z => [some v, some z, none, none]) g5.c (p_cat (p_var rfl h5) (p_lst (q_cons (p_pair (c := .ref (cx 9)) T hi 12 (by decide) rfl hv (fun u r => r)) (q_cons (p_pair (c := .ref (cx 15)) T hi 13 (by decide) rfl hv (fun u r => r)) q_nil)) (by show 2 ≤ 100000; decide)) (by show 12 + 2 ≤ 100000; decide)) fun v6 B6 H6 k6 h6 => ?_
    have g6 := g5.trans k6
    have hv := (XK (cx i)).m k6.b hv
    refine My.ps_asgN (fun z => [some v, some z, none, none]) g6.c (p_cat (p_var rfl h6) (p_lst (q_cons (p_pair (c := .ref (cx 10)) T hi 14 (by decide) rfl hv (fun u r => r)) (q_cons (p_pair (c := .ref (cx 11)) T hi 15 (by decide) rfl hv (fun u r => r)) q_nil)) (by show 2 ≤ 100000; decide)) (by show 14 + 2 ≤ 100000; decide)) fun v7 B7 H7 k7 h7 => ?_
    have g7 := g6.trans k7
    have hv := (XK (cx i)).m k7.b hv
    refine My.ps_asgN (fun z => [some v, some z, none, none]) g7.c (p_cat (p_var rfl h7) (p_lst (q_cons (p_pair (c := .ref (cx 16)) T hi 16 (by decide) rfl hv (fun u r => r)) (q_cons (p_pair (c := .ty "ValueError") T hi 17 (by decide) rfl hv (fun u r => r)) q_nil)) (by show 2 ≤ 100000; decide)) (by show 16 + 2 ≤ 100000; decide)) fun v8 B8 H8 k8 h8 => ?_
    have g8 := g7.trans k8
    have hv := (XK (cx i)).m k8.b hv
    refine My.ps_asgN (fun z => [some v, some z, none, none]) g8.c (p_cat (p_var rfl h8) (p_lst (q_cons (p_pair (c := .ref (cx 17)) T hi 18 (by decide) rfl hv (fun u r => r)) (q_cons (p_pair (c := .ty "LookupError") T hi 19 (by decide) rfl hv (fun u r => r)) q_nil)) (by show 2 ≤ 100000; decide)) (by show 18 + 2 ≤ 100000; decide)) fun v9 B9 H9 k9 h9 => ?_
    have g9 := g8.trans k9
    have hv := (XK (cx i)).m k9.b hv
    refine My.ps_asgN (fun z => [some v, some z, none, none]) g9.c (p_cat (p_var rfl h9) (p_lst (q_cons (p_pair (c := .ref (cx 18)) T hi 20 (by decide) rfl hv (fun u r => r)) (q_cons (p_pair (c := .ty "RuntimeError") T hi 21 (by decide) rfl hv (fun u r => r)) q_nil)) (by show 2 ≤ 100000; decide)) (by show 20 + 2 ≤ 100000; decide)) fun v10 B10 H10 k10 h10 => ?_
    have g10 := g9.trans k10
    have hv := (XK (cx i)).m k10.b hv
    have hq : (LsP ((List.range 22).map (prPair K i))).P v10 B10 := h10
    refine My.ps_ret g10.c (p_lc (p_var rfl (lq_ls hq)) (by simp) (fun j => (kb i).getD j false) (fun j => IsV (.str (nmOf.getD j Str.empty))) ?_) fun u B' H' g h => ?_
    · rintro j p x B1 hj e1 hp
      have hj' : j < 22 := by
        have := (List.getElem?_eq_some_iff.mp hj).1
        simpa using this
      obtain rfl : p = prPair K i j := by
        rw [List.getElem?_map, List.getElem?_range hj'] at hj
        exact (Option.some.inj hj).symm
      obtain ⟨r, ys, rfl, hr, hys⟩ := hp
      match ys, hys with
      | [y, z], ⟨hy, hz, _⟩ =>
        obtain rfl : y = _ := hy
        obtain rfl : z = _ := hz
        refine ⟨_, ?_, fun H2 Q eH hQ => ⟨r, _, rfl, ex_t eH hr, rfl, _, _, rfl, _, _, rfl, rfl, hQ⟩, ?_, fun _ => p_ev (ev_var ?_)⟩
        · rfl
        · exact et_B (ev_var rfl)
        · rfl
    · refine q u B' H' (g10.trans g) ?_
      have e : (txts (kinds i)) = LsP (((List.range ((List.range 22).map (prPair K i)).length).filter fun j => (kb i).getD j false).map fun j => IsV (.str (nmOf.getD j Str.empty))) := by
        unfold txts kinds
        rw [List.map_map, List.length_map, List.length_range]
        rfl
      rw [e]
      exact h

theorem lowest_end {n : Int} {d : Nat} (hd : 0 < d) : fr (Rat.divInt n (d : Int)) = (n / (Nat.gcd d n.natAbs : Nat), (d : Int) / (Nat.gcd d n.natAbs : Nat)) := by
  have h := fr_lowest (n := n) (d := (d : Int)) (by omega)
  rw [h, Nat.gcd_comm]
  rfl

/-- _law_lowest -/
abbrev s_Llowest : Stmt := topS 47
abbrev N_Llowest : List Str := ["_law_top", "_law_bottom", "_law_one", "_law_other"]
theorem sc_Llowest : FnScope N_Llowest ["_law_top", "_law_bottom"] (defScope s_Llowest) := ⟨rfl, rfl, rfl, by decide +kernel, rfl, by decide +kernel, by decide +kernel⟩
theorem ok_Llowest {f : Addr} {fd : FuncData} (F : Fun K "_law_lowest" "_law_lowest" s_Llowest f fd)   (n_abs : mg "abs" = none)  :
    FnOk P w K mg base CX0 1 f fd ["_law_top", "_law_bottom"] (spP (Rlow2 K)) := by
  refine F.ok sc_Llowest (spP_len (by rintro _ _ ⟨_, _, _, _, rfl, rfl⟩; rfl)) (fun cdv A outer s H vs Q E hr h => ?_)
  obtain ⟨B, ps, p, eB, hv, ⟨n, d, hd, hs, rfl, rfl⟩, q⟩ := h
  obtain ⟨v0, v1, rfl, h0, h1⟩ := all2 hv
  have hu := hu_of hr
  refine ⟨_, (pss_cons (ps_asg (pe_ifExp (pt_cmpR op_lt (pv 1) pe_int (nomark _)) (pe_tup (pa_cons (pe_op op_sub pe_int (pv 0)) (pa_cons (pe_op op_sub pe_int (pv 1)) pa_nil))) (pe_tup (pa_cons (pv 0) (pa_cons (pv 1) pa_nil)))) (pg_tup (by rfl) (pgs_cons (pg_name (i := 0) sc_Llowest.nd rfl (by first | exact .inl rfl | exact .inr rfl)) (pgs_cons (pg_name (i := 1) sc_Llowest.nd rfl (by first | exact .inl rfl | exact .inr rfl)) pgs_nil))))
    (pss_cons (ps_par (i := 2) (j := 3) rfl sc_Llowest.nd rfl rfl (by decide) rfl rfl (pa_cons (pv 1) (pa_cons (pe_callB call_abs (by rfl) n_abs (by decide +kernel) (pa_cons (pv 0) pa_nil)) pa_nil)) (by rfl))
    (pss_cons (ps_while PassesOwn.never (pt_cmpR op_gt (pv 3) pe_int (nomark _))
      (pss_one (ps_par (i := 2) (j := 3) rfl sc_Llowest.nd rfl rfl (by decide) rfl rfl (pa_cons (pv 3) (pa_cons (pe_op op_mod (pv 2) (pv 3)) pa_nil)) (by rfl))))
    (pss_one (ps_ret (pe_tup (pa_cons (pe_op op_fdivW (pv 0) (pv 2)) (pa_cons (pe_op op_fdivW (pv 1) (pv 2)) pa_nil)))))))), ?_⟩
  obtain rfl : v0 = _ := h0
  obtain rfl : v1 = _ := h1
  -- a bottom above nought
  obtain ⟨n', d', hd', hs', e'⟩ : ∃ (n' : Int) (d' : Nat), 0 < d' ∧ d' < 2 ^ 4000 ∧ Rat.divInt n d = Rat.divInt n' (d' : Int) ∧ EvP (tIf (tTest (tOp (rI0 fun i j => .bl (decide (i < j))) (tVar 1) (tC (.int 0)))) (tTup (tCons (tOp (rI0 fun i j => .int (i - j)) (tC (.int 0)) (tVar 0)) (tCons (tOp (rI0 fun i j => .int (i - j)) (tC (.int 0)) (tVar 1)) tNil))) (tTup (tCons (tVar 0) (tCons (tVar 1) tNil)))) [some (.int n), some (.int d), none, none] B (TuP K [IsV (.int n'), IsV (.int (d' : Nat))]) := by
    have tst := et_test (σ := [some (.int n), some (.int d), none, none]) (H := B) (ev_op (r := rI0 fun i j => .bl (decide (i < j))) (ev_var (i := 1) rfl) (ev_c (v := .int 0)) rv_I0)
    by_cases c : d < 0
    · refine ⟨-n, (-d).toNat, by omega, by omega, ?_, ed_if tst (fun _ => p_tup (K := K) (q_cons (p_ev (ev_is (ev_op ev_c (ev_var rfl) rv_I0) (by congr 1; omega))) (q_cons (p_ev (ev_is (ev_op ev_c (ev_var rfl) rv_I0) (by congr 1; omega))) q_nil)) (by show 2 ≤ 100000; decide)) fun h => absurd c (of_decide_eq_false h)⟩
      rw [show ((-d).toNat : Int) = -d by omega, Rat.neg_divInt_neg]
    · refine ⟨n, d.toNat, by omega, by omega, ?_, ed_if tst (fun h => absurd (of_decide_eq_true h) c) fun _ => p_tup (K := K) (q_cons (p_varV rfl) (q_cons (p_ev (ev_is (ev_var rfl) (by congr 1; omega))) q_nil)) (by show 2 ≤ 100000; decide)⟩
      rw [show (d.toNat : Int) = d by omega]
  obtain ⟨e1, ev⟩ := e'
  refine ev H eB _ fun v B2 H2 g2 hv => ?_
  obtain ⟨a, y1, y2, rfl, hq, m1, m2⟩ := tup2 hv g2.c
  obtain rfl : y1 = _ := m1
  obtain rfl : y2 = _ := m2
  refine ⟨a, _, rfl, hq, rfl, _, _, rfl, _, _, rfl, rfl, ?_⟩
  dsimp only
  refine ⟨_, rfl, _, rfl, n', rfl, _, _, rfl, ?_⟩
  rw [int_abs]
  dsimp only
  refine ⟨fun m σ H3 => ∃ a b : Nat, m = b ∧ 0 < a ∧ σ = [some (.int n'), some (.int (d' : Nat)), some (.int (a : Nat)), some (.int (b : Nat))] ∧ Nat.gcd a b = Nat.gcd d' n'.natAbs ∧ Ex H2 H3, ⟨_, d', n'.natAbs, rfl, hd', rfl, rfl, Ex.refl H2⟩, fun m σ H3 hw => ?_⟩
  obtain ⟨a, b, rfl, ha, rfl, hg, e3⟩ := hw
  refine et_test (ev_op (r := rI0 fun i j => .bl (decide (j < i))) (ev_var (i := 3) (v := .int (m : Nat)) rfl) (ev_c (v := .int 0)) rv_I0) H3 (Ex.refl H3) _ fun H4 e4 => ?_
  by_cases c : m = 0
  · rw [if_neg (by simp [c])]
    have ea : a = Nat.gcd d' n'.natAbs := by
      rw [← hg, c, Nat.gcd_zero_right]
    have al : a < 2 ^ 4000 := by
      rw [ea]
      exact Nat.lt_of_le_of_lt (Nat.gcd_le_left _ hd') hs'
    have dv : 0 < (a : Int) ∧ ((a : Int)).natAbs.log2 < 9000 := ⟨by omega, by rw [Int.natAbs_natCast]; exact Nat.lt_of_le_of_lt (lg al) (by decide)⟩
    have g4 : Gr B H B2 H4 := g2.trans (Gr.wide g2.c (e3.trans e4))
    dsimp only
    refine My.ps_ret g4.c (p_tup (K := K) (ps := [IsV (.int (n' / (a : Int))), IsV (.int ((d' : Int) / (a : Int)))]) (q_cons (p_ev (ev_divW (ev_var rfl) (ev_var rfl) dv)) (q_cons (p_ev (ev_divW (ev_var rfl) (ev_var rfl) dv)) q_nil)) (by show 2 ≤ 100000; decide)) fun v B5 H5 g5 hp => q v B5 H5 (g4.trans g5) ?_
    show (frP K (fr (Rat.divInt n d))).P v B5
    rw [e1, lowest_end hd', ← ea]
    exact hp
  · rw [if_pos (by simp; omega)]
    refine ⟨fun σ H' => σ = [some (.int n'), some (.int (d' : Nat)), some (.int (m : Nat)), some (.int ((a % m : Nat) : Int))] ∧ Ex H2 H', fun σ H' h => ⟨a % m, Nat.mod_lt _ (by omega), m, a % m, rfl, by omega, h.1, by rw [← hg, Nat.gcd_comm a m]; exact (Nat.gcd_rec m a ▸ Nat.gcd_comm _ _), h.2⟩, ?_⟩
    refine ⟨_, rfl, _, rfl, _, rfl, ⟨(a : Int), (m : Int), rfl, rfl, by omega, _, _, rfl, ?_⟩⟩
    exact ⟨rfl, e3.trans e4⟩

end
theorem ev_isN0 {ta : TE} {σ : L2.St} {B : Hp} {v : V} (h : Ev ta σ B v) : Ev (tOp (fun x y H Q => y = V.non ∧ Q (.bl (decide (x = V.non))) H) ta (tC .non)) σ B (.bl (decide (v = V.non))) := fun H1 a Q k =>
  h H1 a _ fun H2 e2 => ⟨rfl, k H2 e2⟩
theorem told_either {R1 R2 : List Pr → Out → Prop} {E : L2.St → XK} {t : TA} {σ : L2.St} {B H : Hp} {ps : List Pr} {o : Out} {Q : VK} {wz : Int} (eB : Ex B H) (h0 : σ[0]? = some (some (.int wz))) (h : EvPs t σ B ps) (hr : (wz = 0 ∧ R1 ps o) ∨ (wz = 1 ∧ R2 ps o)) (q : OutOk o B H Q (E σ)) :
    tIf (tTest (tOp rEq (tVar 0) (tC (.int 0)))) (tCallS (spO R1) E t) (tCallS (spO R2) E t) σ H Q := et_test (ev_op (ev_var (i := 0) h0) (ev_c (v := .int 0)) (rv_eq rfl)) H eB _ fun H1 e1 => by
  rcases hr with ⟨rfl, hr⟩ | ⟨rfl, hr⟩
  · rw [if_pos (by simp)]
    exact o_call (eB.trans e1) h hr (OutOk.to (Gr.wide eB e1) q)
  · rw [if_neg (by simp)]
    exact o_call (eB.trans e1) h hr (OutOk.to (Gr.wide eB e1) q)
section
variable {P : Program} {w : World} {K : PySem.W.Frag} {mg : Str → Option Value} {base : Heap} {T : List (Addr × Str)}

/-- _law_told -/
abbrev s_Ltold : Stmt := topS 50
abbrev N_Ltold : List Str := ["_law_way", "_law_one", "_law_other", "_law_wrong", "_law_told_here", "e"]
theorem sc_Ltold : FnScope N_Ltold ["_law_way", "_law_one", "_law_other"] (defScope s_Ltold) := ⟨rfl, rfl, rfl, by decide +kernel, rfl, by decide +kernel, by decide +kernel⟩
theorem ok_Ltold {f : Addr} {fd : FuncData} (F : Fun K "_law_told" "_law_told" s_Ltold f fd) {cx : Nat → Addr} {f_fraction : Addr} {d_fraction : FuncData} (c_fraction : CalX P w K mg base "fraction" 3 ["top", "bottom"] (spO (RfrO K (cx 13))) f_fraction d_fraction) {f_quotient : Addr} {d_quotient : FuncData} (c_quotient : CalX P w K mg base "quotient" 4 ["one", "other"] (spO (RquO K (cx 13))) f_quotient d_quotient) {f_Lkinds : Addr} {d_Lkinds : FuncData} (c_Lkinds : Cal P w K mg base "_law_kinds" 1 ["_law_error"] (spKinds cx) f_Lkinds d_Lkinds)  (Tx : XT K mg cx) (hx : ∀ i, i < 16 → (kb i).getD 16 false = true → PySem.W.exmOne K (.ref (cx i)) (.ref (cx 16)) = some true) :
    FnOk P w K mg base CX0 5 f fd ["_law_way", "_law_one", "_law_other"] (spP (Rtl K (cx 13))) := by
  refine F.ok sc_Ltold (spP_len (by rintro _ _ ⟨_, _, _, _, _, rfl, rfl⟩; rfl)) (fun cdv A outer s H vs Q E hr h => ?_)
  obtain ⟨B, ps, p, eB, hv, ⟨wz, q1, q2, o, ho, rfl, rfl⟩, q⟩ := h
  obtain ⟨v0, v1, v2, rfl, h0, h1, h2⟩ := all3 hv
  obtain rfl : v0 = .int wz := h0
  have hu := hu_of hr
  refine ⟨_, (pss_cons (ps_asg (pe_tup (pa_cons pe_non (pa_cons pe_non pa_nil))) (pg_tup (by rfl) (pgs_cons (pg_name (i := 3) sc_Ltold.nd rfl (.inl rfl)) (pgs_cons (pg_name (i := 4) sc_Ltold.nd rfl (.inl rfl)) pgs_nil))))
    (pss_cons (ps_try_keep (i := 5) (j := 3) (c := .ref (cx 16)) (tb := fun W => tAsg (tIf (tTest (tOp rEq (tVar 0) (tC (.int 0)))) (tCallS (spO (RfrO K (cx 13))) (WE W) (tCons (tVar 1) (tCons (tVar 2) tNil))) (tCallS (spO (RquO K (cx 13))) (WE W) (tCons (tVar 1) (tCons (tVar 2) tNil)))) (gName 4)) (Wout := fun _ _ _ _ => False)
      rfl rfl rfl sc_Ltold.nd rfl rfl rfl rfl ⟨rfl, by decide, .inl Tx.g_ChainError⟩ L2.takes0 (fun σ h => List.getElem?_set_self (by rw [h]; show 5 < 6; decide)) (by decide) (by decide) (by rfl) (fun W pn xe tk _ => pss_one (ps_set (i := 4) sc_Ltold.nd rfl (.inl rfl) (pe_ifExp (pt_cmpR op_eq (pv 0) pe_int (nomark _)) (pe_callS c_fraction.G (hr.mono (by decide)) (by rfl) c_fraction.m c_fraction.k c_fraction.b (fun σ => passAt tk σ) (pa_cons (pv 1) (pa_cons (pv 2) pa_nil))) (pe_callS c_quotient.G (hr.mono (by decide)) (by rfl) c_quotient.m c_quotient.k c_quotient.b (fun σ => passAt tk σ) (pa_cons (pv 1) (pa_cons (pv 2) pa_nil)))))))
    (pss_one (ps_ret (pe_ifExp (pt_cmpR op_isN (pv 3) pe_non (nomark _)) (pv 4) (pe_call c_Lkinds.G (hr.mono (by decide)) (by rfl) c_Lkinds.m c_Lkinds.k c_Lkinds.b .nil pass0 (pa_cons (pv 3) pa_nil))))))), ?_⟩
  refine ps_un2 (K := K) (p := IsV .non) (q := IsV .non) eB (p_tup (q_cons (p_c (v := .non)) (q_cons (p_c (v := .non)) q_nil)) (by show 2 ≤ 100000; decide)) fun w3 w4 B1 H1 g1 e3 e4 => ?_
  obtain rfl : w3 = .non := e3
  obtain rfl : w4 = .non := e4
  have h11 := q1.m g1.b h1
  have h12 := q2.m g1.b h2
  dsimp only
  refine b_seq (b_asg (told_either (ps := [q1, q2]) (o := o) g1.c rfl (q_cons (p_var (i := 1) rfl h11) (q_cons (p_var (i := 2) rfl h12) q_nil)) ho ?_))
  cases o with
  | ret p =>
    intro v B2 H2 g2 hp
    dsimp only [gName, List.set_cons_succ, List.set_cons_zero]
    exact My.ps_ret g2.c (ed_if (et_test (ev_isN0 (ev_var (i := 3) rfl))) (fun _ => p_var (p := p) (i := 4) rfl hp) (fun h => by cases h)) fun v B4 H4 g hp => q v B4 H4 (g1.trans (g2.trans g)) hp
  | exc C fs =>
    obtain ⟨rfl, rfl⟩ : C = cx 13 ∧ fs = [] := by
      rcases ho with ⟨_, ⟨_, _, _, _, _, e⟩ | ⟨_, _, _, _, _, _, _, _, _, _, e⟩ | ⟨_, _, e⟩⟩ | ⟨_, _, _, _, _, _, _, ⟨_, e⟩ | ⟨_, e⟩⟩
      · cases e
      · cases e; exact ⟨rfl, rfl⟩
      · cases e; exact ⟨rfl, rfl⟩
      · cases e
      · cases e; exact ⟨rfl, rfl⟩
    intro d B2 H2 g2 hd
    refine ⟨true, hx 13 (by decide) (by decide), fun _ => ⟨cx 13, rfl, fun hl a na => ?_⟩, fun z => nomatch z⟩
    obtain ⟨B5, g5, h5⟩ := exc_grow (C := cx 13) g2.c na hd
    dsimp only
    refine My.ps_ret g5.c (ed_if (et_test (ev_isN0 (ev_var (i := 3) rfl))) (fun h => by cases h) (fun _ => p_call (p := txts (kinds 13)) (q_cons (p_var (i := 3) (p := XK (cx 13)) rfl (exc_k h5)) q_nil) fun vs B7 H7 Q7 E7 e7 al k7 => ?_)) fun v B4 H4 g hp => q v B4 H4 (g1.trans (g2.trans (g5.trans g))) hp
    obtain ⟨v7, rfl, hv7⟩ := all1 al
    exact ⟨13, v7, B7, by decide, rfl, e7, hv7, k7⟩

end
end K12
namespace Nd
set_option autoImplicit false
open PySem PySem.Spec PySem.W PySem.Calls PyProof.Rows L2 My Evl LamX NdefX
/-- the law's fractions -/
structure Fb (r : Rat) : Prop where
  t : r.num.natAbs < 10 ^ 60
  b : r.den < 10 ^ 60
def Rrr (K : PySem.W.Frag) : List Pr → Pr → Prop := fun ps p => ∃ r s : Rat, Fb r ∧ Fb s ∧ ps = [rtP K r, rtP K s] ∧ p = IsV (.bl true)
def spFr (K : PySem.W.Frag) (T : List (Addr × Str)) : Sp := fun vs H Q _ => ∃ (B : Hp) (d : Addr) (n : Nat), vs = [.ref d] ∧ K12.Kx T d n B H ∧ n ≤ 2 ^ 37 ∧ ∀ (r : Rat) (v : V) (B' H' : Hp), Fb r → K12.Kx T d (n + 16) B' H' → K12.GX d B H B' H' → (rtP K r).P v B' → Q v H'
end Nd
namespace K12
set_option autoImplicit false
open PySem PySem.W L2 Evl My Nd LamX NdefX
open scoped Rat
theorem lgI {i : Int} (h : i.natAbs < 10 ^ 60) : i.natAbs.log2 ≤ 200 := by
  have := lg (n := i.natAbs) (k := 200) (Nat.lt_trans h (by decide))
  exact this
theorem fb_sm {r : Rat} (h : Fb r) : Sm r := ⟨Nat.lt_trans h.t (by decide), by show ((r.den : Int)).natAbs < _; rw [Int.natAbs_natCast]; exact Nat.lt_trans h.b (by decide)⟩
theorem sum_due (r s : Rat) : Rat.divInt (r.num * s.den + s.num * r.den) (r.den * s.den) = r + s := by
  have hr : (r.den : Int) ≠ 0 := by have := r.den_pos; omega
  have hs : (s.den : Int) ≠ 0 := by have := s.den_pos; omega
  rw [← Rat.divInt_add_divInt _ _ hr hs, Rat.num_divInt_den, Rat.num_divInt_den]
theorem dif_due (r s : Rat) : Rat.divInt (r.num * s.den - s.num * r.den) (r.den * s.den) = r + -s := by
  rw [← sum_due r (-s)]
  show _ = Rat.divInt (r.num * s.den + (-s.num) * r.den) (r.den * s.den)
  rw [Int.neg_mul, Int.sub_eq_add_neg]
theorem pro_due (r s : Rat) : Rat.divInt (r.num * s.num) (r.den * s.den) = r * s := by
  rw [← Rat.divInt_mul_divInt, Rat.num_divInt_den, Rat.num_divInt_den]
theorem fb_div {n d : Int} (hd : 0 < d) (hn : n.natAbs < 10 ^ 60) (hb : d.natAbs < 10 ^ 60) : Fb (Rat.divInt n d) := by
  have h := fr_lowest (n := n) hd
  have h1 : (Rat.divInt n d).num = n / (Int.gcd n d : Int) := congrArg Prod.fst h
  have h2 : ((Rat.divInt n d).den : Int) = d / (Int.gcd n d : Int) := congrArg Prod.snd h
  refine ⟨?_, ?_⟩
  · rw [h1]
    exact Nat.lt_of_le_of_lt (div_na _ _) hn
  · have := Nat.lt_of_le_of_lt (div_na d (Int.gcd n d : Int)) hb
    rw [← h2, Int.natAbs_natCast] at this
    exact this
section
variable {te tf : TE} {σ : L2.St} {B : Hp}
theorem ev_fs {i j : Int} (h : Ev te σ B (.int i)) (k : Ev tf σ B (.int j)) (hi : i.natAbs < 10 ^ 60) (hj : j.natAbs < 10 ^ 60) : Ev (fun σ H Q => tJs [tFmt te, tC (.str "/"), tFmt tf] Str.empty σ H fun out H1 => Q (.str out) H1) σ B (.str (Str.ofString (toString i) ++ "/" ++ Str.ofString (toString j))) := fun H1 a Q q => by
  have l1 := txt_len (i := i) (k := 60) hi (by decide)
  have l2 := txt_len (i := j) (k := 60) hj (by decide)
  have sl : 200 ≤ sizeLine := by decide
  have s1 : (Str.ofString "/").length = 1 := by decide +kernel
  refine h H1 a _ fun H2 e2 => .inr ⟨_, rfl, log60 hi, _, rfl, by rw [emp_cat]; omega, ?_⟩
  rw [emp_cat]
  refine ⟨_, rfl, by rw [len_cat]; omega, k H2 (a.trans e2) _ fun H3 e3 => .inr ⟨_, rfl, log60 hj, _, rfl, by rw [len_cat, len_cat]; omega, ?_⟩⟩
  exact q H3 (e2.trans e3)
theorem b_ifOp {R : R2} {ta tb : TE} {t u : TS} {D : Ends} {H : Hp} (h : ta σ H fun v H1 => tb σ H1 fun w H2 => R v w H2 fun z H3 => ∃ b, z = V.bl b ∧ (if b = true then t D σ H3 else u D σ H3)) : tIfS (tTest (tOp R ta tb)) t u D σ H := h
theorem c_call {sp : Sp} {t : TA} {H : Hp} {Q : VK} (h : t σ H fun vs H1 => sp (vs ++ []) H1 Q E0) : tCall sp [] E0 t σ H Q := h
theorem b_c {v : V} {H : Hp} {Q : VK} (h : Q v H) : tC v σ H Q := h
theorem b_nil {H : Hp} {Q : List V → Hp → Prop} (h : Q [] H) : tNil σ H Q := h
end
section
variable {P : Program} {w : World} {K : PySem.W.Frag} {mg : Str → Option Value} {base : Heap} {T : List (Addr × Str)}

/-- _law_reckoned_right -/
abbrev s_Lreckoned_right : Stmt := topS 51
abbrev N_Lreckoned_right : List Str := ["_law_one", "_law_other", "_law_a", "_law_b", "_law_c", "_law_d", "_law_due"]
theorem sc_Lreckoned_right : FnScope N_Lreckoned_right ["_law_one", "_law_other"] (defScope s_Lreckoned_right) := ⟨rfl, rfl, rfl, by decide +kernel, rfl, by decide +kernel, by decide +kernel⟩
theorem ok_Lreckoned_right {f : Addr} {fd : FuncData} (F : Fun K "_law_reckoned_right" "_law_reckoned_right" s_Lreckoned_right f fd) {cx : Nat → Addr} {f_Llowest : Addr} {d_Llowest : FuncData} (c_Llowest : Cal P w K mg base "_law_lowest" 1 ["_law_top", "_law_bottom"] (spP (Rlow2 K)) f_Llowest d_Llowest) {f_sum_of : Addr} {d_sum_of : FuncData} (c_sum_of : Cal P w K mg base "sum_of" 1 ["one", "other"] (spP (Rsum K)) f_sum_of d_sum_of) {f_difference : Addr} {d_difference : FuncData} (c_difference : Cal P w K mg base "difference" 2 ["one", "other"] (spP (Rdif K)) f_difference d_difference) {f_product : Addr} {d_product : FuncData} (c_product : Cal P w K mg base "product" 1 ["one", "other"] (spP (Rprod K)) f_product d_product) {f_Ltold : Addr} {d_Ltold : FuncData} (c_Ltold : Cal P w K mg base "_law_told" 5 ["_law_way", "_law_one", "_law_other"] (spP (Rtl K (cx 13))) f_Ltold d_Ltold) {f_number_text : Addr} {d_number_text : FuncData} (c_number_text : Cal P w K mg base "number_text" 2 ["one"] (spP (Rnt K)) f_number_text d_number_text) (n_str : mg "str" = none)  :
    FnOk P w K mg base CX0 6 f fd ["_law_one", "_law_other"] (spP (Rrr K)) := by
  refine F.ok sc_Lreckoned_right (spP_len (by rintro _ _ ⟨_, _, _, _, rfl, rfl⟩; rfl)) (fun cdv A outer s0 H vs Q E hr h => ?_)
  obtain ⟨B, ps, p, eB, hv, ⟨r, s, hr1, hs1, rfl, rfl⟩, q⟩ := h
  obtain ⟨v0, v1, rfl, h0, h1⟩ := all2 hv
  have hu := hu_of hr
  refine ⟨_, (pss_cons (ps_asg (pe_tup (pa_cons (pv 0) (pa_cons (pv 1) pa_nil))) (pg_tup (by rfl) (pgs_cons (pg_tup (by rfl) (pgs_cons (pg_name (i := 2) sc_Lreckoned_right.nd rfl (by first | exact .inl rfl | exact .inr rfl)) (pgs_cons (pg_name (i := 3) sc_Lreckoned_right.nd rfl (by first | exact .inl rfl | exact .inr rfl)) pgs_nil))) (pgs_cons (pg_tup (by rfl) (pgs_cons (pg_name (i := 4) sc_Lreckoned_right.nd rfl (by first | exact .inl rfl | exact .inr rfl)) (pgs_cons (pg_name (i := 5) sc_Lreckoned_right.nd rfl (by first | exact .inl rfl | exact .inr rfl)) pgs_nil))) pgs_nil))))
    (pss_cons (ps_set (i := 6) sc_Lreckoned_right.nd rfl (by first | exact .inl rfl | exact .inr rfl) (pe_lst (pa_cons (pe_call c_Llowest.G (hr.mono (by decide)) (by rfl) c_Llowest.m c_Llowest.k c_Llowest.b .nil pass0 (pa_cons (pe_op op_add (pe_op op_mulW (pv 2) (pv 5)) (pe_op op_mulW (pv 4) (pv 3))) (pa_cons (pe_op op_mulW (pv 3) (pv 5)) pa_nil))) (pa_cons (pe_call c_Llowest.G (hr.mono (by decide)) (by rfl) c_Llowest.m c_Llowest.k c_Llowest.b .nil pass0 (pa_cons (pe_op op_sub (pe_op op_mulW (pv 2) (pv 5)) (pe_op op_mulW (pv 4) (pv 3))) (pa_cons (pe_op op_mulW (pv 3) (pv 5)) pa_nil))) (pa_cons (pe_call c_Llowest.G (hr.mono (by decide)) (by rfl) c_Llowest.m c_Llowest.k c_Llowest.b .nil pass0 (pa_cons (pe_op op_mulW (pv 2) (pv 4)) (pa_cons (pe_op op_mulW (pv 3) (pv 5)) pa_nil))) pa_nil)))))
    (pss_cons (ps_if (pt_cmpR (op_neD hr.units) (pe_lst (pa_cons (pe_call c_sum_of.G (hr.mono (by decide)) (by rfl) c_sum_of.m c_sum_of.k c_sum_of.b .nil pass0 (pa_cons (pv 0) (pa_cons (pv 1) pa_nil))) (pa_cons (pe_call c_difference.G (hr.mono (by decide)) (by rfl) c_difference.m c_difference.k c_difference.b .nil pass0 (pa_cons (pv 0) (pa_cons (pv 1) pa_nil))) (pa_cons (pe_call c_product.G (hr.mono (by decide)) (by rfl) c_product.m c_product.k c_product.b .nil pass0 (pa_cons (pv 0) (pa_cons (pv 1) pa_nil))) pa_nil)))) (pv 6) (nomark _)) (pss_one (ps_ret pe_bl)) pss_nil)
    (pss_cons (ps_if (pt_cmpR (op_neD hr.units) (pe_call c_Ltold.G (hr.mono (by decide)) (by rfl) c_Ltold.m c_Ltold.k c_Ltold.b .nil pass0 (pa_cons pe_int (pa_cons (pv 0) (pa_cons (pv 1) pa_nil)))) (pe_ifExp (pt_cmpR op_eq (pv 4) pe_int (nomark _)) (pe_lst (pa_cons pe_str (pa_cons pe_str (pa_cons pe_str pa_nil)))) (pe_call c_Llowest.G (hr.mono (by decide)) (by rfl) c_Llowest.m c_Llowest.k c_Llowest.b .nil pass0 (pa_cons (pe_op op_mulW (pv 2) (pv 5)) (pa_cons (pe_op op_mulW (pv 3) (pv 4)) pa_nil)))) (nomark _)) (pss_one (ps_ret pe_bl)) pss_nil)
    (pss_one (ps_ret (pe_cmpR op_eq (pe_call c_number_text.G (hr.mono (by decide)) (by rfl) c_number_text.m c_number_text.k c_number_text.b .nil pass0 (pa_cons (pv 0) pa_nil)) (pe_ifExp (pt_cmpR op_eq (pv 3) pe_int (nomark _)) (pe_callTy call_str_int (by rfl) n_str (by decide +kernel) (pa_cons (pv 2) pa_nil)) (pe_joined (.cons (pe_fmt (pv 2)) (.cons pe_str (.cons (pe_fmt (pv 3)) .nil))))) (nomark _)))))))), ?_⟩
  refine b_seq (b_asg ((p_tup (K := K) (ps := [rtP K r, rtP K s]) (q_cons (p_var (i := 0) (σ := [some v0, some v1, none, none, none, none, none]) rfl h0) (q_cons (p_var (i := 1) rfl h1) q_nil)) (by show 2 ≤ 100000; decide)) H eB _ fun v B1 H1 g1 hv => ?_))
  obtain ⟨p0, y0, y1, rfl, hq, m0, m1⟩ := tup2 hv g1.c
  obtain ⟨a0, x0, x1, rfl, hq0, n0, n1⟩ := tup2 m0 g1.c
  obtain ⟨a1, x2, x3, rfl, hq1, n2, n3⟩ := tup2 m1 g1.c
  obtain rfl : x0 = .int r.num := n0
  obtain rfl : x1 = .int r.den := n1
  obtain rfl : x2 = .int s.num := n2
  obtain rfl : x3 = .int s.den := n3
  refine ⟨p0, _, rfl, hq, rfl, _, _, rfl, a0, _, rfl, hq0, rfl, _, _, rfl, _, _, rfl, rfl, _, _, rfl, a1, _, rfl, hq1, rfl, _, _, rfl, _, _, rfl, rfl, rfl, ?_⟩
  have h10 := (rtP K r).m g1.b h0
  have h11 := (rtP K s).m g1.b h1
  clear hv m0 m1
  dsimp only [gName, List.set_cons_succ, List.set_cons_zero]
  have rd : ((r.den : Nat) : Int).natAbs < 10 ^ 60 := by rw [Int.natAbs_natCast]; exact hr1.b
  have sd : ((s.den : Nat) : Int).natAbs < 10 ^ 60 := by rw [Int.natAbs_natCast]; exact hs1.b
  have dn : ((r.den : Nat) : Int) * s.den ≠ 0 := Int.mul_ne_zero (by have := r.den_pos; omega) (by have := s.den_pos; omega)
  have ml : ∀ {a b : Nat}, a < 10 ^ 60 → b < 10 ^ 60 → a * b < 2 ^ 4000 := fun {a b} ha hb => Nat.lt_of_le_of_lt (Nat.mul_le_mul (Nat.le_of_lt ha) (Nat.le_of_lt hb)) (by decide)
  have dl : (((r.den : Nat) : Int) * s.den).natAbs < 2 ^ 4000 := by rw [Int.natAbs_mul]; exact ml rd sd
  have low : ∀ {σ : L2.St} {B : Hp} {n d : Int} {te td : TE}, Ev te σ B (.int n) → Ev td σ B (.int d) → d ≠ 0 → d.natAbs < 2 ^ 4000 → EvP (tCall (spP (Rlow2 K)) [] E0 (tCons te (tCons td tNil))) σ B (rtP K (Rat.divInt n d)) := fun h k c l => p_callP (R := Rlow2 K) (ps := [IsV (.int _), IsV (.int _)]) (q_cons (p_ev h) (q_cons (p_ev k) q_nil)) ⟨_, _, c, l, rfl, rfl⟩
  have mul : ∀ {σ : L2.St} {B : Hp} {i j : Int} {te td : TE}, Ev te σ B (.int i) → Ev td σ B (.int j) → i.natAbs < 10 ^ 60 → j.natAbs < 10 ^ 60 → Ev (tOp (rI CMulW fun i j => .int (i * j)) te td) σ B (.int (i * j)) := fun h k a b => ev_mulW (k := 200) h k (lgI a) (lgI b)
  have V2 : Ev (tVar 2) [some v0, some v1, some (.int r.num), some (.int r.den), some (.int s.num), some (.int s.den), none] B1 (.int r.num) := ev_var rfl
  have V3 : Ev (tVar 3) [some v0, some v1, some (.int r.num), some (.int r.den), some (.int s.num), some (.int s.den), none] B1 (.int r.den) := ev_var rfl
  have V4 : Ev (tVar 4) [some v0, some v1, some (.int r.num), some (.int r.den), some (.int s.num), some (.int s.den), none] B1 (.int s.num) := ev_var rfl
  have V5 : Ev (tVar 5) [some v0, some v1, some (.int r.num), some (.int r.den), some (.int s.num), some (.int s.den), none] B1 (.int s.den) := ev_var rfl
  have L1 := low (ev_addI (mul V2 V5 hr1.t sd) (mul V4 V3 hs1.t rd)) (mul V3 V5 rd sd) dn dl
  rw [sum_due] at L1
  have L2' := low (ev_op (r := rI0 fun i j => .int (i - j)) (mul V2 V5 hr1.t sd) (mul V4 V3 hs1.t rd) rv_I0) (mul V3 V5 rd sd) dn dl
  rw [dif_due] at L2'
  have L3 := low (mul V2 V4 hr1.t hs1.t) (mul V3 V5 rd sd) dn dl
  rw [pro_due] at L3
  have tf : ∀ f : Fr, To K (frP K f) (frD f) := fun f => to_tup (.cons to_int (.cons to_int .nil))
  refine ps_asgN (fun x => [some v0, some v1, some (.int r.num), some (.int r.den), some (.int s.num), some (.int s.den), some x]) g1.c (p_lst (ps := [rtP K (r + s), rtP K (r + -s), rtP K (r * s)]) (q_cons L1 (q_cons L2' (q_cons L3 q_nil))) (by show 3 ≤ 100000; decide)) (fun x B2 H2 g2 hx => ?_) (fun _ => rfl)
  have h20 := (rtP K r).m g2.b h10
  have h21 := (rtP K s).m g2.b h11
  clear L1 L2' L3 V2 V3 V4 V5
  dsimp only
  have args : EvPs (tCons (tVar 0) (tCons (tVar 1) tNil)) [some v0, some v1, some (.int r.num), some (.int r.den), some (.int s.num), some (.int s.den), some x] B2 [rtP K r, rtP K s] := q_cons (p_var (i := 0) rfl h20) (q_cons (p_var (i := 1) rfl h21) q_nil)
  have tL : To K (LsP [rtP K (r + s), rtP K (r + -s), rtP K (r * s)]) (.list [frD (fr (r + s)), frD (fr (r + -s)), frD (fr (r * s))]) := to_lst (.cons (tf _) (.cons (tf _) (.cons (tf _) .nil)))
  refine ps_ifN g2.c (et_ne (K := K) (d := .list [frD (fr (r + s)), frD (fr (r + -s)), frD (fr (r * s))]) (p_to (p_lst (ps := [rtP K (r + s), rtP K (r + -s), rtP K (r * s)]) (q_cons (p_callP (R := Rsum K) args ⟨r, s, (fb_sm hr1), (fb_sm hs1), rfl, rfl⟩) (q_cons (p_callP (R := Rdif K) args ⟨r, s, (fb_sm hr1), (fb_sm hs1), rfl, rfl⟩) (q_cons (p_callP (R := Rprod K) args ⟨r, s, (fb_sm hr1), (fb_sm hs1), rfl, rfl⟩) q_nil))) (by show 3 ≤ 100000; decide)) tL) (p_to (p_var (i := 6) rfl hx) tL) (by unfold SeqAt.shaped; simp [frD, PyData.canLay0, PyData.canLayAll0, PyData.depth, PyData.depthAll])) fun H3 e3 => ?_
  have e23 := g2.c.trans e3
  dsimp only
  have V2 : Ev (tVar 2) [some v0, some v1, some (.int r.num), some (.int r.den), some (.int s.num), some (.int s.den), some x] B2 (.int r.num) := ev_var rfl
  have V3 : Ev (tVar 3) [some v0, some v1, some (.int r.num), some (.int r.den), some (.int s.num), some (.int s.den), some x] B2 (.int r.den) := ev_var rfl
  have V4 : Ev (tVar 4) [some v0, some v1, some (.int r.num), some (.int r.den), some (.int s.num), some (.int s.den), some x] B2 (.int s.num) := ev_var rfl
  have V5 : Ev (tVar 5) [some v0, some v1, some (.int r.num), some (.int r.den), some (.int s.num), some (.int s.den), some x] B2 (.int s.den) := ev_var rfl
  have k13 : kinds 13 = [("place" : Str), "ours", "value"] := by decide +kernel
  have t13 : To K (txts (kinds 13)) (.list [.str "place", .str "ours", .str "value"]) := by
    unfold txts
    rw [k13]
    exact to_lst (.cons to_str (.cons to_str (.cons to_str .nil)))
  have tc : EvT (tTest (tOp rEq (tVar 4) (tC (.int 0)))) [some v0, some v1, some (.int r.num), some (.int r.den), some (.int s.num), some (.int s.den), some x] B2 (decide (V.int s.num = V.int 0)) := et_test (ev_op V4 ev_c (rv_eq rfl))
  have told : ∀ {o : Out}, RquO K (cx 13) [rtP K r, rtP K s] o → EvP (tCall (spP (Rtl K (cx 13))) [] E0 (tCons (tC (.int 1)) (tCons (tVar 0) (tCons (tVar 1) tNil)))) [some v0, some v1, some (.int r.num), some (.int r.den), some (.int s.num), some (.int s.den), some x] B2 (outP o) := fun h => p_callP (R := Rtl K (cx 13)) (ps := [IsV (.int 1), rtP K r, rtP K s]) (q_cons p_c args) ⟨1, _, _, _, .inr ⟨rfl, h⟩, rfl, rfl⟩
  have bq : (r.den : Int).natAbs * s.num.natAbs < 2 ^ 4000 := ml rd hs1.t
  have second : ∃ d : PyData, SeqAt.shaped d = true ∧ EvP (tCall (spP (Rtl K (cx 13))) [] E0 (tCons (tC (.int 1)) (tCons (tVar 0) (tCons (tVar 1) tNil)))) [some v0, some v1, some (.int r.num), some (.int r.den), some (.int s.num), some (.int s.den), some x] B2 (IsD K d) ∧ EvP (tIf (tTest (tOp rEq (tVar 4) (tC (.int 0)))) (tLst (tCons (tC (.str "place")) (tCons (tC (.str "ours")) (tCons (tC (.str "value")) tNil)))) (tCall (spP (Rlow2 K)) [] E0 (tCons (tOp (rI CMulW fun i j => .int (i * j)) (tVar 2) (tVar 5)) (tCons (tOp (rI CMulW fun i j => .int (i * j)) (tVar 3) (tVar 4)) tNil)))) [some v0, some v1, some (.int r.num), some (.int r.den), some (.int s.num), some (.int s.den), some x] B2 (IsD K d) := by
    by_cases c : s = 0
    · refine ⟨.list [.str "place", .str "ours", .str "value"], by decide +kernel, p_to (told ⟨r, s, (fb_sm hr1), (fb_sm hs1), bq, rfl, .inr ⟨c, rfl⟩⟩) t13, ed_if tc (fun _ => p_to (p_lst (ps := [IsV (.str "place"), IsV (.str "ours"), IsV (.str "value")]) (q_cons p_c (q_cons p_c (q_cons p_c q_nil))) (by show 3 ≤ 100000; decide)) (to_lst (.cons to_str (.cons to_str (.cons to_str .nil))))) fun h => absurd (by rw [c]; rfl) (of_decide_eq_false h)⟩
    · have cn : s.num ≠ 0 := fun e => c (Rat.num_eq_zero.mp e)
      refine ⟨frD (fr (Rat.divInt (r.num * s.den) (r.den * s.num))), by unfold SeqAt.shaped; simp [frD, PyData.canLay0, PyData.canLayAll0, PyData.depth, PyData.depthAll], p_to (told ⟨r, s, (fb_sm hr1), (fb_sm hs1), bq, rfl, .inl ⟨c, rfl⟩⟩) (tf _), ed_if tc (fun h => absurd (by have := of_decide_eq_true h; injection this) cn) fun _ => p_to (low (mul V2 V5 hr1.t sd) (mul V3 V4 rd hs1.t) (Int.mul_ne_zero (by have := r.den_pos; omega) cn) (by rw [Int.natAbs_mul]; exact bq)) (tf _)⟩
  obtain ⟨dd, sh, e1, e2⟩ := second
  refine ps_ifN e23 (et_ne (K := K) e1 e2 sh) fun H4 e4 => ?_
  dsimp only
  have t3 : EvT (tTest (tOp rEq (tVar 3) (tC (.int 1)))) [some v0, some v1, some (.int r.num), some (.int r.den), some (.int s.num), some (.int s.den), some x] B2 (decide (V.int r.den = V.int 1)) := et_test (ev_op V3 ev_c (rv_eq rfl))
  have lft := ev_p (p_callP (R := Rnt K) (p := IsV (.str (if r.den = 1 then toString r.num else toString r.num ++ "/" ++ toString (r.den : Int)))) (ps := [rtP K r]) (q_cons (p_var (i := 0) (σ := [some v0, some v1, some (.int r.num), some (.int r.den), some (.int s.num), some (.int s.den), some x]) rfl h20) q_nil) ⟨r, hr1.t, hr1.b, rfl, rfl⟩)
  have rgt := ev_p (ed_if (p := IsV (.str (if r.den = 1 then toString r.num else toString r.num ++ "/" ++ toString (r.den : Int)))) t3 (fun h => by
    have : r.den = 1 := by have := of_decide_eq_true h; injection this with this; omega
    rw [if_pos this]
    exact p_ev (ev_strI V2 (log60 hr1.t))) (fun h => by
    have : r.den ≠ 1 := fun e => of_decide_eq_false h (by rw [e]; rfl)
    rw [if_neg this]
    exact p_ev (ev_fs V2 V3 hr1.t rd)))
  refine My.ps_ret (e23.trans e4) (p_ev (ev_is (ev_op lft rgt (rv_eq rfl)) (by simp))) fun v B5 H5 g5 hp => q v B5 H5 (g1.trans (g2.trans ((Gr.wide g2.c (e3.trans e4)).trans g5))) hp

/-- _law_fraction -/
abbrev s_Lfraction : Stmt := topS 52
abbrev N_Lfraction : List Str := ["_law_state"]
theorem sc_Lfraction : FnScope N_Lfraction ["_law_state"] (defScope s_Lfraction) := ⟨rfl, rfl, rfl, by decide +kernel, rfl, by decide +kernel, by decide +kernel⟩
theorem ok_Lfraction {f : Addr} {fd : FuncData} (F : Fun K "_law_fraction" "_law_fraction" s_Lfraction f fd)  {f_Ldigit : Addr} {d_Ldigit : FuncData} (c_Ldigit : Cal P w K mg base "_law_digit" 2 ["_law_state", "_law_many"] spDigitW f_Ldigit d_Ldigit) {f_Llowest : Addr} {d_Llowest : FuncData} (c_Llowest : Cal P w K mg base "_law_lowest" 1 ["_law_top", "_law_bottom"] (spP (Rlow2 K)) f_Llowest d_Llowest)   :
    FnOk P w K mg base CX0 3 f fd ["_law_state"] (spFr K T) := by
  refine F.ok sc_Lfraction (fun vs H Q E h => by obtain ⟨_, _, _, rfl, _⟩ := h; rfl) (fun cdv A outer s H vs Q E hr h => ?_)
  obtain ⟨B, d, n, rfl, k, hn, q⟩ := h
  have hu := hu_of hr
  refine ⟨_, (pss_cons (ps_if (pt_cmpR op_eq (pe_call c_Ldigit.G (hr.mono (by decide)) (by rfl) c_Ldigit.m c_Ldigit.k c_Ldigit.b .nil pass0 (pa_cons (pv 0) (pa_cons pe_int pa_nil))) pe_int (nomark _)) (pss_one (ps_ret (pe_call c_Llowest.G (hr.mono (by decide)) (by rfl) c_Llowest.m c_Llowest.k c_Llowest.b .nil pass0 (pa_cons (pe_op op_sub (pe_call c_Ldigit.G (hr.mono (by decide)) (by rfl) c_Ldigit.m c_Ldigit.k c_Ldigit.b .nil pass0 (pa_cons (pv 0) (pa_cons (pe_op op_pow pe_int pe_int) pa_nil))) (pe_op op_mulW pe_int (pe_op op_pow pe_int pe_int))) (pa_cons (pe_op op_add pe_int (pe_call c_Ldigit.G (hr.mono (by decide)) (by rfl) c_Ldigit.m c_Ldigit.k c_Ldigit.b .nil pass0 (pa_cons (pv 0) (pa_cons (pe_op op_pow pe_int pe_int) pa_nil)))) pa_nil))))) pss_nil)
    (pss_one (ps_ret (pe_call c_Llowest.G (hr.mono (by decide)) (by rfl) c_Llowest.m c_Llowest.k c_Llowest.b .nil pass0 (pa_cons (pe_op op_sub (pe_call c_Ldigit.G (hr.mono (by decide)) (by rfl) c_Ldigit.m c_Ldigit.k c_Ldigit.b .nil pass0 (pa_cons (pv 0) (pa_cons pe_int pa_nil))) pe_int) (pa_cons (pe_op op_add pe_int (pe_call c_Ldigit.G (hr.mono (by decide)) (by rfl) c_Ldigit.m c_Ldigit.k c_Ldigit.b .nil pass0 (pa_cons (pv 0) (pa_cons (pe_ix ix_list (pe_lst (pa_cons pe_int (pa_cons pe_int pa_nil))) (pe_call c_Ldigit.G (hr.mono (by decide)) (by rfl) c_Ldigit.m c_Ldigit.k c_Ldigit.b .nil pass0 (pa_cons (pv 0) (pa_cons pe_int pa_nil))) (fun _ _ => rfl)) pa_nil)))) pa_nil)))))), ?_⟩
  have p30 : (10 : Int) ^ 30 = 1000000000000000000000000000000 := by decide
  have p29 : (5 : Int) * 10 ^ 29 = 500000000000000000000000000000 := by decide
  have p20 : (10 : Int) ^ 20 = 100000000000000000000 := by decide
  have fin : ∀ {n2 d2 : Int} {B1 H1 : Hp} {m : Nat}, 0 < d2 → n2.natAbs < 10 ^ 60 → d2.natAbs < 10 ^ 60 → Kx T d m B1 H1 → m ≤ n + 16 → GX d B H B1 H1 → spP (Rlow2 K) [.int n2, .int d2] H1 Q E0 := fun {n2 d2 B1 H1 m} h1 h2 h3 k1 h4 g1 =>
    ⟨B1, [IsV (.int n2), IsV (.int d2)], rtP K (Rat.divInt n2 d2), k1.e, ⟨rfl, rfl, trivial⟩, ⟨n2, d2, by omega, Nat.lt_trans h3 (by decide), rfl, rfl⟩, fun v B' H' g hp => q _ v B' H' (fb_div h1 h2 h3) ((k1.gr g).le h4) (g1.trans (GX.gr g)) hp⟩
  have p60 : (10 : Nat) ^ 60 = 1000000000000000000000000000000000000000000000000000000000000 := by decide
  refine b_seq (b_ifOp (x_digit k rfl ev_c (by decide) (by decide) (by omega) fun m H1 m0 m1 k1 g1 => b_c ⟨rfl, _, rfl, ?_⟩))
  by_cases c : m = 0
  · rw [if_pos (by simp [c])]
    refine b_ret (c_call (b_cons (b_op (x_digitW (z := 10 ^ 30) k1 rfl (ev_is (ev_op ev_c ev_c (rv_I ⟨by decide, by decide, by decide⟩)) rfl) (by decide) (by decide) (by omega) fun m2 H2 m20 m21 k2 g2 => ?_))))
    refine (ev_mulW (k := 200) ev_c (ev_is (ev_op ev_c ev_c (rv_I ⟨by decide, by decide, by decide⟩)) rfl) (by decide) (by decide) : Ev _ [some (.ref d)] B (.int (5 * 10 ^ 29))) H2 k2.e _ fun H3 e3 => ⟨_, _, rfl, rfl, ?_⟩
    refine b_cons (b_op (b_c (x_digitW (z := 10 ^ 20) (k2.ex e3) rfl (ev_is (ev_op ev_c ev_c (rv_I ⟨by decide, by decide, by decide⟩)) rfl) (by decide) (by decide) (by omega) fun m3 H4 m30 m31 k4 g4 => ⟨_, _, rfl, rfl, b_nil ?_⟩)))
    exact fin (by omega) (by omega) (by omega) k4 (by omega) (g1.trans (g2.trans ((GX.ex e3).trans g4)))
  · rw [if_neg (by simp [c])]
    dsimp only
    refine b_ret (c_call (b_cons (b_op (x_digit (z := 41) k1 rfl ev_c (by decide) (by decide) (by omega) fun m2 H2 m20 m21 k2 g2 => b_c ⟨_, _, rfl, rfl, ?_⟩))))
    refine b_cons (b_op (b_c (c_call (b_cons ⟨_, rfl, b_cons ?_⟩))))
    refine x_pickI (K := K) (ks := [1, 9]) k2 (q_cons p_c (q_cons p_c q_nil)) rfl rfl (by decide) (by decide) (by omega) fun j hj B3 H3 k3 g3 => b_nil ?_
    have hz : 0 < ([1, 9] : List Int)[j] ∧ ([1, 9] : List Int)[j] ≤ 9 := by
      have hj : j < 2 := hj
      match j, hj with
      | 0, _ => exact ⟨(by decide : (0 : Int) < 1), (by decide : (1 : Int) ≤ 9)⟩
      | 1, _ => exact ⟨(by decide : (0 : Int) < 9), (by decide : (9 : Int) ≤ 9)⟩
    refine ⟨d, ([1, 9] : List Int)[j], _, rfl, hz.1, ?_, k3.s, by omega, fun m3 H4 m30 m31 hd4 S4 => ⟨_, _, rfl, rfl, b_nil ?_⟩⟩
    · have := Nat.log2_lt (n := ([1, 9] : List Int)[j].natAbs) (k := 9000) (by omega)
      exact this.mpr (Nat.lt_of_lt_of_le (by omega : _ < 10) (by decide))
    exact fin (by omega) (by omega) (by omega) (k3.sb S4 hd4) (by omega) (g1.trans (g2.trans (g3.trans (GX.sb S4))))

end
end K12
namespace Nd
set_option autoImplicit false
open PySem PySem.Spec PySem.W PySem.Calls PyProof.Rows L2 My Evl LamX NdefX
/-! ### lists of texts -/
def SsP (ys : List Str) : Pr := LsP (ys.map fun y => IsV (.str y))
/-- the words of a text between its blanks -/
def wd (x : Str) : List Str := Txt.split x (Str.ofString " ")
def wordsP (x : Str) : Pr := if Str.ofString "" ∈ wd x then IsV .non else SsP (wd x)
def Rwo (K : PySem.W.Frag) : List Pr → Pr → Prop := fun ps p => ∃ x : Str, x.length ≤ 100000 ∧ ps = [IsV (.str x)] ∧ p = wordsP x
def Rwr (K : PySem.W.Frag) : List Pr → Pr → Prop := fun ps p => ∃ x : Str, x.length ≤ 90000 ∧ ps = [IsV (.str x)] ∧ p = IsV (.bl true)
def rEqS (K : PySem.W.Frag) : R2 := fun x y H Q => ∃ (a b : Addr) (xs ys : List Str), x = .ref a ∧ y = .ref b ∧ SqL K H a (xs.map V.str) ∧ SqL K H b (ys.map V.str) ∧ Q (.bl (decide (xs = ys))) H
theorem rel_strs {us : List Value} : ∀ {xs : List Str}, Vals (xs.map V.str) us → us.length = xs.length ∧ ∀ j (h : j < xs.length) (h2 : j < us.length), ∃ t, us[j] = Value.str xs[j] t := by
  induction us with
  | nil =>
    intro xs h
    cases xs with
    | nil => exact ⟨rfl, fun j h => absurd h (Nat.not_lt_zero j)⟩
    | cons x xs => cases h
  | cons u us ih =>
    intro xs h
    cases xs with
    | nil => cases h
    | cons x xs =>
      cases h with
      | cons h1 h2 =>
        obtain ⟨l, f⟩ := ih h2
        refine ⟨by simp [l], fun j h3 h4 => ?_⟩
        cases j with
        | zero =>
          obtain ⟨t, e⟩ := h1
          exact ⟨t, e⟩
        | succ j => exact f j (by simpa using h3) (by simpa using h4)
theorem op_eqS {X : Cx} (hu : X.A.units + 64 < cLine) : OpR X (compareOp .Eq) (rEqS X.K) := by
  intro pins s σ H x y v u Q I rx ry h
  obtain ⟨a, b, xs, ys, rfl, rfl, ha, hb, q⟩ := h
  cases (show v = Value.ref a from rx)
  cases (show u = Value.ref b from ry)
  obtain ⟨us, r1, p1, _⟩ := I.list ha
  obtain ⟨ws, r2, p2, _⟩ := I.list hb
  obtain ⟨l1, f1⟩ := rel_strs r1
  obtain ⟨l2, f2⟩ := rel_strs r2
  by_cases hl : xs.length = ys.length
  · have ee : (List.range us.toArray.size).all (fun j => xs.getD j Str.empty == ys.getD j Str.empty) = decide (xs = ys) := by
      rw [Bool.eq_iff_iff, List.all_eq_true, decide_eq_true_iff]
      constructor
      · intro h
        refine List.ext_getElem hl fun j h1 h2 => ?_
        have := h j (List.mem_range.mpr (by rw [List.size_toArray, l1]; exact h1))
        rw [List.getD_eq_getElem?_getD, List.getD_eq_getElem?_getD, List.getElem?_eq_getElem h1, List.getElem?_eq_getElem h2] at this
        exact eq_of_beq this
      · rintro rfl j _
        exact beq_self_eq_true _
    refine (SeqAt.RcAt.lists (e := fun j => xs.getD j Str.empty == ys.getD j Str.empty) p1.isList p2.isList (by simp [l1, l2, hl]) (by omega) (fun j h1 h2 => ?_)) _ _ _ _ ⟨.bl _, H, I, ?_, q⟩
    · have h1' : j < us.length := by simpa using h1
      have h2' : j < ws.length := by simpa using h2
      obtain ⟨t, e1⟩ := f1 j (by omega) h1'
      obtain ⟨t2, e2⟩ := f2 j (by omega) h2'
      rw [List.getElem_toArray, List.getElem_toArray, e1, e2, List.getD_eq_getElem?_getD, List.getD_eq_getElem?_getD, List.getElem?_eq_getElem (by omega : j < xs.length), List.getElem?_eq_getElem (by omega : j < ys.length)]
      exact SeqAt.EqAt.str_str _ _ _ _
    · rw [ee]
      rfl
  · have hd : decide (xs = ys) = false := decide_eq_false fun e => hl (by rw [e])
    rw [hd] at q
    exact (SeqAt.RcAt.lists_lengths p1.isList p2.isList (by simp [l1, l2]; exact hl) (by omega)) _ _ _ _ ⟨.bl _, H, I, rfl, q⟩
section
variable {K : PySem.W.Frag} {te ta tb : TE} {σ : L2.St} {B H : Hp}
theorem sstrs : ∀ ys : List Str, AllP (ys.map fun y => IsV (.str y)) (ys.map V.str) H
  | [] => trivial
  | _ :: ys => ⟨rfl, sstrs ys⟩
theorem sstrs_v : ∀ {ys : List Str} {xs : List V}, AllP (ys.map fun y => IsV (.str y)) xs H → xs = ys.map V.str
  | [], [], _ => rfl
  | _ :: _, _ :: _, h => by rw [show _ = V.str _ from h.1, sstrs_v h.2]; rfl
theorem p_split {x : Str} (h : Ev ta σ B (.str x)) (hl : x.length ≤ 100000) : EvP (tM1 (fun x xs H Q => ∃ a b : Str, x = .str a ∧ xs = [.str b] ∧ (b.length == 0) = false ∧ a.length + 2 ≤ sizeLine ∧ rNewStrs (Txt.split a b) H Q) ta (tC (.str " "))) σ B (SsP (wd x)) := fun H1 a Q k =>
  have sl : x.length + 2 ≤ sizeLine := Nat.le_trans (Nat.add_le_add_right hl 2) (by decide)
  h H1 a _ fun H2 e2 => ⟨⟨x, rfl⟩, x, _, rfl, rfl, by decide +kernel, sl, fun l hl => k _ _ _ ((Gr.wide a e2).trans (Gr.new _ (a.trans e2) hl)) ⟨l, _, rfl, upd_same, sstrs _⟩⟩
theorem ev_inS {x : Str} {ys : List Str} {neg : Bool} (ha : Ev ta σ B (.str x)) (hb : EvP tb σ B (SsP ys)) : Ev (tOp (rIn K neg) ta tb) σ B (.bl (if neg then !decide (x ∈ ys) else decide (x ∈ ys))) := fun H1 a Q k =>
  ha H1 a _ fun H2 e => hb H2 (a.trans e) _ fun v B2 H3 g z => by
    obtain ⟨l, xs, rfl, hx, al⟩ := z
    obtain rfl := sstrs_v al
    refine ⟨l, _, rfl, .inl (sq_of (g.c _ _ hx)), rfl, My.flat_strs ys, ?_⟩
    rw [inV_strs]
    exact k H3 (e.trans g.a)
theorem ev_eqS {xs ys : List Str} (ha : EvP ta σ B (SsP xs)) (hb : EvP tb σ B (SsP ys)) : Ev (tOp (rEqS K) ta tb) σ B (.bl (decide (xs = ys))) := fun H1 a Q k =>
  ha H1 a _ fun v B2 H2 g b => hb H2 (g.b.trans g.c) _ fun w B3 H3 g3 b3 => by
    obtain ⟨l, us, rfl, hl, al⟩ := b
    obtain ⟨l2, ws, rfl, hl2, al2⟩ := b3
    obtain rfl := sstrs_v al
    obtain rfl := sstrs_v al2
    exact ⟨l, l2, xs, ys, rfl, rfl, sq_of (g3.a _ _ (g.c _ _ hl)), sq_of (g3.c _ _ hl2), k H3 (g.a.trans g3.a)⟩
theorem ev_nsign {c : Nat} {z : Str} (ha : Ev ta σ B (.str ⟨#[c]⟩)) (hb : Ev tb σ B (.str z)) : Ev (tOp (fun x y H Q => ∃ (c : Nat) (z : Str), x = .str ⟨#[c]⟩ ∧ y = .str z ∧ Q (.bl (!decide (c ∈ z.cps.toList))) H) ta tb) σ B (.bl (!decide (c ∈ z.cps.toList))) := fun H1 e Q q =>
  ha H1 e _ fun H2 e2 => hb H2 (e.trans e2) _ fun H3 e3 => ⟨c, z, rfl, rfl, q H3 (e2.trans e3)⟩
end
def fiveD (a b c d e : Bool) : PyData := .list [.bool a, .bool b, .bool c, .bool d, .bool e]
theorem five_sh : ∀ a b c d e : Bool, (fiveD a b c d e).showable = true ∧ (fiveD a b c d e).depth ≤ 60 ∧ (fiveD a b c d e).shown.length ≤ 1000000 := by decide +kernel
end Nd
namespace K12
set_option autoImplicit false
open PySem PySem.Spec PySem.W PyProof.Rows L2 Evl My Nd LamX NdefX
section
variable {P : Program} {w : World} {K : PySem.W.Frag} {mg : Str → Option Value} {base : Heap} {T : List (Addr × Str)}

/-- words_of -/
abbrev s_words_of : Stmt := topS 29
abbrev N_words_of : List Str := ["row", "words"]
theorem sc_words_of : FnScope N_words_of ["row"] (defScope s_words_of) := ⟨rfl, rfl, rfl, by decide +kernel, rfl, by decide +kernel, by decide +kernel⟩
theorem ok_words_of {f : Addr} {fd : FuncData} (F : Fun K "words_of" "words_of" s_words_of f fd)   (n_isinstance : mg "isinstance" = none) (n_str : mg "str" = none)  :
    FnOk P w K mg base CX0 1 f fd ["row"] (spP (Rwo K)) := by
  refine F.ok sc_words_of (spP_len (by rintro _ _ ⟨_, _, rfl, rfl⟩; rfl)) (fun cdv A outer s H vs Q E hr h => ?_)
  obtain ⟨B, ps, p, eB, hv, ⟨x, hx, rfl, rfl⟩, q⟩ := h
  obtain ⟨v, rfl, h1⟩ := all1 hv
  obtain rfl : v = .str x := h1
  have hu := hu_of hr
  refine ⟨_, (pss_cons (ps_if (pt_not (pt_val (pe_callB call_isi (by rfl) n_isinstance (by decide +kernel) (pa_cons (pv 0) (pa_cons (pe_bltn (v := .ty "str") (u := .type "str") (by rfl) n_str (by decide +kernel) rfl) pa_nil))))) (pss_one (ps_ret pe_non)) pss_nil)
    (pss_cons (ps_set (i := 1) sc_words_of.nd rfl (by first | exact .inl rfl | exact .inr rfl) (pe_split (pv 0) pe_str))
    (pss_cons (ps_if (pt_cmpR op_in_seq pe_str (pv 1) (by rfl)) (pss_one (ps_ret pe_non)) pss_nil)
    (pss_one (ps_ret (pv 1)))))), ?_⟩
  refine ps_ifN eB (et_is (et_not (et_B (ev_isi (K := K) (d := .str x) (ed_st (ev_var rfl)) k_ss))) rfl) fun H1 e1 => ?_
  dsimp only
  refine ps_asgN (fun y => [some (.str x), some y]) (eB.trans e1) (p_split (ev_var rfl) hx) (fun y B2 H2 g2 hy => ?_) (fun _ => rfl)
  have gg := (Gr.wide eB e1).trans g2
  dsimp only
  have tst := et_test (ev_inS (K := K) (neg := false) (σ := [some (.str x), some y]) (ev_c (v := .str "")) (p_var (i := 1) rfl hy))
  by_cases c : Str.ofString "" ∈ wd x
  · refine My.ps_ifT g2.c (et_is tst (by simp [c])) fun H3 e3 => ?_
    refine My.ps_ret (g2.c.trans e3) (p_c (v := .non)) fun v B4 H4 g4 hp => q v B4 H4 (gg.trans ((Gr.wide g2.c e3).trans g4)) ?_
    unfold wordsP
    rw [if_pos c]
    exact hp
  · refine ps_ifN g2.c (et_is tst (by simp [c])) fun H3 e3 => ?_
    dsimp only
    refine My.ps_ret (g2.c.trans e3) (p_var (p := SsP (wd x)) (i := 1) rfl hy) fun v B4 H4 g4 hp => q v B4 H4 (gg.trans ((Gr.wide g2.c e3).trans g4)) ?_
    unfold wordsP
    rw [if_neg c]
    exact hp

/-- _law_word_right -/
abbrev s_Lword_right : Stmt := topS 48
abbrev N_Lword_right : List Str := ["_law_word", "_law_others", "_law_sign", "_law_due", "_law_found", "_law_parts", "_law_told_here"]
theorem sc_Lword_right : FnScope N_Lword_right ["_law_word"] (defScope s_Lword_right) := ⟨rfl, rfl, rfl, by decide +kernel, rfl, by decide +kernel, by decide +kernel⟩
theorem ok_Lword_right {f : Addr} {fd : FuncData} (F : Fun K "_law_word_right" "_law_word_right" s_Lword_right f fd)  {f_is_name : Addr} {d_is_name : FuncData} (c_is_name : Cal P w K mg base "is_name" 2 ["thing"] (spP (RBE K nameB)) f_is_name d_is_name) {f_is_axis : Addr} {d_is_axis : FuncData} (c_is_axis : Cal P w K mg base "is_axis" 1 ["thing"] (spP (RBE K axB)) f_is_axis d_is_axis) {f_is_whole : Addr} {d_is_whole : FuncData} (c_is_whole : Cal P w K mg base "is_whole" 2 ["thing"] (spP (RBE K wholeB)) f_is_whole d_is_whole) {f_is_among : Addr} {d_is_among : FuncData} (c_is_among : Cal P w K mg base "is_among" 3 ["thing", "least", "most"] (spP (RamgE K)) f_is_among d_is_among) {f_is_fraction : Addr} {d_is_fraction : FuncData} (c_is_fraction : Cal P w K mg base "is_fraction" 3 ["thing"] (spP (RBE K frB)) f_is_fraction d_is_fraction) {f_words_of : Addr} {d_words_of : FuncData} (c_words_of : Cal P w K mg base "words_of" 1 ["row"] (spP (Rwo K)) f_words_of d_words_of) (n_repr : mg "repr" = none) (n_isinstance : mg "isinstance" = none) (n_list : mg "list" = none) (n_len : mg "len" = none)  :
    Gd.FnG P w K mg base 5 f fd ["_law_word"] (spP (Rwr K)) := by
  refine Gd.okG F sc_Lword_right (spP_len (by rintro _ _ ⟨_, _, rfl, rfl⟩; rfl)) (fun cdv A outer s H vs Q E hr hG h => ?_)
  obtain ⟨B, ps, p, eB, hv, ⟨x, hx, rfl, rfl⟩, q⟩ := h
  obtain ⟨v, rfl, h1⟩ := all1 hv
  obtain rfl : v = .str x := h1
  have hu := hu_of hr
  refine ⟨_, (pss_cons (ps_setLc (i := 1) (own := [("_law_sign", 2)]) rfl sc_Lword_right.nd rfl rfl (sw_true rfl rfl rfl (by decide +kernel)) (pi_str (pv 0)) (blkOk_by (N := N_Lword_right) (sc := defScope s_Lword_right) (by decide +kernel)) (fun _ _ _ _ _ => (pg_name (i := 2) sc_Lword_right.nd rfl (Or.inl rfl))) (fun _ _ _ _ _ => (pts_one (pt_cmpR op_notIn_sign (pv 2) pe_str (by rfl)))) (fun _ _ _ _ _ => (pv 2)))
    (pss_cons (ps_set (i := 3) sc_Lword_right.nd rfl (by first | exact .inl rfl | exact .inr rfl) (pe_lst (pa_cons (pe_and (pe_chain op_lt op_lt pe_int (pe_callB call_len_str (by rfl) n_len (by decide +kernel) (pa_cons (pv 0) pa_nil)) pe_int) (pe_one (pe_cmpR (show OpR _ (compareOp .Eq) (rEqNil K) from op_eqNil hr.units) (pv 1) (pe_lst pa_nil) (nomark _)))) (pa_cons (pe_cmpR op_in_seq (pv 0) (pe_tup (pa_cons pe_str (pa_cons pe_str pa_nil))) (by rfl)) (pa_cons pe_bl (pa_cons pe_bl (pa_cons pe_bl pa_nil)))))))
    (pss_cons (ps_set (i := 4) sc_Lword_right.nd rfl (by first | exact .inl rfl | exact .inr rfl) (pe_lst (pa_cons (pe_call c_is_name.G (hr.mono (by decide)) (by rfl) c_is_name.m c_is_name.k c_is_name.b .nil pass0 (pa_cons (pv 0) pa_nil)) (pa_cons (pe_call c_is_axis.G (hr.mono (by decide)) (by rfl) c_is_axis.m c_is_axis.k c_is_axis.b .nil pass0 (pa_cons (pv 0) pa_nil)) (pa_cons (pe_call c_is_whole.G (hr.mono (by decide)) (by rfl) c_is_whole.m c_is_whole.k c_is_whole.b .nil pass0 (pa_cons (pv 0) pa_nil)) (pa_cons (pe_call c_is_among.G (hr.mono (by decide)) (by rfl) c_is_among.m c_is_among.k c_is_among.b .nil pass0 (pa_cons (pv 0) (pa_cons pe_int (pa_cons pe_int pa_nil)))) (pa_cons (pe_call c_is_fraction.G (hr.mono (by decide)) (by rfl) c_is_fraction.m c_is_fraction.k c_is_fraction.b .nil pass0 (pa_cons (pv 0) pa_nil)) pa_nil)))))))
    (pss_cons (ps_par (i := 5) (j := 6) rfl sc_Lword_right.nd rfl rfl (by decide) rfl rfl (pa_cons (pe_split (pv 0) pe_str) (pa_cons (pe_call c_words_of.G (hr.mono (by decide)) (by rfl) c_words_of.m c_words_of.k c_words_of.b .nil pass0 (pa_cons (pv 0) pa_nil)) pa_nil)) (by rfl))
    (pss_cons (ps_if (pt_cmpR op_ne (pe_callB (Gd.call_reprG hG hr.units) (by rfl) n_repr (by decide +kernel) (pa_cons (pv 4) pa_nil)) (pe_callB (Gd.call_reprG hG hr.units) (by rfl) n_repr (by decide +kernel) (pa_cons (pv 3) pa_nil)) (nomark _)) (pss_one (ps_ret pe_bl)) pss_nil)
    (pss_one (ps_ret (pe_ifExp (pt_cmpR op_in_seq pe_str (pv 5) (by rfl)) (pe_cmpR op_isN (pv 6) pe_non (nomark _)) (pe_and (pe_callB call_isi (by rfl) n_isinstance (by decide +kernel) (pa_cons (pv 6) (pa_cons (pe_bltn (v := .ty "list") (u := .type "list") (by rfl) n_list (by decide +kernel) rfl) pa_nil))) (pe_one (pe_cmpR (show OpR _ (compareOp .Eq) (rEqS K) from op_eqS hr.units) (pv 6) (pv 5) (nomark _)))))))))))), ?_⟩
  have hl : x.length ≤ 100000 := by omega
  have signs : EvP (tLc (iStr (tVar 0)) (gName 2) (tTest (tOp (fun x y H Q => ∃ (c : Nat) (z : Str), x = .str ⟨#[c]⟩ ∧ y = .str z ∧ Q (.bl (!decide (c ∈ z.cps.toList))) H) (tVar 2) (tC (.str "abcdefghijklmnopqrstuvwxyz")))) (tVar 2) [2]) [some (.str x), none, none, none, none, none, none] B (LsP (((List.range x.cps.size).filter fun i => !decide (x.cps.getD i 0 ∈ (Str.ofString "abcdefghijklmnopqrstuvwxyz").cps.toList)).map fun i => IsV (.str (oneS x i)))) := by
    refine p_lcS (src_str (x := x) (ev_var rfl)) (by show x.length ≤ _; omega) (fun i => !decide (x.cps.getD i 0 ∈ (Str.ofString "abcdefghijklmnopqrstuvwxyz").cps.toList)) (fun i => IsV (.str (oneS x i))) fun i v1 B1 hi e pv => ?_
    obtain rfl : v1 = .str (oneS x i) := pv
    exact ⟨[some (.str x), none, some (.str (oneS x i)), none, none, none, none], rfl, fun H2 Q e q => q, et_test (ev_nsign (c := x.cps.getD i 0) (z := "abcdefghijklmnopqrstuvwxyz") (ev_var rfl) ev_c), fun _ => p_varV rfl⟩
  refine ps_asgN (fun y => [some (.str x), some y, none, none, none, none, none]) eB signs (fun y B1 H1 g1 hy => ?_) (fun _ => rfl)
  clear signs
  dsimp only
  have empt : ((((List.range x.cps.size).filter fun i => !decide (x.cps.getD i 0 ∈ (Str.ofString "abcdefghijklmnopqrstuvwxyz").cps.toList)).map fun i => IsV (.str (oneS x i)))).isEmpty = x.cps.toList.all fun c => decide (97 ≤ c) && decide (c ≤ 122) := by
    rw [List.isEmpty_map, ← all_cps x fun c => decide (97 ≤ c) && decide (c ≤ 122), Bool.eq_iff_iff, List.isEmpty_iff, List.filter_eq_nil_iff, List.all_eq_true]
    constructor
    · intro h y hy
      obtain ⟨i, hi, rfl⟩ := List.mem_map.mp hy
      have := h i hi
      rw [low_let] at this
      simpa using this
    · intro h i hi
      have := h _ (List.mem_map.mpr ⟨i, hi, rfl⟩)
      rw [low_let]
      simpa using this
  have en : nameB (.str x) = ((decide (1 ≤ x.length) && decide (x.length ≤ 8)) && x.cps.toList.all fun c => decide (97 ≤ c) && decide (c ≤ 122)) := rfl
  have e2 : (decide ((0 : Int) < (x.length : Int)) && decide ((x.length : Int) < 9)) = (decide (1 ≤ x.length) && decide (x.length ≤ 8)) := by
    congr 1 <;> (apply decide_eq_decide.mpr; omega)
  have n1 : Ev _ [some (.str x), some y, none, none, none, none, none] B1 (.bl (nameB (.str x))) := ev_is (ev_andV (a := decide ((0 : Int) < (x.length : Int)) && decide ((x.length : Int) < 9)) (b := x.cps.toList.all fun c => decide (97 ≤ c) && decide (c ≤ 122)) (ev_chain (r1 := fun i j => decide (i < j)) (r2 := fun i j => decide (i < j)) (ev_c (v := .int 0)) (ev_lenS (x := x) (ev_var (i := 0) rfl) hl) (ev_c (v := .int 9))) fun _ => ev_is (ev_eqNil (K := K) (p_lq (p_var (i := 1) rfl hy)) (p_lq (p_lst (ps := []) q_nil (by show 0 ≤ 100000; decide)))) (by rw [empt])) (by rw [e2, en])
  have n2 : Ev _ [some (.str x), some y, none, none, none, none, none] B1 (.bl (axB (.str x))) := ev_is (ev_inT (K := K) (neg := false) (x := x) (ys := ["x", "y"]) (ev_var (i := 0) rfl) (p_to (p_tup (K := K) (q_cons p_c (q_cons p_c q_nil)) (by show 2 ≤ 100000; decide)) (to_tup (.cons to_str (.cons to_str .nil))))) (by simp [axB])
  refine ps_asgN (fun y2 => [some (.str x), some y, none, some y2, none, none, none]) g1.c (p := IsD K (fiveD (nameB (.str x)) (axB (.str x)) false false false)) (p_to (p_lst (q_cons (p_ev n1) (q_cons (p_ev n2) (q_cons p_c (q_cons p_c (q_cons p_c q_nil))))) (by show 5 ≤ 100000; decide)) (to_lst (.cons to_bl (.cons to_bl (.cons to_bl (.cons to_bl (.cons to_bl .nil))))))) (fun y2 B2 H2 g2 hy2 => ?_) (fun _ => rfl)
  have hy2 : (IsD K (fiveD (nameB (.str x)) (axB (.str x)) false false false)).P y2 B2 := hy2
  clear n1 n2 hy empt
  dsimp only
  have sx : smB (.str x) = true := smd_str hl
  have ask : ∀ {σ : L2.St} {B : Hp} {f : PyData → Bool}, σ[0]? = some (some (.str x)) → EvP (tCall (spP (RBE K f)) [] E0 (tCons (tVar 0) tNil)) σ B (IsV (.bl (f (.str x)))) := fun h => p_callP (R := RBE K _) (ps := [IsV (.str x)]) (q_cons (p_varV h) q_nil) ⟨_, .str x, toE_of to_str, sx, rfl, rfl⟩
  have askA : EvP (tCall (spP (RamgE K)) [] E0 (tCons (tVar 0) (tCons (tC (.int 0)) (tCons (tC (.int 9)) tNil)))) [some (.str x), some y, none, some y2, none, none, none] B2 (IsV (.bl (amgB 0 9 (.str x)))) := p_callP (R := RamgE K) (ps := [IsV (.str x), IsV (.int 0), IsV (.int 9)]) (q_cons (p_varV rfl) (q_cons p_c (q_cons p_c q_nil))) ⟨_, .str x, 0, 9, toE_of to_str, sx, rfl, rfl⟩
  refine ps_asgN (fun y3 => [some (.str x), some y, none, some y2, some y3, none, none]) g2.c (p := IsD K (fiveD (nameB (.str x)) (axB (.str x)) false false false)) (p_to (p_lst (q_cons (ask rfl) (q_cons (ask rfl) (q_cons (ask rfl) (q_cons askA (q_cons (ask rfl) q_nil))))) (by show 5 ≤ 100000; decide)) (to_lst (.cons to_bl (.cons to_bl (.cons to_bl (.cons to_bl (.cons to_bl .nil))))))) (fun y3 B3 H3 g3 hy3 => ?_) (fun _ => rfl)
  have hy3 : (IsD K (fiveD (nameB (.str x)) (axB (.str x)) false false false)).P y3 B3 := hy3
  have hy2 := (IsD K (fiveD (nameB (.str x)) (axB (.str x)) false false false)).m g3.b hy2
  dsimp only
  refine ps_parX (i := 5) (j := 6) (p := SsP (wd x)) (q := wordsP x) g3.c (q_cons (p_split (ev_var rfl) hl) (q_cons (p_callP (R := Rwo K) (ps := [IsV (.str x)]) (q_cons (p_varV rfl) q_nil) ⟨x, hl, rfl, rfl⟩) q_nil)) fun y5 y6 B4 H4 g4 h5 h6 => ?_
  have hy3 := (IsD K (fiveD (nameB (.str x)) (axB (.str x)) false false false)).m g4.b hy3
  have hy2 := (IsD K (fiveD (nameB (.str x)) (axB (.str x)) false false false)).m g4.b hy2
  dsimp only [List.set_cons_succ, List.set_cons_zero]
  obtain ⟨sh1, sh2, sh3⟩ := five_sh (nameB (.str x)) (axB (.str x)) false false false
  refine ps_ifN g4.c (et_is (et_test (ev_op (Gd.ev_repr (p_var (i := 4) rfl hy3) sh1 sh2 sh3) (Gd.ev_repr (p_var (i := 3) rfl hy2) sh1 sh2 sh3) (rv_ne rfl))) (by simp)) fun H5 e5 => ?_
  dsimp only
  have tst := et_test (ev_inS (K := K) (neg := false) (σ := [some (.str x), some y, none, some y2, some y3, some y5, some y6]) (ev_c (v := .str "")) (p_var (i := 5) rfl h5))
  have fin : EvP _ [some (.str x), some y, none, some y2, some y3, some y5, some y6] B4 (IsV (.bl true)) := ed_if tst (fun h => by
      have c : Str.ofString "" ∈ wd x := by simpa using h
      have h6' : y6 = .non := by unfold wordsP at h6; rw [if_pos c] at h6; exact h6
      exact p_ev (ev_is (ev_isN0 (ev_var (i := 6) (v := y6) rfl)) (by rw [h6']; rfl))) (fun h => by
      have c : ¬ Str.ofString "" ∈ wd x := by simpa using h
      have h6' : (SsP (wd x)).P y6 B4 := by unfold wordsP at h6; rw [if_neg c] at h6; exact h6
      exact p_ev (ev_is (ev_andV (a := true) (b := true) (ev_isi (K := K) (d := .list ((wd x).map .str)) (p_to (p_var (p := SsP (wd x)) (i := 6) rfl h6') (to_lst (toAll_map _ fun _ => to_str))) k_ll) fun _ => ev_is (ev_eqS (K := K) (p_var (i := 6) rfl h6') (p_var (i := 5) rfl h5)) (by simp)) rfl))
  exact My.ps_ret (g4.c.trans e5) fin fun v B6 H6 g6 hp => q v B6 H6 (g1.trans (g2.trans (g3.trans (g4.trans ((Gr.wide g4.c e5).trans g6))))) hp

end
end K12
namespace Nd
set_option autoImplicit false
open PySem PySem.Spec PySem.W PySem.Calls PyProof.Rows L2 My Evl LamX NdefX
def EVT : Str := Str.ofString "!\"#$&'()*+,-./0123456789:;<=>?@ABCDEFGHIJKLMNOPQRSTUVWXYZ[\\]^_`abcdefghijklmnopqrstuvwxyz{|}~ \n"
def SGN : List Str := [Str.ofString "abcdefghijklmnopqrstuvwxyz", Str.ofString "xy", Str.ofString "a1 -", EVT]
theorem sgn_len : (∀ x ∈ SGN, 0 < x.length ∧ x.length ≤ 200) ∧ 0 < EVT.length ∧ EVT.length ≤ 200 ∧ SGN.length = 4 := by decide +kernel
def spTx (K : PySem.W.Frag) (T : List (Addr × Str)) : Sp := fun vs H Q _ => ∃ (B : Hp) (d : Addr) (n : Nat), vs = [.ref d] ∧ K12.Kx T d n B H ∧ n ≤ 2 ^ 37 ∧ ∀ (xs : List Str) (v : V) (B' H' : Hp), (∀ x ∈ xs, x.length ≤ 90000) → xs.length ≤ 20 → K12.Kx T d (n + 60) B' H' → K12.GX d B H B' H' → (SsP xs).P v B' → Q v H'
section
variable {K : PySem.W.Frag} {te ta tb : TE} {σ : L2.St} {B H : Hp}
theorem ev_catS {x y : Str} (ha : Ev ta σ B (.str x)) (hb : Ev tb σ B (.str y)) (hl : x.length + y.length ≤ 100000) : Ev (tOp (fun x y H Q => ∃ i j : Str, x = .str i ∧ y = .str j ∧ i.length + j.length ≤ sizeLine ∧ Q (.str (i ++ j)) H) ta tb) σ B (.str (x ++ y)) := fun H1 a Q k =>
  ha H1 a _ fun H2 e2 => hb H2 (a.trans e2) _ fun H3 e3 => ⟨x, y, rfl, rfl, Nat.le_trans hl (by decide), k H3 (e2.trans e3)⟩
theorem ev_upS {x : Str} (ha : Ev ta σ B (.str x)) (hl : x.length ≤ 100000) : Ev (tM0 (fun x xs H Q => ∃ a : Str, x = .str a ∧ xs = [] ∧ a.length ≤ 5592405 ∧ Q (.str (Txt.upper a)) H) ta) σ B (.str (Txt.upper x)) := fun H1 a Q k =>
  ha H1 a _ fun H2 e2 => ⟨⟨x, rfl⟩, x, rfl, rfl, Nat.le_trans hl (by decide), k H2 e2⟩
theorem ev_slS {x : Str} {i : Int} (ha : Ev ta σ B (.str x)) (hl : x.length ≤ 100000) : Ev (tSl rSlS ta tNoPart (tPart (tC (.int i)))) σ B (.str (cutS x none (some i))) := fun H1 a Q k =>
  ha H1 a _ fun H2 e2 => ⟨i, rfl, x, rfl, Nat.le_trans hl (by decide), k H2 e2⟩
theorem p_ss {t : TA} {ys : List Str} (h : EvPs t σ B (ys.map fun y => IsV (.str y))) (hl : ys.length ≤ 100000) : EvP (tLst t) σ B (SsP ys) := p_lst h (by rw [List.length_map]; exact hl)
end
theorem sum_ones : ∀ {as : List Str}, (∀ a ∈ as, a.length = 1) → (as.map (·.length)).sum = as.length
  | [], _ => rfl
  | a :: as, h => by
    rw [List.map_cons, List.sum_cons, h a List.mem_cons_self, sum_ones fun b hb => h b (List.mem_cons_of_mem _ hb), List.length_cons, Nat.add_comm]
theorem join_onesS {as : List Str} (h : ∀ a ∈ as, a.length = 1) : (Txt.join (Str.ofString "") as).length ≤ as.length := by
  unfold Txt.join
  rw [StrLaws.glued_eq_join]
  refine Nat.le_trans (StrLaws.join_length_le _ _) ?_
  rw [show (Str.ofString "").length = 0 from by decide +kernel, Nat.mul_zero, Nat.add_zero]
  exact Nat.le_of_eq (sum_ones h)
end Nd
namespace K12
set_option autoImplicit false
open PySem PySem.Spec PySem.W PyProof.Rows L2 Evl My Nd LamX NdefX
theorem x_at {K : PySem.W.Frag} {B H : Hp} {Q : VK} {ps : List Pr} {v : V} {m : Int} (e : Ex B H) (hv : (LsP ps).P v B) (m0 : 0 ≤ m) (m1 : m < ps.length) (q : ∀ (j : Nat) p w, ps[j]? = some p → p.P w B → Q w H) : rIxL K v (.int m) H Q := by
  obtain ⟨l, xs, rfl, hx, al⟩ := hv
  obtain ⟨j, p, w, hj, rfl, hp, hat, hw⟩ := pick al m0 m1
  exact ⟨l, xs, _, _, rfl, rfl, sq_of (e _ _ hx), hat, q j p w hp hw⟩
/-- a sign drawn from a text -/
theorem x_sign {T : List (Addr × Str)} {d : Addr} {n : Nat} {B H : Hp} {σ : L2.St} {Q : VK} {x : Str} {i : Nat} {ts tn : TE} (k : Kx T d n B H) (hi : σ[i]? = some (some (.ref d))) (hs : Ev ts σ B (.str x)) (hl : Ev tn σ B (.int (x.length : Nat))) (h0 : 0 < x.length) (h1 : x.length ≤ 200) (hn : n ≤ 2 ^ 38)
    (q : ∀ (y : Str) H', y.length = 1 → Kx T d (n + 4) B H' → GX d B H B H' → Q (.str y) H') : tOp rIxS ts (tCall spDigitW [] E0 (tCons (tVar i) (tCons tn tNil))) σ H Q := hs H k.e _ fun H1 e1 =>
  x_digit (k.ex e1) hi hl (by omega) (by omega) (by omega) fun m H2 m0 m1 k2 g2 => by
    obtain ⟨j, rfl⟩ : ∃ j : Nat, m = (j : Int) := ⟨m.toNat, by omega⟩
    have hj : j < x.cps.toList.length := by
      have : x.length = x.cps.toList.length := rfl
      omega
    refine ⟨x, (j : Nat), x.cps.toList[j], rfl, rfl, Nat.le_trans h1 (by decide), atI_nat (List.getElem?_eq_getElem hj), q _ H2 rfl k2 ((GX.ex e1).trans g2)⟩
theorem b_lst0 {tx : TA} {σ : L2.St} {H : Hp} {Q : VK} (h : tx σ H fun xs H1 => xs.length ≤ sizeLine ∧ ∀ p, H1 p = none → Q (.ref p) (upd H1 p (.lst xs))) : tLst tx σ H Q := h
section
variable {P : Program} {w : World} {K : PySem.W.Frag} {mg : Str → Option Value} {base : Heap} {T : List (Addr × Str)}

/-- _law_texts -/
abbrev s_Ltexts : Stmt := topS 49
abbrev N_Ltexts : List Str := ["_law_state", "_law_every", "_law_signs", "_law_many", "_law_word", "_law_j", "_law_sign", "_law_some"]
theorem sc_Ltexts : FnScope N_Ltexts ["_law_state"] (defScope s_Ltexts) := ⟨rfl, rfl, rfl, by decide +kernel, rfl, by decide +kernel, by decide +kernel⟩
theorem ok_Ltexts {f : Addr} {fd : FuncData} (F : Fun K "_law_texts" "_law_texts" s_Ltexts f fd)  {f_Ldigit : Addr} {d_Ldigit : FuncData} (c_Ldigit : Cal P w K mg base "_law_digit" 2 ["_law_state", "_law_many"] spDigitW f_Ldigit d_Ldigit) (n_len : mg "len" = none) (n_range : mg "range" = none)  :
    FnOk P w K mg base CX0 3 f fd ["_law_state"] (spTx K T) := by
  refine F.ok sc_Ltexts (fun vs H Q E h => by obtain ⟨_, _, _, rfl, _⟩ := h; rfl) (fun cdv A outer s H vs Q E hr h => ?_)
  obtain ⟨B, d, n, rfl, k, hn, q⟩ := h
  have hu := hu_of hr
  refine ⟨_, (pss_cons (ps_set (i := 1) sc_Ltexts.nd rfl (by first | exact .inl rfl | exact .inr rfl) pe_str)
    (pss_cons (ps_set (i := 2) sc_Ltexts.nd rfl (by first | exact .inl rfl | exact .inr rfl) (pe_lst (pa_cons pe_str (pa_cons pe_str (pa_cons pe_str (pa_cons (pv 1) pa_nil))))))
    (pss_cons (ps_asg (pe_tup (pa_cons (pe_ix ix_list (pv 2) (pe_call c_Ldigit.G (hr.mono (by decide)) (by rfl) c_Ldigit.m c_Ldigit.k c_Ldigit.b .nil pass0 (pa_cons (pv 0) (pa_cons pe_int pa_nil))) (fun _ _ => rfl)) (pa_cons (pe_call c_Ldigit.G (hr.mono (by decide)) (by rfl) c_Ldigit.m c_Ldigit.k c_Ldigit.b .nil pass0 (pa_cons (pv 0) (pa_cons pe_int pa_nil))) pa_nil))) (pg_tup (by rfl) (pgs_cons (pg_name (i := 2) sc_Ltexts.nd rfl (by first | exact .inl rfl | exact .inr rfl)) (pgs_cons (pg_name (i := 3) sc_Ltexts.nd rfl (by first | exact .inl rfl | exact .inr rfl)) pgs_nil))))
    (pss_cons (ps_set (i := 4) sc_Ltexts.nd rfl (by first | exact .inl rfl | exact .inr rfl) (pe_join pe_str (pe_lc (own := [("_law_j", 5)]) rfl sc_Ltexts.nd (pi_range1 (by rfl) n_range (pa_cons (pv 3) pa_nil)) (blkOk_by (N := N_Ltexts) (sc := defScope s_Ltexts) (by decide +kernel)) (fun _ _ _ _ _ => (pg_name (i := 5) sc_Ltexts.nd rfl (Or.inl rfl))) (fun _ _ _ _ _ => pts_nil) (fun _ _ _ _ _ => (pe_ix ix_str (pv 2) (pe_call c_Ldigit.G (hr.mono (by decide)) (by rfl) c_Ldigit.m c_Ldigit.k c_Ldigit.b .nil pass0 (pa_cons (pv 0) (pa_cons (pe_callB call_len_str (by rfl) n_len (by decide +kernel) (pa_cons (pv 2) pa_nil)) pa_nil))) (fun _ _ => rfl))))))
    (pss_cons (ps_set (i := 6) sc_Ltexts.nd rfl (by first | exact .inl rfl | exact .inr rfl) (pe_ix ix_str (pv 1) (pe_call c_Ldigit.G (hr.mono (by decide)) (by rfl) c_Ldigit.m c_Ldigit.k c_Ldigit.b .nil pass0 (pa_cons (pv 0) (pa_cons (pe_callB call_len_str (by rfl) n_len (by decide +kernel) (pa_cons (pv 1) pa_nil)) pa_nil))) (fun _ _ => rfl)))
    (pss_cons (ps_set (i := 7) sc_Ltexts.nd rfl (by first | exact .inl rfl | exact .inr rfl) (pe_lst (pa_cons (pv 4) (pa_cons (pe_op op_add_str (pe_op op_add_str (pv 4) pe_str) (pv 4)) (pa_cons (pe_op op_add_str pe_str (pv 4)) (pa_cons (pe_upper (pv 4)) (pa_cons (pv 6) (pa_cons (pe_op op_add_str (pe_slice sl_str (pv 4) po_none (po_some pe_int)) (pv 6)) (pa_cons pe_str (pa_cons pe_str (pa_cons pe_str (pa_cons pe_str (pa_cons (pe_op op_add_str pe_str (pv 6)) pa_nil)))))))))))))
    (pss_one (ps_ret (pe_op op_cat (pv 7) (pe_lst (pa_cons (pe_op op_add_str (pe_op op_add_str (pv 4) pe_str) (pv 4)) (pa_cons (pe_op op_add_str (pv 4) pe_str) pa_nil)))))))))))), ?_⟩
  refine ps_asgN (fun x => [some (.ref d), some x, none, none, none, none, none, none]) k.e (p_c (v := .str EVT)) (fun x B0 H0 g0 hx => ?_) (fun _ => rfl)
  obtain rfl : x = .str EVT := hx
  have k := k.gr g0
  dsimp only
  refine b_seq (b_asg (b_lst0 (b_cons (b_c (b_cons (b_c (b_cons (b_c (b_cons ⟨_, rfl, b_nil ⟨by decide, fun l hl => ?_⟩⟩)))))))))
  have n1 := Gr.new (B := B0) (.lst (SGN.map V.str)) k.e hl
  have k1 := k.gr n1
  have hL : (SsP SGN).P (.ref l) (upd B0 l (.lst (SGN.map V.str))) := ⟨l, _, rfl, upd_same, sstrs _⟩
  obtain ⟨sg1, sg2, sg3, sg4⟩ := sgn_len
  have G1 : GX d B H _ _ := (GX.gr g0).trans (GX.gr n1)
  generalize upd B0 l (.lst (SGN.map V.str)) = B1 at k1 hL G1
  dsimp only [gName, List.set_cons_succ, List.set_cons_zero]
  refine b_seq (b_asg (b_tup (b_cons (b_op ⟨_, rfl, x_digit (z := 4) k1 rfl ev_c (by decide) (by decide) (by omega) fun m H2 m0 m1 k2 g2 => ?_⟩))))
  refine x_at (K := K) k2.e hL m0 (by rw [List.length_map, sg4]; exact m1) fun j p v hj hv => ?_
  obtain ⟨sg, hsg, rfl⟩ : ∃ x : Str, x ∈ SGN ∧ p = IsV (.str x) := by
    rw [List.getElem?_map] at hj
    obtain ⟨x, hx, rfl⟩ := Option.map_eq_some_iff.mp hj
    exact ⟨x, List.mem_of_getElem? hx, rfl⟩
  obtain rfl : v = .str sg := hv
  obtain ⟨l0, l1⟩ := sg1 _ hsg
  refine b_cons (x_digit (z := 11) k2 rfl ev_c (by decide) (by decide) (by omega) fun m2 H3 m20 m21 k3 g3 => b_nil ⟨by show 2 ≤ sizeLine; decide, fun pt hpt => ?_⟩)
  obtain ⟨mn, rfl⟩ : ∃ j : Nat, m2 = (j : Int) := ⟨m2.toNat, by omega⟩
  refine ⟨pt, _, rfl, st_of upd_same, rfl, _, _, rfl, _, _, rfl, rfl, ?_⟩
  have k3 := k3.ex (Ex.new (o := .tup [.str sg, .int (mn : Nat)]) hpt)
  have g3 := g3.trans (GX.ex (Ex.new (o := .tup [.str sg, .int (mn : Nat)]) hpt))
  generalize upd H3 pt (.tup [.str sg, .int (mn : Nat)]) = H3 at k3 g3 ⊢
  dsimp only [gName, List.set_cons_succ, List.set_cons_zero]
  -- the word
  refine b_seq (b_asg ⟨⟨_, rfl⟩, ?_⟩)
  refine x_lcR (α := Str) (f := fun a => IsV (.str a)) (ok := fun a => a.length = 1) (jx := 3) (jv := 5) (c := 4) (m := mn) k3 rfl (by omega) (fun x => rfl) (fun i B2 H4 Q' hi k4 g4 step => ?_) fun as v B2 H4 hok hal k4 g4 hv => ?_
  · exact x_sign (x := sg) k4 rfl (ev_var rfl) (ev_lenS (x := sg) (ev_var rfl) (by omega)) l0 l1 (by omega) fun y H5 hy k5 g5 => step y _ B2 H5 hy (k5.le (by omega)) g5 rfl
  have hv : (SsP as).P v B2 := hv
  obtain ⟨la, xs, rfl, hx, al⟩ := hv
  obtain rfl := sstrs_v al
  have so := sum_ones hok
  refine ⟨_, la, as, rfl, rfl, .inl (sq_of (k4.e _ _ hx)), by rw [so, show (Str.ofString "").length = 0 from by decide +kernel]; omega, ?_⟩
  have wl := join_onesS hok
  rw [hal] at wl
  generalize Txt.join (Str.ofString "") as = wd0 at wl ⊢
  dsimp only [gName, List.set_cons_succ, List.set_cons_zero]
  -- the sign
  refine b_seq (b_asg (x_sign (x := EVT) k4 rfl (ev_var rfl) (ev_lenS (x := EVT) (ev_var rfl) (by omega)) sg2 sg3 (by omega) fun y H5 hy k5 g5 => ?_))
  have G5 : GX d B H B2 H5 := G1.trans (g2.trans (g3.trans (g4.trans g5)))
  dsimp only [gName, List.set_cons_succ, List.set_cons_zero]
  -- the texts
  have W : Ev (tVar 4) [some (.ref d), some (.str EVT), some (.str sg), some (.int (mn : Nat)), some (.str wd0), none, some (.str y), none] B2 (.str wd0) := ev_var rfl
  have S : Ev (tVar 6) [some (.ref d), some (.str EVT), some (.str sg), some (.int (mn : Nat)), some (.str wd0), none, some (.str y), none] B2 (.str y) := ev_var rfl
  have w10 : wd0.length ≤ 10 := by omega
  have upl := fact_upper wd0
  have ctl := cutS_length wd0 none (some 3)
  have z1 : (Str.ofString " ").length = 1 := by decide +kernel
  have z2 : (Str.ofString "  ").length = 2 := by decide +kernel
  have z3 : (Str.ofString "ab").length = 2 := by decide +kernel
  have z4 : (Str.ofString "xy").length = 2 := by decide +kernel
  have z5 : (Str.ofString "").length = 0 := by decide +kernel
  have z6 : (Str.ofString "x").length = 1 := by decide +kernel
  have z7 : (Str.ofString "y").length = 1 := by decide +kernel
  refine ps_asgN (fun z => [some (.ref d), some (.str EVT), some (.str sg), some (.int (mn : Nat)), some (.str wd0), none, some (.str y), some z]) k5.e (p_ss (ys := [wd0, wd0 ++ "  " ++ wd0, " " ++ wd0, Txt.upper wd0, y, cutS wd0 none (some 3) ++ y, "", "x", "y", "xy", "ab" ++ y]) (q_cons (p_ev W) (q_cons (p_ev (ev_catS (ev_catS W ev_c (by omega)) W (by rw [Nd.len_cat]; omega))) (q_cons (p_ev (ev_catS ev_c W (by omega))) (q_cons (p_ev (ev_upS W (by omega))) (q_cons (p_ev S) (q_cons (p_ev (ev_catS (ev_slS W (by omega)) S (by omega))) (q_cons p_c (q_cons p_c (q_cons p_c (q_cons p_c (q_cons (p_ev (ev_catS ev_c S (by omega))) q_nil))))))))))) (by show 11 ≤ 100000; decide)) (fun z B6 H6 g6 hz => ?_) (fun _ => rfl)
  have k6 := k5.gr g6
  dsimp only
  have W : Ev (tVar 4) [some (.ref d), some (.str EVT), some (.str sg), some (.int (mn : Nat)), some (.str wd0), none, some (.str y), some z] B6 (.str wd0) := ev_var rfl
  have last := p_cat (p_var (p := SsP [wd0, wd0 ++ "  " ++ wd0, " " ++ wd0, Txt.upper wd0, y, cutS wd0 none (some 3) ++ y, "", "x", "y", "xy", "ab" ++ y]) (i := 7) (σ := [some (.ref d), some (.str EVT), some (.str sg), some (.int (mn : Nat)), some (.str wd0), none, some (.str y), some z]) rfl hz) (p_ss (ys := [wd0 ++ " " ++ wd0, wd0 ++ " "]) (q_cons (p_ev (ev_catS (ev_catS W ev_c (by omega)) W (by rw [Nd.len_cat]; omega))) (q_cons (p_ev (ev_catS W ev_c (by omega))) q_nil)) (by show 2 ≤ 100000; decide)) (by show 11 + 2 ≤ 100000; decide)
  rw [← List.map_append] at last
  refine My.ps_ret k6.e last fun v B7 H7 g7 hp => q _ v B7 H7 (fun x hx => ?_) (by show 13 ≤ 20; decide) ((k6.gr g7).le (by omega)) (G5.trans ((GX.gr g6).trans (GX.gr g7))) hp
  simp only [List.mem_append, List.mem_cons, List.not_mem_nil, or_false] at hx
  rcases hx with (rfl | rfl | rfl | rfl | rfl | rfl | rfl | rfl | rfl | rfl | rfl) | rfl | rfl <;> first | omega | (simp only [Nd.len_cat]; omega)

end
end K12
namespace Nd
set_option autoImplicit false
open PySem PySem.Spec PySem.W PySem.Calls PyProof.Rows L2 My Evl LamX NdefX
/-! ### texts joined and split again -/
def jl (c : Nat) : List (List Nat) → List Nat
  | [] => []
  | [x] => x
  | x :: y :: r => x ++ c :: jl c (y :: r)
theorem app_free {c : Nat} : ∀ {x y u v : List Nat}, c ∉ x → c ∉ y → x ++ c :: u = y ++ c :: v → x = y ∧ u = v
  | [], [], _, _, _, _, h => ⟨rfl, (List.cons.inj h).2⟩
  | [], b :: y, _, _, _, hy, h => absurd (List.mem_cons.mpr (.inl (List.cons.inj h).1)) hy
  | a :: x, [], _, _, hx, _, h => absurd (List.mem_cons.mpr (.inl (List.cons.inj h).1.symm)) hx
  | a :: x, b :: y, _, _, hx, hy, h => by
    obtain ⟨h1, h2⟩ := List.cons.inj h
    obtain ⟨h3, h4⟩ := app_free (fun m => hx (List.mem_cons_of_mem _ m)) (fun m => hy (List.mem_cons_of_mem _ m)) h2
    exact ⟨by rw [h1, h3], h4⟩
theorem jl_inj {c : Nat} : ∀ {xs ys : List (List Nat)}, xs ≠ [] → ys ≠ [] → (∀ x ∈ xs, c ∉ x) → (∀ y ∈ ys, c ∉ y) → jl c xs = jl c ys → xs = ys
  | [], _, h, _, _, _, _ => absurd rfl h
  | _, [], _, h, _, _, _ => absurd rfl h
  | [x], [y], _, _, _, _, h => by rw [show x = y from h]
  | [x], y :: z :: r, _, _, hx, _, h => absurd (by rw [show x = y ++ c :: jl c (z :: r) from h]; simp) (hx x List.mem_cons_self)
  | x :: z :: r, [y], _, _, _, hy, h => absurd (by rw [show y = x ++ c :: jl c (z :: r) from h.symm]; simp) (hy y List.mem_cons_self)
  | x :: z :: r, y :: w :: s, _, _, hx, hy, h => by
    obtain ⟨h1, h2⟩ := app_free (hx x List.mem_cons_self) (hy y List.mem_cons_self) (show x ++ c :: jl c (z :: r) = y ++ c :: jl c (w :: s) from h)
    rw [h1, jl_inj (List.cons_ne_nil _ _) (List.cons_ne_nil _ _) (fun a ha => hx a (List.mem_cons_of_mem _ ha)) (fun a ha => hy a (List.mem_cons_of_mem _ ha)) h2]
theorem join_jl (c : Nat) : ∀ ps : List Str, ((⟨#[c]⟩ : Str).join ps).cps.toList = jl c (ps.map fun p => p.cps.toList)
  | [] => rfl
  | [x] => rfl
  | x :: y :: r => by
    have ih := join_jl c (y :: r)
    show (x.cps ++ #[c] ++ ((⟨#[c]⟩ : Str).join (y :: r)).cps).toList = x.cps.toList ++ c :: jl c ((y :: r).map fun p => p.cps.toList)
    rw [← ih]
    simp
theorem split_ne (x y : Str) : Txt.split x y ≠ [] := by
  unfold Txt.split
  split
  · exact List.cons_ne_nil _ _
  · split
    · exact List.cons_ne_nil _ _
    · intro h
      have := length_partsBetween x (Builtin.Str.occurrences x y 0 x.length (x.length + 1)) y.length
      rw [h] at this
      cases this
theorem cps_inj {ps qs : List Str} (h : (ps.map fun p => p.cps.toList) = qs.map fun p => p.cps.toList) : ps = qs := by
  induction ps generalizing qs with
  | nil => cases qs with
    | nil => rfl
    | cons => cases h
  | cons p ps ih => cases qs with
    | nil => cases h
    | cons q qs =>
      obtain ⟨h1, h2⟩ := List.cons.inj h
      rw [ih h2]
      obtain ⟨a⟩ := p
      obtain ⟨b⟩ := q
      rw [show a = b from Array.toList_inj.mp h1]
theorem split_join {c : Nat} {ps : List Str} (h0 : ps ≠ []) (h : ∀ p ∈ ps, c ∉ p.cps.toList) : Txt.split (Txt.join ⟨#[c]⟩ ps) ⟨#[c]⟩ = ps := by
  have hj : Txt.join ⟨#[c]⟩ ps = (⟨#[c]⟩ : Str).join ps := StrLaws.glued_eq_join _ _
  have e := StrLaws.join_split (Txt.join ⟨#[c]⟩ ps) ⟨#[c]⟩
  have e2 : ((⟨#[c]⟩ : Str).join (Txt.split (Txt.join ⟨#[c]⟩ ps) ⟨#[c]⟩)).cps.toList = ((⟨#[c]⟩ : Str).join ps).cps.toList := by rw [e, hj]
  rw [join_jl, join_jl] at e2
  refine cps_inj (jl_inj (by simpa using split_ne _ _) (by simpa using h0) (fun x hx => ?_) (fun x hx => ?_) e2)
  · obtain ⟨p, hp, rfl⟩ := List.mem_map.mp hx
    exact StrLaws.split_free _ c p hp
  · obtain ⟨p, hp, rfl⟩ := List.mem_map.mp hx
    exact h p hp
def abs6 : List Str := List.replicate 6000 (Str.ofString "ab")
def row6 : Str := Txt.join (Str.ofString " ") abs6
theorem blank_eq : Str.ofString " " = ⟨#[32]⟩ := by decide +kernel
theorem row6_wd : wd row6 = abs6 := by
  unfold wd row6
  rw [blank_eq]
  refine split_join ?_ fun p hp => ?_
  · intro h
    have := congrArg List.length h
    unfold abs6 at this
    rw [List.length_replicate] at this
    cases this
  · rw [List.eq_of_mem_replicate hp]
    decide +kernel
theorem sum_rep (n m : Nat) : (List.replicate n m).sum = n * m := by
  induction n with
  | zero => simp
  | succ n ih => rw [List.replicate_succ, List.sum_cons, ih, Nat.succ_mul, Nat.add_comm]
theorem abs6_len : (abs6.map (·.length)).sum = 12000 ∧ abs6.length = 6000 := by
  unfold abs6
  rw [List.map_replicate, sum_rep, List.length_replicate, show (Str.ofString "ab").length = 2 from by decide +kernel]
  decide
theorem row6_len : row6.length ≤ 18000 := by
  unfold row6 Txt.join
  rw [StrLaws.glued_eq_join]
  refine Nat.le_trans (StrLaws.join_length_le _ _) ?_
  rw [abs6_len.1, abs6_len.2, show (Str.ofString " ").length = 1 from by decide +kernel]
  decide
theorem row6_p : wordsP row6 = SsP abs6 := by
  unfold wordsP
  rw [row6_wd, if_neg]
  intro h
  have : Str.ofString "" = Str.ofString "ab" := List.eq_of_mem_replicate h
  exact absurd this (by decide +kernel)
section
variable {K : PySem.W.Frag} {te ta tb : TE} {σ : L2.St} {B H : Hp}
theorem ev_joinS {z : Str} {ys : List Str} (hb : EvP tb σ B (SsP ys)) (hl : (ys.map (·.length)).sum + ys.length * z.length ≤ 16777216) : Ev (tM1 (fun x xs H Q => ∃ (a : Str) (p : Addr), ∃ ys : List Str, x = .str a ∧ xs = [.ref p] ∧ (SqL K H p (ys.map V.str) ∨ SqT K H p (ys.map V.str)) ∧ (ys.map (·.length)).sum + ys.length * a.length ≤ 16777216 ∧ Q (.str (Txt.join a ys)) H) (tC (.str z)) tb) σ B (.str (Txt.join z ys)) := fun H1 a Q k =>
  ⟨⟨z, rfl⟩, hb H1 a _ fun v B2 H2 g pv => by
    obtain ⟨l, xs, rfl, hx, al⟩ := pv
    obtain rfl := sstrs_v al
    exact ⟨z, l, ys, rfl, rfl, .inl (sq_of (g.c _ _ hx)), hl, k H2 g.a⟩⟩
theorem p_repS {z : Str} {n : Nat} (hl : n ≤ 100000) : EvP (tOp rRep (tLst (tCons (tC (.str z)) tNil)) (tC (.int (n : Nat)))) σ B (SsP (List.replicate n z)) := by
  have := p_rep (ps := [IsV (.str z)]) (n := n) (p_lst (t := tCons (tC (.str z)) tNil) (σ := σ) (B := B) (q_cons p_c q_nil) (by show 1 ≤ 100000; decide)) (p_c (v := .int (n : Nat))) (by omega) (by show 1 * n ≤ 100000; omega)
  have e : (List.replicate n [IsV (.str z)]).flatten = (List.replicate n z).map fun y => IsV (.str y) := by
    rw [List.map_replicate]
    clear this hl
    induction n with
    | zero => rfl
    | succ n ih => rw [List.replicate_succ, List.flatten_cons, ih, List.replicate_succ]; rfl
  rw [e] at this
  exact this
end
/-! ### what the law says of a fraction of drawn numbers -/
def dueFD (t b : Int) : PyData := if b = 0 then .list [.str "place", .str "ours", .str "value"] else frD (fr (Rat.divInt t b))
def ownB (t b : Int) : Bool := decide (0 < b) && PyData.eqv (dueFD t b) (.tuple [.int t, .int b])
theorem own_eq {t b p : Int} (hp : 1 ≤ p) : frB (.tuple [.int (t * p), .int (b * p)]) = (ownB t b && decide (p = 1)) := by
  have ef : frB (.tuple [.int (t * p), .int (b * p)]) = (true && (true && (true && (decide (0 < b * p) && decide (Nat.gcd (t * p).natAbs (b * p).natAbs = 1))))) := rfl
  rw [ef, Bool.true_and, Bool.true_and, Bool.true_and]
  unfold ownB
  by_cases hb : 0 < b
  · have h0 : b ≠ 0 := by omega
    have hbp : 0 < b * p := Int.mul_pos hb (by omega)
    have eq : PyData.eqv (dueFD t b) (.tuple [.int t, .int b]) = decide (Int.gcd t b = 1) := by
      unfold dueFD
      rw [if_neg h0, fr_lowest hb]
      show PyData.eqv (.tuple [.int (t / (Int.gcd t b : Int)), .int (b / (Int.gcd t b : Int))]) (.tuple [.int t, .int b]) = _
      have g0 : 0 < Int.gcd t b := Int.gcd_pos_of_ne_zero_right _ h0
      rw [Bool.eq_iff_iff]
      simp only [PyData.eqv, PyData.eqvAll, Bool.and_eq_true, beq_iff_eq, decide_eq_true_eq, Bool.and_true]
      constructor
      · rintro ⟨_, h⟩
        by_cases c : Int.gcd t b = 1
        · exact c
        · have := Int.ediv_lt_self_of_pos_of_ne_one hb (show ((Int.gcd t b : Nat) : Int) ≠ 1 by omega)
          omega
      · intro h
        rw [h]
        simp
    rw [eq, decide_eq_true hb, decide_eq_true hbp, Bool.true_and, Bool.true_and, Bool.eq_iff_iff, Bool.and_eq_true, decide_eq_true_eq, decide_eq_true_eq, decide_eq_true_eq, Int.natAbs_mul, Int.natAbs_mul, Nat.gcd_mul_right]
    show Int.gcd t b * p.natAbs = 1 ↔ _
    rw [show (Int.gcd t b * p.natAbs = 1) ↔ (Int.gcd t b = 1 ∧ p.natAbs = 1) from ⟨fun h => ⟨Nat.eq_one_of_mul_eq_one_right h, Nat.eq_one_of_mul_eq_one_left h⟩, fun h => by rw [h.1, h.2]⟩]
    constructor
    · rintro ⟨h1, h2⟩
      exact ⟨h1, by omega⟩
    · rintro ⟨h1, h2⟩
      exact ⟨h1, by omega⟩
  · have hbp : ¬ 0 < b * p := fun h => by
      have : b * p ≤ 0 := Int.mul_nonpos_of_nonpos_of_nonneg (by omega) (by omega)
      omega
    rw [decide_eq_false hb, decide_eq_false hbp]
    rfl
/-! ### the odd ones -/
def ODD : List PyData := [.none, .bool true, .str "5", .list [], .tuple [.int 0], .dict [], .list [.int 0, .int 1]]
def somes (d : PyData) : List PyData := [d, .tuple [d, .int 1], .tuple [.int 1, d], .tuple [.int 0, .int 1, .int 1], .tuple [.int 0, .int 2], .tuple [.int 0, .int 0], .tuple [.int 0, .int (-1)], .tuple [.int 2, .int 4], .tuple [.bool true, .int 1], .tuple [.int 0, .bool true]]
theorem odd_facts : ∀ d ∈ ODD, (wholeB d = false ∧ axB d = false ∧ nameB d = false ∧ amgB 0 9 d = false ∧ smB d = true) ∧ (d.showable = true ∧ d.depth ≤ 60 ∧ d.shown.length ≤ 1000000) := by decide +kernel
theorem odd_somes : ∀ d ∈ ODD, ∀ x ∈ somes d, frB x = false ∧ smB x = true := by decide +kernel
theorem fff : (PyData.list [.bool false, .bool false, .bool false]).shown = Str.ofString "[False, False, False]" ∧ (PyData.list [.bool false, .bool false, .bool false]).showable = true ∧ (PyData.list [.bool false, .bool false, .bool false]).depth ≤ 60 := by decide +kernel
end Nd
namespace K12
set_option autoImplicit false
open PySem PySem.Spec PySem.W PyProof.Rows L2 Evl My Nd LamX NdefX
/-- what is known ahead of a cell: the script, the cells -/
theorem c0_ex {K : PySem.W.Frag} {T : List (Addr × Str)} {H1 Hd : Hp} {a p3 d : Addr} {n : Nat} {xs ys : List V} (hS : SqL K H1 a xs) (h3 : H1 p3 = some (.lst ys)) (S : ∀ b o, H1 b = some o → Hd b = some o) (hd0 : H1 d = none) (Td : Tabs T Hd) (hDS : DSt Hd d n) :
    ∃ C0 : Hp, SqL K C0 a xs ∧ C0 p3 = some (.lst ys) ∧ Kx T d n C0 Hd := by
  refine ⟨fun b => if b = p3 ∨ b = a then (match H1 b with | some (.lst z) => some (.lst z) | some (.frz o (.lst z)) => some (.frz o (.lst z)) | _ => none) else none, ?_, ?_, ⟨fun b o e => ?_, fun b ps e => ?_, Td, ?_, hDS⟩⟩
  · rcases hS with (h | ⟨o, h⟩) | h
    · left; left
      show (if a = p3 ∨ a = a then _ else _) = _
      rw [if_pos (.inr rfl), h]
    · left; right
      refine ⟨o, ?_⟩
      show (if a = p3 ∨ a = a then _ else _) = _
      rw [if_pos (.inr rfl), h]
    · right
      exact h
  · show (if p3 = p3 ∨ p3 = a then _ else _) = _
    rw [if_pos (.inl rfl), h3]
  · have e : (if b = p3 ∨ b = a then (match H1 b with | some (.lst z) => some (HO.lst z) | some (.frz o (.lst z)) => some (.frz o (.lst z)) | _ => none) else none) = some o := e
    split at e
    · refine S b o ?_
      split at e
      · rename_i h; rw [h]; exact e
      · rename_i h; rw [h]; exact e
      · cases e
    · cases e
  · have e : (if b = p3 ∨ b = a then (match H1 b with | some (.lst z) => some (HO.lst z) | some (.frz o (.lst z)) => some (.frz o (.lst z)) | _ => none) else none) = some (.tbl ps) := e
    split at e
    · split at e <;> cases e
    · cases e
  · show (if d = p3 ∨ d = a then _ else _) = _
    rw [hd0]
    split <;> rfl
end K12
namespace Nd
set_option autoImplicit false
open PySem PySem.Spec PySem.W PyProof.Rows L2 My Evl LamX NdefX
def rNotBl : R2 := fun x y H Q => ∃ b, y = V.bl b ∧ Q (.bl (!decide (x = V.bl b))) H
theorem op_notBlo {X : Cx} : OpR X (compareOp .IsNot) rNotBl := by
  intro pins s σ H x y v u Q I rx ry h
  obtain ⟨b, rfl, q⟩ := h
  cases (show u = Value.bool b from ry)
  have key : plainIs v (.bool b) = true ∧ (v == Value.bool b) = decide (x = V.bl b) := by
    cases x <;> first
      | (cases rx; exact ⟨rfl, rfl⟩)
      | (obtain ⟨t, rfl⟩ := rx; exact ⟨rfl, rfl⟩)
      | (rename_i c; cases (show v = Value.bool c from rx); cases c <;> cases b <;> exact ⟨rfl, rfl⟩)
  exact wpAny_isNot_plain key.1 (fin_bl I q (by rw [key.2]))
theorem ev_notB {te : TE} {σ : L2.St} {B : Hp} {b c : Bool} (h : Ev te σ B (.bl b)) : Ev (tOp rNotBl te (tC (.bl c))) σ B (.bl (!decide (b = c))) := fun H1 a Q k =>
  h H1 a _ fun H2 e => ⟨c, rfl, by
    rw [show decide (V.bl b = V.bl c) = decide (b = c) from decide_eq_decide.mpr ⟨fun z => by cases z; rfl, fun z => by rw [z]⟩]
    exact k H2 e⟩
section
variable {K : PySem.W.Frag} {te ta tb : TE} {σ : L2.St} {B H : Hp}
theorem p_cv0 {p : Pr} {v : V} (h : p.P v B) : EvP (tC v) σ B p := fun H1 a Q k => k v B H1 (Gr.refl a) h
theorem p_dnewE : EvP tDNewK σ B (IsE K (.dict [])) := fun H1 e Q k p hp => k _ _ _ (Gr.new (.dK []) e hp) (De.dct upd_same)
theorem p_tuE0 {ds : List PyData} (h : EvP te σ B (TuP K (ds.map (IsE K)))) : EvP te σ B (IsE K (.tuple ds)) := h.imp fun v B1 _ x => e_tu x
theorem e_int {i : Int} : EvP (tC (.int i)) σ B (IsE K (.int i)) := p_dE (p_to p_c to_int)
theorem e_bl {b : Bool} : EvP (tC (.bl b)) σ B (IsE K (.bool b)) := p_dE (p_to p_c to_bl)
theorem ev_sum {i : Nat} {a : Addr} {ns : List Int} (hi : σ[i]? = some (some (.ref a))) (h : SqL K B a (ns.map V.int)) : Ev (tCB (rSum K) (tCons (tVar i) tNil)) σ B (.int ns.sum) := fun H1 e Q k => ⟨_, hi, a, ns, rfl, ex_l e h, k H1 (Ex.refl H1)⟩
theorem ev_absI {i : Int} (h : Ev te σ B (.int i)) : Ev (tCB (fun xs H Q => ∃ i, xs = [V.int i] ∧ Q (.int (if i < 0 then -i else i)) H) (tCons te tNil)) σ B (.int (if i < 0 then -i else i)) := fun H1 e Q k => h H1 e _ fun H2 e2 => ⟨i, rfl, k H2 e2⟩
theorem p_call1D {p : Pr} {R : List Pr → Out → Prop} {t : Int} (h : Ev te σ B (.int t)) (hr : R [IsV (.int t), IsV (.int 1)] (.ret p)) : EvP (tCall (spO R) [V.int 1] E0 (tCons te tNil)) σ B p := fun H1 a Q k =>
  h H1 a _ fun H2 e2 => ⟨B, [IsV (.int t), IsV (.int 1)], .ret p, a.trans e2, ⟨rfl, rfl, trivial⟩, hr, fun v B3 H3 g hp => k v B3 H3 ((Gr.wide a e2).trans g) hp⟩
end
theorem sh_due0 (t b : Int) : SeqAt.shaped (dueFD t b) = true := by
  unfold dueFD
  split
  · decide +kernel
  · unfold SeqAt.shaped
    simp [frD, PyData.canLay0, PyData.canLayAll0, PyData.depth, PyData.depthAll]
theorem sh_two (t b : Int) : SeqAt.shaped (.tuple [.int t, .int b]) = true := by
  unfold SeqAt.shaped
  simp [PyData.canLay0, PyData.canLayAll0, PyData.depth, PyData.depthAll]
theorem fr_int1 (t : Int) : frD (fr (Rat.divInt t 1)) = .tuple [.int t, .int 1] := by
  rw [fr_lowest (by decide)]
  show PyData.tuple [.int (t / (Int.gcd t 1 : Int)), .int (1 / (Int.gcd t 1 : Int))] = _
  rw [Int.gcd_one_right]
  simp
theorem bl_sh : ∀ b : Bool, (PyData.bool b).showable = true ∧ (PyData.bool b).depth ≤ 60 ∧ (PyData.bool b).shown.length ≤ 1000000 := by decide +kernel
theorem ttf : SeqAt.shaped (.list [.bool true, .bool true, .bool false]) = true ∧ SeqAt.shaped (.list [.tuple [.int 0, .int 1], .tuple [.int 1, .int 1], .tuple [.str "x", .str "y"]]) = true ∧ SeqAt.shaped (.list [.list [.str "place", .str "ours", .str "value"], .list [.str "place", .str "ours", .str "value"]]) = true := by decide +kernel
end Nd
namespace K12
set_option autoImplicit false
open PySem PySem.Spec PySem.W PyProof.Rows L2 Evl My Nd LamX NdefX
section
variable {T : List (Addr × Str)} {d : Addr} {n : Nat} {B H : Hp} {K : PySem.W.Frag}
theorem x_pickP {ps : List Pr} {ta : TA} {σ : L2.St} {i : Nat} {z : Int} {Q : VK} (k : Kx T d n B H) (hl : EvPs ta σ B ps) (hi : σ[i]? = some (some (.ref d))) (hz : z = (ps.length : Nat)) (h0 : 0 < ps.length) (h1 : ps.length < 1000) (hn : n ≤ 2 ^ 38)
    (q : ∀ (j : Nat) p v B' H', ps[j]? = some p → Kx T d (n + 4) B' H' → GX d B H B' H' → p.P v B' → Q v H') : tOp (rIxL K) (tLst ta) (tCall spDigitW [] E0 (tCons (tVar i) (tCons (tC (.int z)) tNil))) σ H Q := by
  subst hz
  refine p_lst hl (by omega) H k.e _ fun v B1 H1 g hv => ?_
  refine x_digit (k.gr g) hi ev_c (by omega) (by omega) (by omega) fun m H2 m0 m1 k2 g2 => ?_
  obtain ⟨l, xs, rfl, hx, al⟩ := hv
  obtain ⟨j, p, w, hj, rfl, hp, hat, hw⟩ := pick al m0 m1
  exact ⟨l, xs, _, _, rfl, rfl, sq_of (k2.e _ _ hx), hat, q j p w B1 H2 hp k2 ((GX.gr g).trans g2) hw⟩
end
theorem b_ifNotB {te : TE} {t u : TS} {D : Ends} {σ : L2.St} {H : Hp} (h : te σ H fun v H1 => ∃ b, v = V.bl b ∧ (if (!b) = true then t D σ H1 else u D σ H1)) : tIfS (tNot (tB te)) t u D σ H := h
theorem b_lcS {K : PySem.W.Frag} {te ts : TE} {g : TG} {tt : TT} {vs : List Nat} {σ : L2.St} {H : Hp} {Q : VK} (h : ts σ H fun v H1 => tLc (iList K (tC v)) g tt te vs σ H1 Q) : tLc (iList K ts) g tt te vs σ H Q := h
theorem b_par3 {i j l : Nat} {t : TA} {D : Ends} {σ : L2.St} {H : Hp} (h : t σ H fun vs H1 => ∃ u v w, vs = [u, v, w] ∧ D.nx (((σ.set i (some u)).set j (some v)).set l (some w)) H1) : tPar3 i j l t D σ H := h
theorem d_lst3 {K : PySem.W.Frag} {ta tb tc : TE} {σ : L2.St} {B : Hp} {x y z : PyData} (h1 : EvP ta σ B (IsD K x)) (h2 : EvP tb σ B (IsD K y)) (h3 : EvP tc σ B (IsD K z)) : EvP (tLst (tCons ta (tCons tb (tCons tc tNil)))) σ B (IsD K (.list [x, y, z])) := p_to (p_lst (q_cons h1 (q_cons h2 (q_cons h3 q_nil))) (by show 3 ≤ 100000; decide)) (to_lst (.cons to_d (.cons to_d (.cons to_d .nil))))
def spLaw (K : PySem.W.Frag) (T : List (Addr × Str)) : Sp := fun vs H Q _ => ∃ (a : Addr) (ns : List Int), vs = [.ref a] ∧ SqL K H a (ns.map V.int) ∧ ns.length ≤ 63 ∧ Tabs T H ∧ ∀ H', Q (.bl true) H'
section
variable {P : Program} {w : World} {K : PySem.W.Frag} {mg : Str → Option Value} {base : Heap} {T : List (Addr × Str)}

/-- law -/
abbrev s_law : Stmt := topS 53
abbrev N_law : List Str := ["_law_script", "_law_k", "_law_cell", "_law_state", "_law_one", "_law_turn", "_law_top", "_law_bottom", "_law_part", "_law_due", "_law_own", "_law_odd", "_law_kept", "_law_some", "_law_thing", "_law_great"]
theorem sc_law : FnScope N_law ["_law_script"] (defScope s_law) := ⟨rfl, rfl, rfl, by decide +kernel, rfl, by decide +kernel, by decide +kernel⟩
theorem ok_law {f : Addr} {fd : FuncData} (F : Fun K "law" "law" s_law f fd) {cx : Nat → Addr} {f_Ldraw : Addr} {d_Ldraw : FuncData} (c_Ldraw : Cal P w K mg base "_law_draw" 1 ["_law_cell", "_law_k"] spDraw f_Ldraw d_Ldraw) {f_Ltexts : Addr} {d_Ltexts : FuncData} (c_Ltexts : Cal P w K mg base "_law_texts" 3 ["_law_state"] (spTx K T) f_Ltexts d_Ltexts) {f_Lfraction : Addr} {d_Lfraction : FuncData} (c_Lfraction : Cal P w K mg base "_law_fraction" 3 ["_law_state"] (spFr K T) f_Lfraction d_Lfraction) {f_Lreckoned_right : Addr} {d_Lreckoned_right : FuncData} (c_Lreckoned_right : Cal P w K mg base "_law_reckoned_right" 6 ["_law_one", "_law_other"] (spP (Rrr K)) f_Lreckoned_right d_Lreckoned_right) {f_Ldigit : Addr} {d_Ldigit : FuncData} (c_Ldigit : Cal P w K mg base "_law_digit" 2 ["_law_state", "_law_many"] spDigitW f_Ldigit d_Ldigit) {f_Llowest : Addr} {d_Llowest : FuncData} (c_Llowest : Cal P w K mg base "_law_lowest" 1 ["_law_top", "_law_bottom"] (spP (Rlow2 K)) f_Llowest d_Llowest) {f_Ltold : Addr} {d_Ltold : FuncData} (c_Ltold : Cal P w K mg base "_law_told" 5 ["_law_way", "_law_one", "_law_other"] (spP (Rtl K (cx 13))) f_Ltold d_Ltold) {f_fraction : Addr} {d_fraction : FuncData} (c_fraction : CalX P w K mg base "fraction" 3 ["top", "bottom"] (spO (RfrO K (cx 13))) f_fraction d_fraction) {f_is_fraction : Addr} {d_is_fraction : FuncData} (c_is_fraction : Cal P w K mg base "is_fraction" 3 ["thing"] (spP (RBE K frB)) f_is_fraction d_is_fraction) {f_is_whole : Addr} {d_is_whole : FuncData} (c_is_whole : Cal P w K mg base "is_whole" 2 ["thing"] (spP (RBE K wholeB)) f_is_whole d_is_whole) {f_is_axis : Addr} {d_is_axis : FuncData} (c_is_axis : Cal P w K mg base "is_axis" 1 ["thing"] (spP (RBE K axB)) f_is_axis d_is_axis) {f_is_among : Addr} {d_is_among : FuncData} (c_is_among : Cal P w K mg base "is_among" 3 ["thing", "least", "most"] (spP (RamgE K)) f_is_among d_is_among) {f_is_name : Addr} {d_is_name : FuncData} (c_is_name : Cal P w K mg base "is_name" 2 ["thing"] (spP (RBE K nameB)) f_is_name d_is_name) {f_words_of : Addr} {d_words_of : FuncData} (c_words_of : Cal P w K mg base "words_of" 1 ["row"] (spP (Rwo K)) f_words_of d_words_of) (n_enumerate : mg "enumerate" = none) (n_sum : mg "sum" = none) (n_repr : mg "repr" = none) (n_range : mg "range" = none) (n_abs : mg "abs" = none) {f_Lword_right : Addr} {d_Lword_right : FuncData} (c_Lword_right : Gd.CalG P w K mg base "_law_word_right" 5 ["_law_word"] (spP (Rwr K)) f_Lword_right d_Lword_right) (hSy : SysK K) {dsF : List Value} (bdF : L2.Binds K d_fraction ["top", "bottom"] dsF) (vdF : Vals [V.int 1] dsF) {aN aO aA : Addr} (g_NOUGHT : mg "NOUGHT" = some (.ref aN)) (v_NOUGHT : ∀ H, Dp K H (.ref aN) (.tuple [.int 0, .int 1])) (g_ONE : mg "ONE" = some (.ref aO)) (v_ONE : ∀ H, Dp K H (.ref aO) (.tuple [.int 1, .int 1])) (g_AXES : mg "AXES" = some (.ref aA)) (v_AXES : ∀ H, Dp K H (.ref aA) (.tuple [.str "x", .str "y"])) :
    Gd.FnG P w K mg base 8 f fd ["_law_script"] (spLaw K T) := by
  refine Gd.okG F sc_law (fun vs H Q E h => by obtain ⟨a, ns, rfl, _⟩ := h; rfl) (fun cdv A outer s H vs Q E hr hG h => ?_)
  obtain ⟨a, ns, rfl, hSq, hlen, hTb, q⟩ := h
  have hu := hu_of hr
  refine ⟨_, (pss_cons (ps_for PassesOwn.never rfl (pi_enum (by rfl) n_enumerate (pa_cons (pe_op op_cat (pe_slice sl_list (pv 0) po_none (po_some pe_int)) (pe_lst (pa_cons (pe_callB (cr_sum rfl) (by rfl) n_sum (by decide +kernel) (pa_cons (pv 0) pa_nil)) pa_nil))) pa_nil)) (pg_tup (by rfl) (pgs_cons (pg_name (i := 1) sc_law.nd rfl (by first | exact .inl rfl | exact .inr rfl)) (pgs_cons (pg_name (i := 2) sc_law.nd rfl (by first | exact .inl rfl | exact .inr rfl)) pgs_nil)))
      (pss_cons (ps_set (i := 3) sc_law.nd rfl (by first | exact .inl rfl | exact .inr rfl) (pe_call c_Ldraw.G (hr.mono (by decide)) (by rfl) c_Ldraw.m c_Ldraw.k c_Ldraw.b .nil pass0 (pa_cons (pv 2) (pa_cons (pv 1) pa_nil))))
    (pss_cons (ps_if (pt_cmpR (show OpR _ (compareOp .NotEq) (rNeNil K) from op_neNil hr.units) (pe_lc (own := [("_law_one", 4)]) rfl sc_law.nd (pi_list (pe_call c_Ltexts.G (hr.mono (by decide)) (by rfl) c_Ltexts.m c_Ltexts.k c_Ltexts.b .nil pass0 (pa_cons (pv 3) pa_nil))) (blkOk_by (N := N_law) (sc := defScope s_law) (by decide +kernel)) (fun _ _ _ _ _ => (pg_name (i := 4) sc_law.nd rfl (Or.inl rfl))) (fun _ _ _ _ _ => (pts_one (pt_not (pt_val (Gd.pe_callG c_Lword_right.G (hr.mono (by decide)) hG (by rfl) c_Lword_right.m c_Lword_right.k c_Lword_right.b .nil pass0 (pa_cons (pv 4) pa_nil)))))) (fun _ _ _ _ _ => (pv 4))) (pe_lst pa_nil) (nomark _)) (pss_one (ps_ret pe_bl)) pss_nil)
    (pss_cons (ps_for PassesOwn.never rfl (pi_range1 (by rfl) n_range (pa_cons pe_int pa_nil)) (pg_name (i := 5) sc_law.nd rfl (by first | exact .inl rfl | exact .inr rfl))
      (pss_one (ps_if (pt_not (pt_val (pe_call c_Lreckoned_right.G (hr.mono (by decide)) (by rfl) c_Lreckoned_right.m c_Lreckoned_right.k c_Lreckoned_right.b .nil pass0 (pa_cons (pe_call c_Lfraction.G (hr.mono (by decide)) (by rfl) c_Lfraction.m c_Lfraction.k c_Lfraction.b .nil pass0 (pa_cons (pv 3) pa_nil)) (pa_cons (pe_call c_Lfraction.G (hr.mono (by decide)) (by rfl) c_Lfraction.m c_Lfraction.k c_Lfraction.b .nil pass0 (pa_cons (pv 3) pa_nil)) pa_nil))))) (pss_one (ps_ret pe_bl)) pss_nil)))
    (pss_cons (ps_par3 (i := 6) (j := 7) (l := 8) rfl sc_law.nd rfl rfl rfl (by decide) (by decide) (by decide) rfl rfl rfl (pa_cons (pe_op op_sub (pe_call c_Ldigit.G (hr.mono (by decide)) (by rfl) c_Ldigit.m c_Ldigit.k c_Ldigit.b .nil pass0 (pa_cons (pv 3) (pa_cons pe_int pa_nil))) pe_int) (pa_cons (pe_op op_sub (pe_call c_Ldigit.G (hr.mono (by decide)) (by rfl) c_Ldigit.m c_Ldigit.k c_Ldigit.b .nil pass0 (pa_cons (pv 3) (pa_cons pe_int pa_nil))) pe_int) (pa_cons (pe_op op_add pe_int (pe_call c_Ldigit.G (hr.mono (by decide)) (by rfl) c_Ldigit.m c_Ldigit.k c_Ldigit.b .nil pass0 (pa_cons (pv 3) (pa_cons pe_int pa_nil)))) pa_nil))) (by rfl))
    (pss_cons (ps_set (i := 9) sc_law.nd rfl (by first | exact .inl rfl | exact .inr rfl) (pe_ifExp (pt_cmpR op_eq (pv 7) pe_int (nomark _)) (pe_lst (pa_cons pe_str (pa_cons pe_str (pa_cons pe_str pa_nil)))) (pe_call c_Llowest.G (hr.mono (by decide)) (by rfl) c_Llowest.m c_Llowest.k c_Llowest.b .nil pass0 (pa_cons (pv 6) (pa_cons (pv 7) pa_nil)))))
    (pss_cons (ps_set (i := 10) sc_law.nd rfl (by first | exact .inl rfl | exact .inr rfl) (pe_and (pe_cmpR op_gt (pv 7) pe_int (nomark _)) (pe_one (pe_cmpR (show OpR _ (compareOp .Eq) (rEqD K) from op_eqD hr.units) (pv 9) (pe_tup (pa_cons (pv 6) (pa_cons (pv 7) pa_nil))) (nomark _)))))
    (pss_cons (ps_if (PW.pt (pw_or (pt_cmpR (show OpR _ (compareOp .NotEq) (rNeD K) from op_neD hr.units) (pe_call c_Ltold.G (hr.mono (by decide)) (by rfl) c_Ltold.m c_Ltold.k c_Ltold.b .nil pass0 (pa_cons pe_int (pa_cons (pe_op op_mulW (pv 6) (pv 8)) (pa_cons (pe_op op_mulW (pv 7) (pv 8)) pa_nil)))) (pv 9) (nomark _)) (pw_or1 (pt_cmpR (show OpR _ (compareOp .NotEq) (rNeD K) from op_neD hr.units) (pe_call c_fraction.G (hr.mono (by decide)) (by rfl) c_fraction.m c_fraction.k bdF vdF L2.passL (pa_cons (pv 6) pa_nil)) (pe_tup (pa_cons (pv 6) (pa_cons pe_int pa_nil))) (nomark _))))) (pss_one (ps_ret pe_bl)) pss_nil)
    (pss_cons (ps_if (pt_cmpR op_ne (pe_callB (call_reprE hG hr.units hSy) (by rfl) n_repr (by decide +kernel) (pa_cons (pe_call c_is_fraction.G (hr.mono (by decide)) (by rfl) c_is_fraction.m c_is_fraction.k c_is_fraction.b .nil pass0 (pa_cons (pe_tup (pa_cons (pe_op op_mulW (pv 6) (pv 8)) (pa_cons (pe_op op_mulW (pv 7) (pv 8)) pa_nil))) pa_nil)) pa_nil)) (pe_callB (call_reprE hG hr.units hSy) (by rfl) n_repr (by decide +kernel) (pa_cons (pe_and (pv 10) (pe_one (pe_cmpR op_eq (pv 8) pe_int (nomark _)))) pa_nil)) (nomark _)) (pss_one (ps_ret pe_bl)) pss_nil)
    (pss_cons (ps_set (i := 11) sc_law.nd rfl (by first | exact .inl rfl | exact .inr rfl) (pe_ix ix_list (pe_lst (pa_cons pe_non (pa_cons pe_bl (pa_cons pe_str (pa_cons (pe_lst pa_nil) (pa_cons (pe_tup (pa_cons pe_int pa_nil)) (pa_cons pe_dnewK (pa_cons (pe_lst (pa_cons pe_int (pa_cons pe_int pa_nil))) pa_nil)))))))) (pe_call c_Ldigit.G (hr.mono (by decide)) (by rfl) c_Ldigit.m c_Ldigit.k c_Ldigit.b .nil pass0 (pa_cons (pv 3) (pa_cons pe_int pa_nil))) (fun _ _ => rfl)))
    (pss_cons (ps_set (i := 12) sc_law.nd rfl (by first | exact .inl rfl | exact .inr rfl) (pe_callB (call_reprE hG hr.units hSy) (by rfl) n_repr (by decide +kernel) (pa_cons (pv 11) pa_nil)))
    (pss_cons (ps_set (i := 13) sc_law.nd rfl (by first | exact .inl rfl | exact .inr rfl) (pe_lst (pa_cons (pv 11) (pa_cons (pe_tup (pa_cons (pv 11) (pa_cons pe_int pa_nil))) (pa_cons (pe_tup (pa_cons pe_int (pa_cons (pv 11) pa_nil))) (pa_cons (pe_tup (pa_cons pe_int (pa_cons pe_int (pa_cons pe_int pa_nil)))) (pa_cons (pe_tup (pa_cons pe_int (pa_cons pe_int pa_nil))) (pa_cons (pe_tup (pa_cons pe_int (pa_cons pe_int pa_nil))) (pa_cons (pe_tup (pa_cons pe_int (pa_cons (pe_un un_neg pe_int) pa_nil))) (pa_cons (pe_tup (pa_cons pe_int (pa_cons pe_int pa_nil))) (pa_cons (pe_tup (pa_cons pe_bl (pa_cons pe_int pa_nil))) (pa_cons (pe_tup (pa_cons pe_int (pa_cons pe_bl pa_nil))) pa_nil))))))))))))
    (pss_cons (ps_if (PW.pt (pw_or (pt_cmpR (show OpR _ (compareOp .NotEq) (rNeNil K) from op_neNil hr.units) (pe_lc (own := [("_law_thing", 14)]) rfl sc_law.nd (pi_list (pv 13)) (blkOk_by (N := N_law) (sc := defScope s_law) (by decide +kernel)) (fun _ _ _ _ _ => (pg_name (i := 14) sc_law.nd rfl (Or.inl rfl))) (fun _ _ _ _ _ => (pts_one (pt_cmpR op_notBlo (pe_call c_is_fraction.G (hr.mono (by decide)) (by rfl) c_is_fraction.m c_is_fraction.k c_is_fraction.b .nil pass0 (pa_cons (pv 14) pa_nil)) pe_bl (nomark _)))) (fun _ _ _ _ _ => (pv 14))) (pe_lst pa_nil) (nomark _)) (pw_or1 (pt_cmpR op_notBlo (pe_call c_is_whole.G (hr.mono (by decide)) (by rfl) c_is_whole.m c_is_whole.k c_is_whole.b .nil pass0 (pa_cons (pv 11) pa_nil)) pe_bl (nomark _))))) (pss_one (ps_ret pe_bl)) pss_nil)
    (pss_cons (ps_if (PW.pt (pw_or (pt_cmpR (show OpR _ (compareOp .NotEq) (rNeD K) from op_neD hr.units) (pe_lst (pa_cons (pe_call c_Ltold.G (hr.mono (by decide)) (by rfl) c_Ltold.m c_Ltold.k c_Ltold.b .nil pass0 (pa_cons pe_int (pa_cons (pv 11) (pa_cons pe_int pa_nil)))) (pa_cons (pe_call c_Ltold.G (hr.mono (by decide)) (by rfl) c_Ltold.m c_Ltold.k c_Ltold.b .nil pass0 (pa_cons pe_int (pa_cons pe_int (pa_cons (pv 11) pa_nil)))) pa_nil))) (pe_op op_rep (pe_lst (pa_cons (pe_lst (pa_cons pe_str (pa_cons pe_str (pa_cons pe_str pa_nil)))) pa_nil)) pe_int) (nomark _)) (pw_or1 (pt_cmpR op_ne (pe_callB (call_reprE hG hr.units hSy) (by rfl) n_repr (by decide +kernel) (pa_cons (pv 11) pa_nil)) (pv 12) (nomark _))))) (pss_one (ps_ret pe_bl)) pss_nil)
    (pss_one (ps_if (pt_cmpR op_ne (pe_callB (call_reprE hG hr.units hSy) (by rfl) n_repr (by decide +kernel) (pa_cons (pe_lst (pa_cons (pe_call c_is_axis.G (hr.mono (by decide)) (by rfl) c_is_axis.m c_is_axis.k c_is_axis.b .nil pass0 (pa_cons (pv 11) pa_nil)) (pa_cons (pe_call c_is_among.G (hr.mono (by decide)) (by rfl) c_is_among.m c_is_among.k c_is_among.b .nil pass0 (pa_cons (pv 11) (pa_cons pe_int (pa_cons pe_int pa_nil)))) (pa_cons (pe_call c_is_name.G (hr.mono (by decide)) (by rfl) c_is_name.m c_is_name.k c_is_name.b .nil pass0 (pa_cons (pv 11) pa_nil)) pa_nil)))) pa_nil)) pe_str (nomark _)) (pss_one (ps_ret pe_bl)) pss_nil))))))))))))))))
    (pss_cons (ps_set (i := 15) sc_law.nd rfl (by first | exact .inl rfl | exact .inr rfl) (pe_op op_add (pe_op op_pow pe_int pe_int) (pe_op op_mod (pe_callB call_abs (by rfl) n_abs (by decide +kernel) (pa_cons (pe_callB (cr_sum rfl) (by rfl) n_sum (by decide +kernel) (pa_cons (pv 0) pa_nil)) pa_nil)) (pe_op op_pow pe_int pe_int))))
    (pss_cons (ps_if (pt_cmpR (show OpR _ (compareOp .NotEq) (rNeD K) from op_neD hr.units) (pe_lst (pa_cons (pe_call c_is_whole.G (hr.mono (by decide)) (by rfl) c_is_whole.m c_is_whole.k c_is_whole.b .nil pass0 (pa_cons (pv 15) pa_nil)) (pa_cons (pe_call c_is_among.G (hr.mono (by decide)) (by rfl) c_is_among.m c_is_among.k c_is_among.b .nil pass0 (pa_cons (pv 15) (pa_cons pe_int (pa_cons (pv 15) pa_nil)))) (pa_cons (pe_call c_is_among.G (hr.mono (by decide)) (by rfl) c_is_among.m c_is_among.k c_is_among.b .nil pass0 (pa_cons (pv 15) (pa_cons pe_int (pa_cons (pe_op op_sub (pv 15) pe_int) pa_nil)))) pa_nil)))) (pe_lst (pa_cons pe_bl (pa_cons pe_bl (pa_cons pe_bl pa_nil)))) (nomark _)) (pss_one (ps_ret pe_bl)) pss_nil)
    (pss_one (ps_ret (pe_and (pe_cmpR (show OpR _ (compareOp .Eq) (rEqD K) from op_eqD hr.units) (pe_lst (pa_cons (pe_glob (by rfl) (v := .ref aN) g_NOUGHT rfl) (pa_cons (pe_glob (by rfl) (v := .ref aO) g_ONE rfl) (pa_cons (pe_glob (by rfl) (v := .ref aA) g_AXES rfl) pa_nil)))) (pe_lst (pa_cons (pe_tup (pa_cons pe_int (pa_cons pe_int pa_nil))) (pa_cons (pe_tup (pa_cons pe_int (pa_cons pe_int pa_nil))) (pa_cons (pe_tup (pa_cons pe_str (pa_cons pe_str pa_nil))) pa_nil)))) (nomark _)) (pe_one (pe_cmpR (show OpR _ (compareOp .Eq) (rEqS K) from op_eqS hr.units) (pe_call c_words_of.G (hr.mono (by decide)) (by rfl) c_words_of.m c_words_of.k c_words_of.b .nil pass0 (pa_cons (pe_join pe_str (pe_op op_rep (pe_lst (pa_cons pe_str pa_nil)) pe_int)) pa_nil)) (pe_op op_rep (pe_lst (pa_cons pe_str pa_nil)) pe_int) (nomark _))))))))), ?_⟩
  walk_at "go"
  refine ⟨a, _, rfl, hSq, fun p1 hp1 => ?_⟩
  walk_at "go"
  refine ⟨a, ns, rfl, (Same.seq (My.new hp1) hSq), ?_⟩
  refine ⟨by show 1 ≤ sizeLine; decide, fun p2 hp2 => ?_⟩
  have n12 : p1 ≠ p2 := ne_of_none upd_same hp2
  refine ⟨p1, p2, _, _, rfl, rfl, by rw [upd_ne n12]; exact upd_same, upd_same, ?_, fun p3 hp3 => ?_⟩
  · have := My.cutTo (ns.map V.int) 12
    rw [show (12 : Int) = ((12 : Nat) : Int) from rfl, this, List.length_take]
    exact sz_of (by simp only [List.length_singleton]; omega)
  rw [show (12 : Int) = ((12 : Nat) : Int) from rfl, My.cutTo, ← List.map_take, show [V.int ns.sum] = [ns.sum].map V.int from rfl, ← List.map_append] at *
  have hT3 := ((hTb.ext (Ex.new hp1)).ext (Ex.new hp2)).ext (Ex.new (o := .lst ((ns.take 12 ++ [ns.sum]).map V.int)) hp3)
  have hS3 : SqL K (upd (upd (upd H p1 _) p2 _) p3 (.lst ((ns.take 12 ++ [ns.sum]).map V.int))) a (ns.map V.int) := ex_l (((Ex.new hp1).trans (Ex.new hp2)).trans (Ex.new (o := .lst ((ns.take 12 ++ [ns.sum]).map V.int)) hp3)) hSq
  generalize hcs : ns.take 12 ++ [ns.sum] = cs at hT3 hS3
  have hcl : cs.length ≤ 13 := by
    rw [← hcs, List.length_append, List.length_take]
    simp only [List.length_singleton]
    omega
  refine ⟨p3, cs.map V.int, rfl, sq_of upd_same, for_it (walk_enum (K := K) (a := p3) (xs := cs.map V.int)) (fun i σ H' => Tabs T H' ∧ SqL K H' a (ns.map V.int) ∧ H' p3 = some (.lst (cs.map V.int)) ∧ ∃ x1 x2 x3 x4 x5 x6 x7 x8 x9 x10 x11 x12 x13 x14 x15 : Option V, σ = [some (.ref a), x1, x2, x3, x4, x5, x6, x7, x8, x9, x10, x11, x12, x13, x14, x15])
    ⟨hT3, hS3, upd_same, none, none, none, none, none, none, none, none, none, none, none, none, none, none, none, rfl⟩ (fun i σ H' _ h => sq_of h.2.2.1) ?_ ?_⟩
  rotate_left
  · rintro σ H1 ⟨t1, hs1, _, x1, x2, x3, x4, x5, x6, x7, x8, x9, x10, x11, x12, x13, x14, x15, rfl⟩
    dsimp only
    have en : Ex H1 H1 := Ex.refl H1
    refine ps_asgN (fun y => [some (.ref a), x1, x2, x3, x4, x5, x6, x7, x8, x9, x10, x11, x12, x13, x14, some y]) en (p_ev (ev_addI (ev_op ev_c ev_c (rv_I ⟨by decide, by decide, by decide⟩)) (ev_op (ev_absI (ev_sum (K := K) (i := 0) rfl hs1)) (ev_op ev_c ev_c (rv_I ⟨by decide, by decide, by decide⟩)) (rv_I (by decide))))) (fun y B2 H2 g2 hy => ?_) (fun _ => rfl)
    obtain ⟨gt, hgt⟩ : ∃ gt : Int, gt = (10 : Int) ^ (60 : Int).toNat := ⟨_, rfl⟩
    obtain ⟨gr, rfl, hg0⟩ : ∃ gr : Int, y = .int gr ∧ 0 ≤ gr := by
      refine ⟨_, hy, ?_⟩
      refine Int.add_nonneg (by decide) (Int.emod_nonneg _ (by decide))
    clear hy hgt
    dsimp only
    have whl : ∀ {σ : L2.St} {B : Hp}, σ[15]? = some (some (.int gr)) → EvP (tCall (spP (RBE K wholeB)) [] E0 (tCons (tVar 15) tNil)) σ B (IsV (.bl true)) := fun h => p_callP (R := RBE K wholeB) (ps := [IsV (.int gr)]) (q_cons (p_varV h) q_nil) ⟨_, .int gr, toE_of to_int, smd_int, rfl, rfl⟩
    have amg : ∀ {te : TE} {m : Int} {b : Bool}, Ev te [some (.ref a), x1, x2, x3, x4, x5, x6, x7, x8, x9, x10, x11, x12, x13, x14, some (.int gr)] B2 (.int m) → (decide (0 ≤ gr) && decide (gr ≤ m)) = b → EvP (tCall (spP (RamgE K)) [] E0 (tCons (tVar 15) (tCons (tC (.int 0)) (tCons te tNil)))) [some (.ref a), x1, x2, x3, x4, x5, x6, x7, x8, x9, x10, x11, x12, x13, x14, some (.int gr)] B2 (IsV (.bl b)) := fun {te m b} h e => p_callP (R := RamgE K) (ps := [IsV (.int gr), IsV (.int 0), IsV (.int m)]) (q_cons (p_varV rfl) (q_cons p_c (q_cons (p_ev h) q_nil))) ⟨_, .int gr, 0, m, toE_of to_int, smd_int, rfl, by
      show IsV (.bl b) = IsV (.bl (true && (decide (0 ≤ gr) && decide (gr ≤ m))))
      rw [e, Bool.true_and]⟩
    refine ps_ifN g2.c (et_ne (K := K) (d := .list [.bool true, .bool true, .bool false]) (p_to (p_lst (q_cons (whl rfl) (q_cons (amg (m := gr) (b := true) (ev_var rfl) (by rw [decide_eq_true hg0, decide_eq_true (Int.le_refl gr)]; rfl)) (q_cons (amg (m := gr - 1) (b := false) (ev_op (r := rI0 fun i j => .int (i - j)) (ev_var rfl) ev_c rv_I0) (by rw [decide_eq_false (show ¬ gr ≤ gr - 1 by omega), Bool.and_false])) q_nil))) (by show 3 ≤ 100000; decide)) (to_lst (.cons to_bl (.cons to_bl (.cons to_bl .nil))))) (p_to (p_lst (q_cons p_c (q_cons p_c (q_cons p_c q_nil))) (by show 3 ≤ 100000; decide)) (to_lst (.cons to_bl (.cons to_bl (.cons to_bl .nil))))) ttf.1) fun H3 e3 => ?_
    dsimp only
    have first := ev_eqD (K := K) (σ := [some (.ref a), x1, x2, x3, x4, x5, x6, x7, x8, x9, x10, x11, x12, x13, x14, some (.int gr)]) (B := B2) (d := .list [.tuple [.int 0, .int 1], .tuple [.int 1, .int 1], .tuple [.str "x", .str "y"]]) (e := .list [.tuple [.int 0, .int 1], .tuple [.int 1, .int 1], .tuple [.str "x", .str "y"]]) (d_lst3 (ed_ref (v_NOUGHT B2)) (ed_ref (v_ONE B2)) (ed_ref (v_AXES B2))) (p_to (p_lst (q_cons (p_tup (K := K) (q_cons p_c (q_cons p_c q_nil)) (by show 2 ≤ 100000; decide)) (q_cons (p_tup (K := K) (q_cons p_c (q_cons p_c q_nil)) (by show 2 ≤ 100000; decide)) (q_cons (p_tup (K := K) (q_cons p_c (q_cons p_c q_nil)) (by show 2 ≤ 100000; decide)) q_nil))) (by show 3 ≤ 100000; decide)) (to_lst (.cons (to_tup (.cons to_int (.cons to_int .nil))) (.cons (to_tup (.cons to_int (.cons to_int .nil))) (.cons (to_tup (.cons to_str (.cons to_str .nil))) .nil))))) ttf.2.1 ttf.2.1
    rw [SeqAt.eqv_refl _ (Bool.and_eq_true_iff.mp ttf.2.1).1] at first
    have r6 : EvP (tOp rRep (tLst (tCons (tC (.str "ab")) tNil)) (tC (.int 6000))) [some (.ref a), x1, x2, x3, x4, x5, x6, x7, x8, x9, x10, x11, x12, x13, x14, some (.int gr)] B2 (SsP abs6) := p_repS (n := 6000) (by decide)
    have j6 : (abs6.map (·.length)).sum + abs6.length * (Str.ofString " ").length ≤ 16777216 := by
      rw [abs6_len.1, abs6_len.2, show (Str.ofString " ").length = 1 from by decide +kernel]
      decide
    have w6 := p_callP (R := Rwo K) (p := wordsP row6) (ps := [IsV (.str row6)]) (q_cons (p_ev (v := .str row6) (ev_joinS (K := K) (z := Str.ofString " ") r6 j6)) q_nil) ⟨row6, Nat.le_trans row6_len (by decide), rfl, rfl⟩
    rw [row6_p] at w6
    refine My.ps_ret (g2.c.trans e3) (p_ev (ev_is (ev_andV (a := true) (b := true) first fun _ => ev_is (ev_eqS (K := K) w6 r6) (by simp)) rfl)) fun v B4 H4 g4 hp => ?_
    obtain rfl : v = .bl true := hp
    exact q H4
  rintro i v σ H1 H2 hi ⟨t1, hs1, h3, x1, x2, x3, x4, x5, x6, x7, x8, x9, x10, x11, x12, x13, x14, x15, rfl⟩ ⟨t, x, y, rfl, ht, rfl, hx, hy⟩
  obtain rfl := Option.some.inj hx
  rw [List.length_map] at hi
  obtain ⟨z, rfl⟩ : ∃ z : Int, y = V.int z := by
    have hy' : (cs.map V.int)[i]? = some y := hy
    rw [List.getElem?_map, List.getElem?_eq_getElem hi] at hy'
    exact ⟨_, (Option.some.inj hy').symm⟩
  have h3' : upd H1 t (HO.tup [V.int (i : Nat), V.int z]) p3 = some (.lst (cs.map V.int)) := by
    rw [upd_ne (ne_of_none h3 ht)]
    exact h3
  have T2 : Tabs T (upd H1 t (HO.tup [V.int (i : Nat), V.int z])) := t1.ext (Ex.new ht)
  have S2 : SqL K (upd H1 t (HO.tup [V.int (i : Nat), V.int z])) a (ns.map V.int) := ex_l (Ex.new ht) hs1
  refine ⟨t, _, rfl, st_of upd_same, rfl, _, _, rfl, _, _, rfl, rfl, ?_⟩
  generalize upd H1 t (HO.tup [V.int (i : Nat), V.int z]) = H2 at h3' T2 S2 ⊢
  walk_at "go"
  refine ⟨z, (i : Nat), rfl, by omega, by omega, fun d Hd hd0 hDS S => ?_⟩
  have hd3 := S _ _ h3'
  have nd3 : p3 ≠ d := ne_of_none h3' hd0
  have Td : Tabs T Hd := T2.ext S
  dsimp only [gName, List.set_cons_succ, List.set_cons_zero]
  obtain ⟨C0, hSC, cp, k0⟩ := c0_ex S2 h3' S hd0 Td hDS
  clear hd0 hDS S hd3 nd3
  -- the words
  refine b_seq (b_ifOp (b_lcS (c_call (b_cons ⟨_, rfl, b_nil ?_⟩))))
  refine ⟨C0, d, _, rfl, k0, by decide, fun xs v B1 H3 hxs hxl k1 g1 hv => ?_⟩
  have lc := p_lc (K := K) (ta := tC v) (te := tVar 4) (tt := tNot (tB (tCall (spP (Rwr K)) [] E0 (tCons (tVar 4) tNil)))) (vs := [4]) (g := gName 4) (σ := [some (.ref a), some (.int (i : Nat)), some (.int z), some (.ref d), x4, x5, x6, x7, x8, x9, x10, x11, x12, x13, x14, x15]) (B := B1) (ps := xs.map fun y => IsV (.str y)) (p_lq (p_cv0 (p := SsP xs) hv)) (by rw [List.length_map]; omega) (fun _ => false) (fun _ => IsV .non) fun j9 p9 v9 B5 hp e pv => by
      rw [List.getElem?_map] at hp
      obtain ⟨x, hx, rfl⟩ := Option.map_eq_some_iff.mp hp
      exact ⟨[some (.ref a), some (.int (i : Nat)), some (.int z), some (.ref d), some v9, x5, x6, x7, x8, x9, x10, x11, x12, x13, x14, x15], rfl, fun H2 Q e q => q, et_is (et_not (a := true) (et_B (ev_p (p_callP (R := Rwr K) (p := IsV (.bl true)) (ps := [IsV (.str x)]) (q_cons (p_var rfl pv) q_nil) ⟨x, hxs x (List.mem_of_getElem? hx), rfl, rfl⟩)))) rfl, fun z => nomatch z⟩
  have emp : ((List.range (xs.map fun y => IsV (.str y)).length).filter fun _ => false) = [] := by simp
  rw [emp] at lc
  refine (ev_neNil (K := K) (p_lq lc) (p_lq (p_lst (ps := []) q_nil (by show 0 ≤ 100000; decide)))) H3 k1.e _ fun H4 e4 => ⟨false, rfl, ?_⟩
  rw [if_neg Bool.false_ne_true]
  have k2 := k1.ex e4
  have cp := g1.b _ _ cp
  have hSC := ex_l g1.b hSC
  clear lc k0 k1 g1 hv
  dsimp only
  -- three times two fractions
  refine b_seq (b_forD (b_c ⟨3, rfl, by decide, by decide, for_range (lo := 0) (n := 3) (fun t σ H' => ∃ (B' : Hp) (x5 : Option V), Kx T d (1000100 + 50 * t) B' H' ∧ Ex B1 B' ∧ σ = [some (.ref a), some (.int (i : Nat)), some (.int z), some (.ref d), x4, x5, x6, x7, x8, x9, x10, x11, x12, x13, x14, x15]) ⟨B1, x5, k2.le (by decide), Ex.refl _, rfl⟩ (fun t σ H' ht pv => ?_) (fun σ H' pv => ?_)⟩))
  · obtain ⟨B', y5, k3, e3, rfl⟩ := pv
    have ht3 : t < 3 := by omega
    dsimp only [gName, List.set_cons_succ, List.set_cons_zero]
    refine b_ifNotB (c_call (b_cons (c_call (b_cons ⟨_, rfl, b_nil ?_⟩))))
    refine ⟨B', d, _, rfl, k3, by omega, fun r1 v1 B2 H5 f1 k4 g4 q1 => b_cons (c_call (b_cons ⟨_, rfl, b_nil ⟨B2, d, _, rfl, k4, by omega, fun r2 v2 B3 H6 f2 k5 g5 q2 => b_nil ?_⟩⟩))⟩
    refine ⟨B3, [rtP K r1, rtP K r2], IsV (.bl true), k5.e, ⟨(rtP K r1).m g5.b q1, q2, trivial⟩, ⟨r1, r2, f1, f2, rfl, rfl⟩, fun v B4 H7 g6 hv => ⟨true, hv, ?_⟩⟩
    rw [if_neg (by decide)]
    exact ⟨B4, _, (k5.gr g6).le (by omega), e3.trans (g4.b.trans (g5.b.trans g6.b)), rfl⟩
  obtain ⟨B', y5, k3, e3, rfl⟩ := pv
  have cp := e3 _ _ cp
  have hSC := ex_l e3 hSC
  clear k2
  dsimp only
  -- three numbers
  refine b_seq (b_par3 (b_cons (b_op (x_digit (z := 400) k3 rfl ev_c (by decide) (by decide) (by omega) fun m1 H5 m10 m11 k4 g4 => b_c ⟨_, _, rfl, rfl, b_cons (b_op (x_digit (z := 90) k4 rfl ev_c (by decide) (by decide) (by omega) fun m2 H6 m20 m21 k5 g5 => b_c ⟨_, _, rfl, rfl, b_cons (b_op (b_c (x_digit (z := 5) k5 rfl ev_c (by decide) (by decide) (by omega) fun m3 H7 m30 m31 k6 g6 => ⟨_, _, rfl, rfl, b_nil ⟨_, _, _, rfl, ?_⟩⟩)))⟩))⟩))))
  obtain ⟨t, ht⟩ : ∃ t : Int, t = m1 - 200 := ⟨_, rfl⟩
  obtain ⟨b, hb⟩ : ∃ b : Int, b = m2 - 30 := ⟨_, rfl⟩
  obtain ⟨p, hp⟩ : ∃ p : Int, p = 1 + m3 := ⟨_, rfl⟩
  dsimp only [List.set_cons_succ, List.set_cons_zero]
  rw [← ht, ← hb, ← hp]
  have t6 : t.natAbs < 10 ^ 60 := Nat.lt_of_le_of_lt (by omega : t.natAbs ≤ 1000) (by decide)
  have b6 : b.natAbs < 10 ^ 60 := Nat.lt_of_le_of_lt (by omega : b.natAbs ≤ 1000) (by decide)
  have p6 : p.natAbs < 10 ^ 60 := Nat.lt_of_le_of_lt (by omega : p.natAbs ≤ 1000) (by decide)
  have p1 : 1 ≤ p := by omega
  have bl : b.natAbs < 2 ^ 4000 := Nat.lt_trans b6 (by decide)
  have bpl : (b * p).natAbs < 2 ^ 4000 := by
    rw [Int.natAbs_mul]
    exact Nat.lt_of_le_of_lt (Nat.mul_le_mul (Nat.le_of_lt b6) (Nat.le_of_lt p6)) (by decide)
  clear ht hb hp m10 m11 m20 m21 m30 m31 k3 k4 k5 g4 g5 g6
  have k13 : kinds 13 = [("place" : Str), "ours", "value"] := by decide +kernel
  have t13 : To K (txts (kinds 13)) (.list [.str "place", .str "ours", .str "value"]) := by
    unfold txts
    rw [k13]
    exact to_lst (.cons to_str (.cons to_str (.cons to_str .nil)))
  have lit3 : ∀ {σ : L2.St} {B : Hp}, EvP (tLst (tCons (tC (.str "place")) (tCons (tC (.str "ours")) (tCons (tC (.str "value")) tNil)))) σ B (LsP [IsV (.str "place"), IsV (.str "ours"), IsV (.str "value")]) := fun {_ _} => p_lst (q_cons p_c (q_cons p_c (q_cons p_c q_nil))) (by show 3 ≤ 100000; decide)
  have tl3 : To K (LsP [IsV (.str "place"), IsV (.str "ours"), IsV (.str "value")]) (.list [.str "place", .str "ours", .str "value"]) := to_lst (.cons to_str (.cons to_str (.cons to_str .nil)))
  have tf : ∀ f : Fr, To K (frP K f) (frD f) := fun f => to_tup (.cons to_int (.cons to_int .nil))
  -- what is due
  refine ps_asgN (fun y => [some (.ref a), some (.int (i : Nat)), some (.int z), some (.ref d), x4, y5, some (.int t), some (.int b), some (.int p), some y, x10, x11, x12, x13, x14, x15]) k6.e (p := IsD K (dueFD t b)) (ed_if (et_test (ev_op (ev_var (i := 7) rfl) (ev_c (v := .int 0)) (rv_eq rfl))) (fun h => by
      have c : b = 0 := by have := of_decide_eq_true h; injection this
      unfold dueFD
      rw [if_pos c]
      exact p_to lit3 tl3) (fun h => by
      have c : b ≠ 0 := fun e => of_decide_eq_false h (by rw [e])
      unfold dueFD
      rw [if_neg c]
      exact p_to (p_callP (R := Rlow2 K) (p := rtP K (Rat.divInt t b)) (ps := [IsV (.int t), IsV (.int b)]) (q_cons (p_varV rfl) (q_cons (p_varV rfl) q_nil)) ⟨t, b, c, bl, rfl, rfl⟩) (tf _))) (fun y B2 H8 g2 hy => ?_) (fun _ => rfl)
  have k7 := k6.gr g2
  dsimp only
  refine ps_asgN (fun y2 => [some (.ref a), some (.int (i : Nat)), some (.int z), some (.ref d), x4, y5, some (.int t), some (.int b), some (.int p), some y, some y2, x11, x12, x13, x14, x15]) k7.e (p := IsV (.bl (ownB t b))) (p_ev (ev_andV (a := decide (0 < b)) (b := PyData.eqv (dueFD t b) (.tuple [.int t, .int b])) (ev_op (r := rI0 fun i j => .bl (decide (j < i))) (ev_var (i := 7) rfl) ev_c rv_I0) fun _ => ev_eqD (K := K) (p_var (i := 9) rfl hy) (p_to (p_tup (K := K) (q_cons (p_varV (i := 6) rfl) (q_cons (p_varV (i := 7) rfl) q_nil)) (by show 2 ≤ 100000; decide)) (to_tup (.cons to_int (.cons to_int .nil)))) (sh_due0 t b) (sh_two t b))) (fun y2 B3 H9 g3 hy2 => ?_) (fun _ => rfl)
  obtain rfl : y2 = .bl (ownB t b) := hy2
  have k8 := k7.gr g3
  have hy := dp_m g3.b hy
  dsimp only
  have V6 : ∀ {i : Nat}, i = 6 → Ev (tVar i) [some (.ref a), some (.int (i : Nat)), some (.int z), some (.ref d), x4, y5, some (.int t), some (.int b), some (.int p), some y, some (.bl (ownB t b)), x11, x12, x13, x14, x15] B3 (.int t) := fun e => by subst e; exact ev_var rfl
  have TP : Ev (tOp (rI CMulW fun i j => .int (i * j)) (tVar 6) (tVar 8)) [some (.ref a), some (.int (i : Nat)), some (.int z), some (.ref d), x4, y5, some (.int t), some (.int b), some (.int p), some y, some (.bl (ownB t b)), x11, x12, x13, x14, x15] B3 (.int (t * p)) := ev_mulW (k := 200) (ev_var rfl) (ev_var rfl) (lgI t6) (lgI p6)
  have BP : Ev (tOp (rI CMulW fun i j => .int (i * j)) (tVar 7) (tVar 8)) [some (.ref a), some (.int (i : Nat)), some (.int z), some (.ref d), x4, y5, some (.int t), some (.int b), some (.int p), some y, some (.bl (ownB t b)), x11, x12, x13, x14, x15] B3 (.int (b * p)) := ev_mulW (k := 200) (ev_var rfl) (ev_var rfl) (lgI b6) (lgI p6)
  have told : EvP (tCall (spP (Rtl K (cx 13))) [] E0 (tCons (tC (.int 0)) (tCons (tOp (rI CMulW fun i j => .int (i * j)) (tVar 6) (tVar 8)) (tCons (tOp (rI CMulW fun i j => .int (i * j)) (tVar 7) (tVar 8)) tNil)))) [some (.ref a), some (.int (i : Nat)), some (.int z), some (.ref d), x4, y5, some (.int t), some (.int b), some (.int p), some y, some (.bl (ownB t b)), x11, x12, x13, x14, x15] B3 (IsD K (dueFD t b)) := by
    by_cases c : b = 0
    · have e : dueFD t b = .list [.str "place", .str "ours", .str "value"] := by unfold dueFD; rw [if_pos c]
      rw [e]
      exact p_to (p_callP (R := Rtl K (cx 13)) (p := outP (.exc (cx 13) [])) (ps := [IsV (.int 0), IsV (.int (t * p)), IsV (.int (b * p))]) (q_cons p_c (q_cons (p_ev TP) (q_cons (p_ev BP) q_nil))) ⟨0, _, _, .exc (cx 13) [], .inl ⟨rfl, .inr (.inr ⟨t * p, by rw [c, Int.zero_mul], rfl⟩)⟩, rfl, rfl⟩) t13
    · have e : dueFD t b = frD (fr (Rat.divInt (t * p) (b * p))) := by unfold dueFD; rw [if_neg c, Rat.divInt_mul_right (by omega)]
      rw [e]
      exact p_to (p_callP (R := Rtl K (cx 13)) (p := outP (.ret (rtP K (Rat.divInt (t * p) (b * p))))) (ps := [IsV (.int 0), IsV (.int (t * p)), IsV (.int (b * p))]) (q_cons p_c (q_cons (p_ev TP) (q_cons (p_ev BP) q_nil))) ⟨0, _, _, .ret (rtP K (Rat.divInt (t * p) (b * p))), .inl ⟨rfl, .inl ⟨_, _, Int.mul_ne_zero c (by omega), bpl, rfl, rfl⟩⟩, rfl, rfl⟩) (tf _)
  have one : EvP (tCall (spO (RfrO K (cx 13))) [V.int 1] E0 (tCons (tVar 6) tNil)) [some (.ref a), some (.int (i : Nat)), some (.int z), some (.ref d), x4, y5, some (.int t), some (.int b), some (.int p), some y, some (.bl (ownB t b)), x11, x12, x13, x14, x15] B3 (IsD K (frD (fr (Rat.divInt t 1)))) := p_to (p_call1D (p := rtP K (Rat.divInt t 1)) (R := RfrO K (cx 13)) (V6 rfl) (.inl ⟨t, 1, by decide, Nat.lt_trans (by decide : (1 : Int).natAbs < 2) (by decide), rfl, rfl⟩)) (tf _)
  rw [fr_int1] at one
  refine b_seq (ps_ifN k8.e (et_is (et_or (a := false) (b := false) (et_ne (K := K) told (p_var (i := 9) rfl hy) (sh_due0 t b)) fun _ => et_ne (K := K) one (p_to (p_tup (K := K) (q_cons (p_varV (i := 6) rfl) (q_cons p_c q_nil)) (by show 2 ≤ 100000; decide)) (to_tup (.cons to_int (.cons to_int .nil)))) (sh_two t 1)) rfl) fun H10 e10 => ?_)
  have k9 := k8.ex e10
  clear told one
  dsimp only
  have isf := ev_p (p_callP (R := RBE K frB) (p := IsV (.bl (frB (.tuple [.int (t * p), .int (b * p)])))) (ps := [TuP K [IsV (.int (t * p)), IsV (.int (b * p))]]) (q_cons (p_tup (K := K) (q_cons (p_ev TP) (q_cons (p_ev BP) q_nil)) (by show 2 ≤ 100000; decide)) q_nil) ⟨_, _, toE_of (to_tup (.cons to_int (.cons to_int .nil))), smd_of (fun x hx => by
    simp only [List.mem_cons, List.not_mem_nil, or_false] at hx
    rcases hx with rfl | rfl <;> exact smd_int), rfl, rfl⟩)
  rw [own_eq p1] at isf
  obtain ⟨bs1, bs2, bs3⟩ := bl_sh (ownB t b && decide (p = 1))
  refine b_seq (ps_ifN k9.e (et_is (et_test (ev_op (ev_reprE (p_dE (ed_bl isf)) bs1 bs2 bs3) (ev_reprE (p_dE (ed_bl (ev_andV (a := ownB t b) (b := decide (p = 1)) (ev_var (i := 10) rfl) fun _ => ev_is (ev_op (ev_var (i := 8) rfl) ev_c (rv_eq rfl)) (by
    rw [show decide (V.int p = V.int 1) = decide (p = 1) from decide_eq_decide.mpr ⟨fun h => by injection h, fun h => by rw [h]⟩])))) bs1 bs2 bs3) (rv_ne rfl))) (by simp)) fun H11 e11 => ?_)
  have k10 := k9.ex e11
  clear isf TP BP V6
  dsimp only
  -- an odd one
  refine b_seq (b_asg (x_pickP (K := K) (ps := ODD.map (IsE K)) (z := 7) k10 (q_cons (p_dE (p_to p_c to_non)) (q_cons e_bl (q_cons (p_dE (p_to p_c to_str)) (q_cons (p_dE (p_to (p_lst (ps := []) q_nil (by show 0 ≤ 100000; decide)) (to_lst .nil))) (q_cons (p_dE (p_to (p_tup (K := K) (q_cons p_c q_nil) (by show 1 ≤ 100000; decide)) (to_tup (.cons to_int .nil)))) (q_cons p_dnewE (q_cons (p_dE (p_to (p_lst (q_cons p_c (q_cons p_c q_nil)) (by show 2 ≤ 100000; decide)) (to_lst (.cons to_int (.cons to_int .nil))))) q_nil))))))) rfl rfl (by show 0 < 7; decide) (by show 7 < 1000; decide) (by omega) fun j po vo B4 H12 hpo k11 g11 hvo => ?_))
  obtain ⟨od, hod, rfl⟩ : ∃ od ∈ ODD, po = IsE K od := by
    rw [List.getElem?_map] at hpo
    obtain ⟨x, hx, rfl⟩ := Option.map_eq_some_iff.mp hpo
    exact ⟨x, List.mem_of_getElem? hx, rfl⟩
  obtain ⟨⟨o1, o2, o3, o4, o5⟩, o6, o7, o8⟩ := odd_facts od hod
  have osm := odd_somes od hod
  dsimp only [gName, List.set_cons_succ, List.set_cons_zero]
  refine ps_asgN (fun y3 => [some (.ref a), some (.int (i : Nat)), some (.int z), some (.ref d), x4, y5, some (.int t), some (.int b), some (.int p), some y, some (.bl (ownB t b)), some vo, some y3, x13, x14, x15]) k11.e (p := IsV (.str od.shown)) (p_ev (ev_reprE (p_var (p := IsE K od) (i := 11) rfl hvo) o6 o7 o8)) (fun y3 B5 H13 g5 hy3 => ?_) (fun _ => rfl)
  obtain rfl : y3 = .str od.shown := hy3
  have k12 := k11.gr g5
  have hvo := de_m g5.b hvo
  dsimp only
  have OV : ∀ {σ : L2.St}, σ[11]? = some (some vo) → EvP (tVar 11) σ B5 (IsE K od) := fun h => p_var h hvo
  have TW : ∀ {σ : L2.St} {ta tb : TE} {x y : PyData}, EvP ta σ B5 (IsE K x) → EvP tb σ B5 (IsE K y) → EvP (tTup (tCons ta (tCons tb tNil))) σ B5 (IsE K (.tuple [x, y])) := fun {_ _ _ x y} h k => p_tuE0 (ds := [x, y]) (p_tup (K := K) (q_cons h (q_cons k q_nil)) (by show 2 ≤ 100000; decide))
  refine ps_asgN (fun y4 => [some (.ref a), some (.int (i : Nat)), some (.int z), some (.ref d), x4, y5, some (.int t), some (.int b), some (.int p), some y, some (.bl (ownB t b)), some vo, some (.str od.shown), some y4, x14, x15]) k12.e (p := LsP ((somes od).map (IsE K))) (p_lst (ps := (somes od).map (IsE K)) (q_cons (OV rfl) (q_cons (TW (OV rfl) e_int) (q_cons (TW e_int (OV rfl)) (q_cons (p_tuE0 (ds := [.int 0, .int 1, .int 1]) (p_tup (K := K) (q_cons e_int (q_cons e_int (q_cons e_int q_nil))) (by show 3 ≤ 100000; decide))) (q_cons (TW e_int e_int) (q_cons (TW e_int e_int) (q_cons (TW e_int (p_dE (p_to (p_ev (ev_un ev_c ru_neg)) to_int))) (q_cons (TW e_int e_int) (q_cons (TW e_bl e_int) (q_cons (TW e_int e_bl) q_nil)))))))))) (by show 10 ≤ 100000; decide)) (fun y4 B6 H14 g6 hy4 => ?_) (fun _ => rfl)
  have k13' := k12.gr g6
  have hvo := de_m g6.b hvo
  clear OV TW
  dsimp only
  have lc := p_lc (K := K) (ta := tVar 13) (te := tVar 14) (tt := tTest (tOp rNotBl (tCall (spP (RBE K frB)) [] E0 (tCons (tVar 14) tNil)) (tC (.bl false)))) (vs := [14]) (g := gName 14) (σ := [some (.ref a), some (.int (i : Nat)), some (.int z), some (.ref d), x4, y5, some (.int t), some (.int b), some (.int p), some y, some (.bl (ownB t b)), some vo, some (.str od.shown), some y4, x14, x15]) (B := B6) (ps := (somes od).map (IsE K)) (p_lq (p_var (i := 13) rfl hy4)) (by show 10 ≤ 100000; decide) (fun _ => false) (fun _ => IsV .non) fun j9 p9 v9 B5 hp e pv => by
      rw [List.getElem?_map] at hp
      obtain ⟨x, hx, rfl⟩ := Option.map_eq_some_iff.mp hp
      obtain ⟨f1, f2⟩ := osm x (List.mem_of_getElem? hx)
      exact ⟨[some (.ref a), some (.int (i : Nat)), some (.int z), some (.ref d), x4, y5, some (.int t), some (.int b), some (.int p), some y, some (.bl (ownB t b)), some vo, some (.str od.shown), some y4, some v9, x15], rfl, fun H2 Q e q => q, et_is (et_test (ev_notB (b := false) (c := false) (ev_p (p_callP (R := RBE K frB) (p := IsV (.bl false)) (ps := [IsE K x]) (q_cons (p_var rfl pv) q_nil) ⟨_, x, to_idE, f2, rfl, by rw [f1]⟩)))) rfl, fun z => nomatch z⟩
  have emp : ((List.range ((somes od).map (IsE K)).length).filter fun _ => false) = [] := by simp
  rw [emp] at lc
  have ask : ∀ {σ : L2.St} {B : Hp} {f : PyData → Bool}, σ[11]? = some (some vo) → De K B vo od → f od = false → EvP (tCall (spP (RBE K f)) [] E0 (tCons (tVar 11) tNil)) σ B (IsV (.bl false)) := fun h hv e => p_callP (R := RBE K _) (ps := [IsE K od]) (q_cons (p_var (p := IsE K od) h hv) q_nil) ⟨_, od, to_idE, o5, rfl, by rw [e]⟩
  refine b_seq (ps_ifN k13'.e (et_is (et_or (a := false) (b := false) (et_is (et_test (ev_neNil (K := K) (p_lq lc) (p_lq (p_lst (ps := []) q_nil (by show 0 ≤ 100000; decide))))) rfl) fun _ => et_is (et_test (ev_notB (b := false) (c := false) (ev_p (ask rfl hvo o1)))) rfl) rfl) fun H15 e15 => ?_)
  have k14 := k13'.ex e15
  clear lc
  dsimp only
  have toldO : ∀ {ta tb : TE} {q1 q2 : Pr} {d1 d2 : PyData}, EvP ta [some (.ref a), some (.int (i : Nat)), some (.int z), some (.ref d), x4, y5, some (.int t), some (.int b), some (.int p), some y, some (.bl (ownB t b)), some vo, some (.str od.shown), some y4, x14, x15] B6 q1 → EvP tb [some (.ref a), some (.int (i : Nat)), some (.int z), some (.ref d), x4, y5, some (.int t), some (.int b), some (.int p), some y, some (.bl (ownB t b)), some vo, some (.str od.shown), some y4, x14, x15] B6 q2 → ToE K q1 d1 → ToE K q2 d2 → smB d1 = true → smB d2 = true → (wholeB d1 && wholeB d2) = false → EvP (tCall (spP (Rtl K (cx 13))) [] E0 (tCons (tC (.int 0)) (tCons ta (tCons tb tNil)))) [some (.ref a), some (.int (i : Nat)), some (.int z), some (.ref d), x4, y5, some (.int t), some (.int b), some (.int p), some y, some (.bl (ownB t b)), some vo, some (.str od.shown), some y4, x14, x15] B6 (txts (kinds 13)) := fun {ta tb q1 q2 d1 d2} h1 h2 t1 t2 s1 s2 w =>
    p_callP (R := Rtl K (cx 13)) (p := outP (.exc (cx 13) [])) (ps := [IsV (.int 0), q1, q2]) (q_cons p_c (q_cons h1 (q_cons h2 q_nil))) ⟨0, _, _, .exc (cx 13) [], .inl ⟨rfl, .inr (.inl ⟨q1, q2, d1, d2, t1, t2, s1, s2, w, rfl, rfl⟩)⟩, rfl, rfl⟩
  have ov : EvP (tVar 11) [some (.ref a), some (.int (i : Nat)), some (.int z), some (.ref d), x4, y5, some (.int t), some (.int b), some (.int p), some y, some (.bl (ownB t b)), some vo, some (.str od.shown), some y4, x14, x15] B6 (IsE K od) := p_var rfl hvo
  have two : EvP _ [some (.ref a), some (.int (i : Nat)), some (.int z), some (.ref d), x4, y5, some (.int t), some (.int b), some (.int p), some y, some (.bl (ownB t b)), some vo, some (.str od.shown), some y4, x14, x15] B6 (IsD K (.list [.list [.str "place", .str "ours", .str "value"], .list [.str "place", .str "ours", .str "value"]])) := p_to (p_lst (q_cons (toldO ov (p_c (v := .int 3)) to_idE (toE_of to_int) o5 smd_int (by rw [o1]; rfl)) (q_cons (toldO (p_c (v := .int 3)) ov (toE_of to_int) to_idE smd_int o5 (by rw [o1, Bool.and_false])) q_nil)) (by show 2 ≤ 100000; decide)) (to_lst (.cons t13 (.cons t13 .nil)))
  have two2 : EvP _ [some (.ref a), some (.int (i : Nat)), some (.int z), some (.ref d), x4, y5, some (.int t), some (.int b), some (.int p), some y, some (.bl (ownB t b)), some vo, some (.str od.shown), some y4, x14, x15] B6 (IsD K (.list [.list [.str "place", .str "ours", .str "value"], .list [.str "place", .str "ours", .str "value"]])) := p_to (p_rep (ps := [LsP [IsV (.str "place"), IsV (.str "ours"), IsV (.str "value")]]) (n := 2) (p_lst (q_cons lit3 q_nil) (by show 1 ≤ 100000; decide)) (p_c (v := .int 2)) (by decide) (by show 1 * 2 ≤ 100000; decide)) (to_lst (.cons tl3 (.cons tl3 .nil)))
  refine b_seq (ps_ifN k14.e (et_is (et_or (a := false) (b := false) (et_ne (K := K) two two2 ttf.2.2) fun _ => et_is (et_test (ev_op (ev_reprE ov o6 o7 o8) (ev_var (i := 12) rfl) (rv_ne rfl))) (by simp)) rfl) fun H16 e16 => ?_)
  have k15 := k14.ex e16
  clear two two2 toldO
  dsimp only
  have among : EvP (tCall (spP (RamgE K)) [] E0 (tCons (tVar 11) (tCons (tC (.int 0)) (tCons (tC (.int 9)) tNil)))) [some (.ref a), some (.int (i : Nat)), some (.int z), some (.ref d), x4, y5, some (.int t), some (.int b), some (.int p), some y, some (.bl (ownB t b)), some vo, some (.str od.shown), some y4, x14, x15] B6 (IsV (.bl false)) := p_callP (R := RamgE K) (ps := [IsE K od, IsV (.int 0), IsV (.int 9)]) (q_cons ov (q_cons p_c (q_cons p_c q_nil))) ⟨_, od, 0, 9, to_idE, o5, rfl, by rw [o4]⟩
  have sh3 : (PyData.list [.bool false, .bool false, .bool false]).shown.length ≤ 1000000 := by rw [fff.1]; decide +kernel
  refine ps_ifN k15.e (et_is (et_test (ev_op (ev_reprE (p_dE (p_to (p_lst (q_cons (ask rfl hvo o2) (q_cons among (q_cons (ask rfl hvo o3) q_nil))) (by show 3 ≤ 100000; decide)) (to_lst (.cons to_bl (.cons to_bl (.cons to_bl .nil)))))) fff.2.1 fff.2.2 sh3) (ev_c (v := .str "[False, False, False]")) (rv_ne rfl))) (by rw [fff.1]; simp)) fun H17 e17 => ?_
  have k16 := k15.ex e17
  have EE : Ex B' B6 := (g2.b.trans g3.b).trans (g11.b.trans (g5.b.trans g6.b))
  exact ⟨k16.t, ex_l k16.e (ex_l EE hSC), k16.e _ _ (EE _ _ cp), _, _, _, _, _, _, _, _, _, _, _, _, _, _, _, rfl⟩

end
end K12
namespace K12
open PySem PySem.W L2 Evl My LamX Nd
set_option autoImplicit false
def cxOfL (l : List Addr) : Nat → Addr := fun i => l.getD i 0
/-- the facts of an own exception class, asked at once -/
def xcB (K : PySem.W.Frag) (C : Addr) (bmB : List Value) (newId : String) : Bool :=
  PySem.W.excInitIn K C bmB newId && PySem.W.hasDictIn K C && decide (PySem.W.findIn K (.ref C) "__setattr__" = some (some (.builtin "object.__setattr__"))) && decide (PySem.W.findIn K (.ref C) "__getattribute__" = some (some (.builtin "BaseException.__getattribute__"))) &&
  decide (PySem.W.findIn K (.ref C) "__getattr__" = some none) && decide (PySem.W.subIn K (.ref C) (.type "BaseException") = some true) && decide (PySem.W.findIn K (.ref C) "__class__" = some (some (.builtin "object.__class__"))) &&
  decide (PySem.W.specialIn K (.builtin "object.__class__") "__get__" = some (some (.builtin "getset_descriptor.__get__"))) && decide (PySem.W.takesIn K (.builtin "object.__class__") = some true) && decide (PySem.W.mroIn K C (.type "object") = some true) && PySem.W.keepIn K (.ref C)
theorem xc_of {K : PySem.W.Frag} {C : Addr} {bmB : List Value} {newId : String} (h : xcB K C bmB newId = true) : XC K C bmB newId := by
  unfold xcB at h
  simp only [Bool.and_eq_true, decide_eq_true_eq] at h
  obtain ⟨⟨⟨⟨⟨⟨⟨⟨⟨⟨h1, h2⟩, h3⟩, h4⟩, h5⟩, h6⟩, h7⟩, h8⟩, h9⟩, h10⟩, h11⟩ := h
  exact ⟨h1, h2, h3, h4, h5, h6, h7, h8, h9, h10, h11⟩
end K12
namespace Hd
set_option autoImplicit false
open PySem PySem.Spec PySem.W PyProof.Rows L2 He
end Hd
namespace K12
set_option autoImplicit false
open PySem PySem.W L2 Evl My LamX Nd
theorem sysB_ok {K : PySem.W.Frag} (h : HdC.sysB K = true) : SysK K := by
  unfold HdC.sysB at h
  cases e : K.lookup sysModules with
  | none => rw [e] at h; cases h
  | some o => rw [e] at h; exact ⟨o, e, of_decide_eq_true h⟩
theorem frac_binds {K : PySem.W.Frag} {f : Addr} {fd : FuncData} (F : FunD K "fraction" "fraction" (defArgs s_fraction) (defBody s_fraction) (defScope s_fraction) [V.int 1] [] f fd) : Binds K fd ["top", "bottom"] [] := by
  obtain ⟨ds, v, b⟩ := FunD.binds1 (ps := ["top", "bottom"]) F 2 1 (List.cons_ne_nil _ _) rfl fun T kV doc pm an cdv ct us its l1 l2 => match us, its, l1, l2 with | [_, _], [_], _, _ => ⟨_, rfl, rfl⟩
  cases v
  exact b
theorem frac_binds1 {K : PySem.W.Frag} {f : Addr} {fd : FuncData} (F : FunD K "fraction" "fraction" (defArgs s_fraction) (defBody s_fraction) (defScope s_fraction) [V.int 1] [] f fd) : ∃ ds, Vals [V.int 1] ds ∧ Binds K fd ["top", "bottom"] ds := by
  obtain ⟨ds, v, b⟩ := FunD.binds1 (ps := ["top", "bottom"]) F 1 0 (List.cons_ne_nil _ _) rfl fun T kV doc pm an cdv ct us its l1 l2 => match us, its, l1, l2 with | [_], [_], _, _ => ⟨_, rfl, rfl⟩
  exact ⟨ds, v, b⟩
theorem all_mk2 {l : PySem.W.OpenLaw} {w : World} {K : PySem.W.Frag} {h : Heap} {mg : Str → Option Value} {fa : Addr} (X : K.In h) (G : h.Ns mainGlobals mg) (hfa : mg "law" = some (.ref fa)) (SD : He.SaysD K12.hfa hfn K) (E : hex K = true) (EV : hvf K = hvv) (LM : ∀ x ∈ hlams, Hd.lamB K x = true ∧ h.get? (Hd.ctab K (Hd.fcode K x)) = some (tabObj #[])) : Gd.LawAtG l w K 8 63 "_law_script" mg fa h := by
  have gc_BadRow := Hd.glo_ns (SD.fact 25 (f := .glo "BadRow") rfl)
  have gc_BadPolynomial := Hd.glo_ns (SD.fact 26 (f := .glo "BadPolynomial") rfl)
  have gc_BadRanking := Hd.glo_ns (SD.fact 27 (f := .glo "BadRanking") rfl)
  have gc_BadChain := Hd.glo_ns (SD.fact 28 (f := .glo "BadChain") rfl)
  have gc_BadData := Hd.glo_ns (SD.fact 29 (f := .glo "BadData") rfl)
  have gc_BadJet := Hd.glo_ns (SD.fact 30 (f := .glo "BadJet") rfl)
  have gc_BadPaper := Hd.glo_ns (SD.fact 31 (f := .glo "BadPaper") rfl)
  have gc_NoUnknown := Hd.glo_ns (SD.fact 32 (f := .glo "NoUnknown") rfl)
  have gc_NoEquation := Hd.glo_ns (SD.fact 33 (f := .glo "NoEquation") rfl)
  have gc_NoCase := Hd.glo_ns (SD.fact 34 (f := .glo "NoCase") rfl)
  have gc_Contradicted := Hd.glo_ns (SD.fact 35 (f := .glo "Contradicted") rfl)
  have gc_Knotted := Hd.glo_ns (SD.fact 36 (f := .glo "Knotted") rfl)
  have gc_Twice := Hd.glo_ns (SD.fact 37 (f := .glo "Twice") rfl)
  have gc_OutOfPlace := Hd.glo_ns (SD.fact 38 (f := .glo "OutOfPlace") rfl)
  have gc_TooGreat := Hd.glo_ns (SD.fact 39 (f := .glo "TooGreat") rfl)
  have gc_Nothing := Hd.glo_ns (SD.fact 40 (f := .glo "Nothing") rfl)
  have gc_ChainError := Hd.glo_ns (SD.fact 41 (f := .glo "ChainError") rfl)
  have gc_MissError := Hd.glo_ns (SD.fact 42 (f := .glo "MissError") rfl)
  have gc_CaseError := Hd.glo_ns (SD.fact 43 (f := .glo "CaseError") rfl)
  have a24 := Hd.glo_ns (SD.fact 24 (f := .glo "law") rfl)
  have e := hfa.symm.trans (PySem.W.mg_of X G a24)
  cases e
  obtain ⟨fd0, D0⟩ := SD.def_ 0 (d := hd0) rfl
  have a0 := Hd.glo_ns (SD.fact 0 (f := .glo "_law_draw") rfl)
  have k0 := D0.kp
  have F0 : Fun K "_law_draw" "_law_draw" s_Ldraw (He.ga K "_law_draw") fd0 := Hd.fun_of D0
  have b0 := F0.binds (ps := ["_law_cell", "_law_k"]) fun _ _ _ _ _ _ us hl => match us, hl with | [_, _], _ => rfl
  obtain ⟨fd1, D1⟩ := SD.def_ 1 (d := hd1) rfl
  have a1 := Hd.glo_ns (SD.fact 1 (f := .glo "_law_mixed") rfl)
  have k1 := D1.kp
  have F1 : Fun K "_law_mixed" "_law_mixed" s_Lmixed (He.ga K "_law_mixed") fd1 := Hd.fun_of D1
  have b1 := F1.binds (ps := ["_law_cell", "_law_k"]) fun _ _ _ _ _ _ us hl => match us, hl with | [_, _], _ => rfl
  obtain ⟨fd2, D2⟩ := SD.def_ 2 (d := hd2) rfl
  have a2 := Hd.glo_ns (SD.fact 2 (f := .glo "_law_digit") rfl)
  have k2 := D2.kp
  have F2 : Fun K "_law_digit" "_law_digit" s_Ldigit (He.ga K "_law_digit") fd2 := Hd.fun_of D2
  have b2 := F2.binds (ps := ["_law_state", "_law_many"]) fun _ _ _ _ _ _ us hl => match us, hl with | [_, _], _ => rfl
  obtain ⟨fd3, D3⟩ := SD.def_ 3 (d := hd3) rfl
  have a3 := Hd.glo_ns (SD.fact 3 (f := .glo "_law_texts") rfl)
  have k3 := D3.kp
  have F3 : Fun K "_law_texts" "_law_texts" s_Ltexts (He.ga K "_law_texts") fd3 := Hd.fun_of D3
  have b3 := F3.binds (ps := ["_law_state"]) fun _ _ _ _ _ _ us hl => match us, hl with | [_], _ => rfl
  obtain ⟨fd4, D4⟩ := SD.def_ 4 (d := hd4) rfl
  have a4 := Hd.glo_ns (SD.fact 4 (f := .glo "_law_lowest") rfl)
  have k4 := D4.kp
  have F4 : Fun K "_law_lowest" "_law_lowest" s_Llowest (He.ga K "_law_lowest") fd4 := Hd.fun_of D4
  have b4 := F4.binds (ps := ["_law_top", "_law_bottom"]) fun _ _ _ _ _ _ us hl => match us, hl with | [_, _], _ => rfl
  obtain ⟨fd5, D5⟩ := SD.def_ 5 (d := hd5) rfl
  have a5 := Hd.glo_ns (SD.fact 5 (f := .glo "_law_fraction") rfl)
  have k5 := D5.kp
  have F5 : Fun K "_law_fraction" "_law_fraction" s_Lfraction (He.ga K "_law_fraction") fd5 := Hd.fun_of D5
  have b5 := F5.binds (ps := ["_law_state"]) fun _ _ _ _ _ _ us hl => match us, hl with | [_], _ => rfl
  obtain ⟨fd6, D6⟩ := SD.def_ 6 (d := hd6) rfl
  have a6 := Hd.glo_ns (SD.fact 6 (f := .glo "sum_of") rfl)
  have k6 := D6.kp
  have F6 : Fun K "sum_of" "sum_of" s_sum_of (He.ga K "sum_of") fd6 := Hd.fun_of D6
  have b6 := F6.binds (ps := ["one", "other"]) fun _ _ _ _ _ _ us hl => match us, hl with | [_, _], _ => rfl
  obtain ⟨fd7, D7⟩ := SD.def_ 7 (d := hd7) rfl
  have a7 := Hd.glo_ns (SD.fact 7 (f := .glo "difference") rfl)
  have k7 := D7.kp
  have F7 : Fun K "difference" "difference" s_difference (He.ga K "difference") fd7 := Hd.fun_of D7
  have b7 := F7.binds (ps := ["one", "other"]) fun _ _ _ _ _ _ us hl => match us, hl with | [_, _], _ => rfl
  obtain ⟨fd8, D8⟩ := SD.def_ 8 (d := hd8) rfl
  have a8 := Hd.glo_ns (SD.fact 8 (f := .glo "product") rfl)
  have k8 := D8.kp
  have F8 : Fun K "product" "product" s_product (He.ga K "product") fd8 := Hd.fun_of D8
  have b8 := F8.binds (ps := ["one", "other"]) fun _ _ _ _ _ _ us hl => match us, hl with | [_, _], _ => rfl
  obtain ⟨fd9, D9⟩ := SD.def_ 9 (d := hd9) rfl
  have a9 := Hd.glo_ns (SD.fact 9 (f := .glo "is_whole") rfl)
  have k9 := D9.kp
  have F9 : Fun K "is_whole" "is_whole" s_is_whole (He.ga K "is_whole") fd9 := Hd.fun_of D9
  have b9 := F9.binds (ps := ["thing"]) fun _ _ _ _ _ _ us hl => match us, hl with | [_], _ => rfl
  obtain ⟨fd10, D10⟩ := SD.def_ 10 (d := hd10) rfl
  have a10 := Hd.glo_ns (SD.fact 10 (f := .glo "lowest") rfl)
  have k10 := D10.kp
  have F10 : Fun K "lowest" "lowest" s_lowest (He.ga K "lowest") fd10 := Hd.fun_of D10
  have b10 := F10.binds (ps := ["top", "bottom"]) fun _ _ _ _ _ _ us hl => match us, hl with | [_, _], _ => rfl
  obtain ⟨fd11, D11⟩ := SD.def_ 11 (d := hd11) rfl
  have a11 := Hd.glo_ns (SD.fact 11 (f := .glo "fraction") rfl)
  have k11 := D11.kp
  have F11 : FunD K "fraction" "fraction" (defArgs s_fraction) (defBody s_fraction) (defScope s_fraction) [V.int 1] [] (He.ga K "fraction") fd11 := D11
  have b11 := frac_binds F11
  obtain ⟨dsF, vdF, bdF⟩ := frac_binds1 F11
  obtain ⟨fd12, D12⟩ := SD.def_ 12 (d := hd12) rfl
  have a12 := Hd.glo_ns (SD.fact 12 (f := .glo "quotient") rfl)
  have k12 := D12.kp
  have F12 : Fun K "quotient" "quotient" s_quotient (He.ga K "quotient") fd12 := Hd.fun_of D12
  have b12 := F12.binds (ps := ["one", "other"]) fun _ _ _ _ _ _ us hl => match us, hl with | [_, _], _ => rfl
  obtain ⟨fd13, D13⟩ := SD.def_ 13 (d := hd13) rfl
  have a13 := Hd.glo_ns (SD.fact 13 (f := .glo "_law_kinds") rfl)
  have k13 := D13.kp
  have F13 : Fun K "_law_kinds" "_law_kinds" s_Lkinds (He.ga K "_law_kinds") fd13 := Hd.fun_of D13
  have b13 := F13.binds (ps := ["_law_error"]) fun _ _ _ _ _ _ us hl => match us, hl with | [_], _ => rfl
  obtain ⟨fd14, D14⟩ := SD.def_ 14 (d := hd14) rfl
  have a14 := Hd.glo_ns (SD.fact 14 (f := .glo "_law_told") rfl)
  have k14 := D14.kp
  have F14 : Fun K "_law_told" "_law_told" s_Ltold (He.ga K "_law_told") fd14 := Hd.fun_of D14
  have b14 := F14.binds (ps := ["_law_way", "_law_one", "_law_other"]) fun _ _ _ _ _ _ us hl => match us, hl with | [_, _, _], _ => rfl
  obtain ⟨fd15, D15⟩ := SD.def_ 15 (d := hd15) rfl
  have a15 := Hd.glo_ns (SD.fact 15 (f := .glo "whole_text") rfl)
  have k15 := D15.kp
  have F15 : Fun K "whole_text" "whole_text" s_whole_text (He.ga K "whole_text") fd15 := Hd.fun_of D15
  have b15 := F15.binds (ps := ["number"]) fun _ _ _ _ _ _ us hl => match us, hl with | [_], _ => rfl
  obtain ⟨fd16, D16⟩ := SD.def_ 16 (d := hd16) rfl
  have a16 := Hd.glo_ns (SD.fact 16 (f := .glo "number_text") rfl)
  have k16 := D16.kp
  have F16 : Fun K "number_text" "number_text" s_number_text (He.ga K "number_text") fd16 := Hd.fun_of D16
  have b16 := F16.binds (ps := ["one"]) fun _ _ _ _ _ _ us hl => match us, hl with | [_], _ => rfl
  obtain ⟨fd17, D17⟩ := SD.def_ 17 (d := hd17) rfl
  have a17 := Hd.glo_ns (SD.fact 17 (f := .glo "_law_reckoned_right") rfl)
  have k17 := D17.kp
  have F17 : Fun K "_law_reckoned_right" "_law_reckoned_right" s_Lreckoned_right (He.ga K "_law_reckoned_right") fd17 := Hd.fun_of D17
  have b17 := F17.binds (ps := ["_law_one", "_law_other"]) fun _ _ _ _ _ _ us hl => match us, hl with | [_, _], _ => rfl
  obtain ⟨fd18, D18⟩ := SD.def_ 18 (d := hd18) rfl
  have a18 := Hd.glo_ns (SD.fact 18 (f := .glo "is_fraction") rfl)
  have k18 := D18.kp
  have F18 : Fun K "is_fraction" "is_fraction" s_is_fraction (He.ga K "is_fraction") fd18 := Hd.fun_of D18
  have b18 := F18.binds (ps := ["thing"]) fun _ _ _ _ _ _ us hl => match us, hl with | [_], _ => rfl
  obtain ⟨fd19, D19⟩ := SD.def_ 19 (d := hd19) rfl
  have a19 := Hd.glo_ns (SD.fact 19 (f := .glo "is_axis") rfl)
  have k19 := D19.kp
  have F19 : Fun K "is_axis" "is_axis" s_is_axis (He.ga K "is_axis") fd19 := Hd.fun_of D19
  have b19 := F19.binds (ps := ["thing"]) fun _ _ _ _ _ _ us hl => match us, hl with | [_], _ => rfl
  obtain ⟨fd20, D20⟩ := SD.def_ 20 (d := hd20) rfl
  have a20 := Hd.glo_ns (SD.fact 20 (f := .glo "is_among") rfl)
  have k20 := D20.kp
  have F20 : Fun K "is_among" "is_among" s_is_among (He.ga K "is_among") fd20 := Hd.fun_of D20
  have b20 := F20.binds (ps := ["thing", "least", "most"]) fun _ _ _ _ _ _ us hl => match us, hl with | [_, _, _], _ => rfl
  obtain ⟨fd21, D21⟩ := SD.def_ 21 (d := hd21) rfl
  have a21 := Hd.glo_ns (SD.fact 21 (f := .glo "is_name") rfl)
  have k21 := D21.kp
  have F21 : Fun K "is_name" "is_name" s_is_name (He.ga K "is_name") fd21 := Hd.fun_of D21
  have b21 := F21.binds (ps := ["thing"]) fun _ _ _ _ _ _ us hl => match us, hl with | [_], _ => rfl
  obtain ⟨fd22, D22⟩ := SD.def_ 22 (d := hd22) rfl
  have a22 := Hd.glo_ns (SD.fact 22 (f := .glo "words_of") rfl)
  have k22 := D22.kp
  have F22 : Fun K "words_of" "words_of" s_words_of (He.ga K "words_of") fd22 := Hd.fun_of D22
  have b22 := F22.binds (ps := ["row"]) fun _ _ _ _ _ _ us hl => match us, hl with | [_], _ => rfl
  obtain ⟨fd23, D23⟩ := SD.def_ 23 (d := hd23) rfl
  have a23 := Hd.glo_ns (SD.fact 23 (f := .glo "_law_word_right") rfl)
  have k23 := D23.kp
  have F23 : Fun K "_law_word_right" "_law_word_right" s_Lword_right (He.ga K "_law_word_right") fd23 := Hd.fun_of D23
  have b23 := F23.binds (ps := ["_law_word"]) fun _ _ _ _ _ _ us hl => match us, hl with | [_], _ => rfl
  obtain ⟨fd24, D24⟩ := SD.def_ 24 (d := hd24) rfl
  have k24 := D24.kp
  have F24 : Fun K "law" "law" s_law (He.ga K "law") fd24 := Hd.fun_of D24
  have hb := D24.bindsA (ps := ["_law_script"]) fun _ _ _ _ _ _ us hl => match us, hl with | [_], _ => rfl
  have n0_row : PySem.W.findIn K (.ref (He.ga K "BadRow")) "row" = some none := of_decide_eq_true (SD.fact 66 (f := .noat "BadRow" "row") rfl)
  have n0_word : PySem.W.findIn K (.ref (He.ga K "BadRow")) "word" = some none := of_decide_eq_true (SD.fact 67 (f := .noat "BadRow" "word") rfl)
  have n1_number : PySem.W.findIn K (.ref (He.ga K "BadPolynomial")) "number" = some none := of_decide_eq_true (SD.fact 68 (f := .noat "BadPolynomial" "number") rfl)
  have n2_place : PySem.W.findIn K (.ref (He.ga K "BadRanking")) "place" = some none := of_decide_eq_true (SD.fact 69 (f := .noat "BadRanking" "place") rfl)
  have n3_place : PySem.W.findIn K (.ref (He.ga K "BadChain")) "place" = some none := of_decide_eq_true (SD.fact 70 (f := .noat "BadChain" "place") rfl)
  have n4_place : PySem.W.findIn K (.ref (He.ga K "BadData")) "place" = some none := of_decide_eq_true (SD.fact 71 (f := .noat "BadData" "place") rfl)
  have n5_place : PySem.W.findIn K (.ref (He.ga K "BadJet")) "place" = some none := of_decide_eq_true (SD.fact 72 (f := .noat "BadJet" "place") rfl)
  have n6_place : PySem.W.findIn K (.ref (He.ga K "BadPaper")) "place" = some none := of_decide_eq_true (SD.fact 73 (f := .noat "BadPaper" "place") rfl)
  have n7_name : PySem.W.findIn K (.ref (He.ga K "NoUnknown")) "name" = some none := of_decide_eq_true (SD.fact 74 (f := .noat "NoUnknown" "name") rfl)
  have n8_number : PySem.W.findIn K (.ref (He.ga K "NoEquation")) "number" = some none := of_decide_eq_true (SD.fact 75 (f := .noat "NoEquation" "number") rfl)
  have n9_number : PySem.W.findIn K (.ref (He.ga K "NoCase")) "number" = some none := of_decide_eq_true (SD.fact 76 (f := .noat "NoCase" "number") rfl)
  have n10_number : PySem.W.findIn K (.ref (He.ga K "Contradicted")) "number" = some none := of_decide_eq_true (SD.fact 77 (f := .noat "Contradicted" "number") rfl)
  have n11_number : PySem.W.findIn K (.ref (He.ga K "Knotted")) "number" = some none := of_decide_eq_true (SD.fact 78 (f := .noat "Knotted" "number") rfl)
  have m_LookupError := PySem.W.mg_none_of X G (Hd.free_ns (SD.fact 44 (f := .free "LookupError") rfl))
  have m_RuntimeError := PySem.W.mg_none_of X G (Hd.free_ns (SD.fact 45 (f := .free "RuntimeError") rfl))
  have m_ValueError := PySem.W.mg_none_of X G (Hd.free_ns (SD.fact 46 (f := .free "ValueError") rfl))
  have m_abs := PySem.W.mg_none_of X G (Hd.free_ns (SD.fact 47 (f := .free "abs") rfl))
  have m_all := PySem.W.mg_none_of X G (Hd.free_ns (SD.fact 48 (f := .free "all") rfl))
  have m_bool := PySem.W.mg_none_of X G (Hd.free_ns (SD.fact 49 (f := .free "bool") rfl))
  have m_divmod := PySem.W.mg_none_of X G (Hd.free_ns (SD.fact 50 (f := .free "divmod") rfl))
  have m_enumerate := PySem.W.mg_none_of X G (Hd.free_ns (SD.fact 51 (f := .free "enumerate") rfl))
  have m_int := PySem.W.mg_none_of X G (Hd.free_ns (SD.fact 52 (f := .free "int") rfl))
  have m_isinstance := PySem.W.mg_none_of X G (Hd.free_ns (SD.fact 53 (f := .free "isinstance") rfl))
  have m_len := PySem.W.mg_none_of X G (Hd.free_ns (SD.fact 54 (f := .free "len") rfl))
  have m_list := PySem.W.mg_none_of X G (Hd.free_ns (SD.fact 55 (f := .free "list") rfl))
  have m_range := PySem.W.mg_none_of X G (Hd.free_ns (SD.fact 56 (f := .free "range") rfl))
  have m_repr := PySem.W.mg_none_of X G (Hd.free_ns (SD.fact 57 (f := .free "repr") rfl))
  have m_str := PySem.W.mg_none_of X G (Hd.free_ns (SD.fact 58 (f := .free "str") rfl))
  have m_sum := PySem.W.mg_none_of X G (Hd.free_ns (SD.fact 59 (f := .free "sum") rfl))
  have m_tuple := PySem.W.mg_none_of X G (Hd.free_ns (SD.fact 60 (f := .free "tuple") rfl))
  have xm_BadRow_ChainError : PySem.W.exmOne K (.ref (He.ga K "BadRow")) (.ref (He.ga K "ChainError")) = some true := of_decide_eq_true (SD.fact 79 (f := .exm "BadRow" "ChainError" true) rfl)
  have xm_BadPolynomial_ChainError : PySem.W.exmOne K (.ref (He.ga K "BadPolynomial")) (.ref (He.ga K "ChainError")) = some true := of_decide_eq_true (SD.fact 80 (f := .exm "BadPolynomial" "ChainError" true) rfl)
  have xm_BadRanking_ChainError : PySem.W.exmOne K (.ref (He.ga K "BadRanking")) (.ref (He.ga K "ChainError")) = some true := of_decide_eq_true (SD.fact 81 (f := .exm "BadRanking" "ChainError" true) rfl)
  have xm_BadChain_ChainError : PySem.W.exmOne K (.ref (He.ga K "BadChain")) (.ref (He.ga K "ChainError")) = some true := of_decide_eq_true (SD.fact 82 (f := .exm "BadChain" "ChainError" true) rfl)
  have xm_BadData_ChainError : PySem.W.exmOne K (.ref (He.ga K "BadData")) (.ref (He.ga K "ChainError")) = some true := of_decide_eq_true (SD.fact 83 (f := .exm "BadData" "ChainError" true) rfl)
  have xm_BadJet_ChainError : PySem.W.exmOne K (.ref (He.ga K "BadJet")) (.ref (He.ga K "ChainError")) = some true := of_decide_eq_true (SD.fact 84 (f := .exm "BadJet" "ChainError" true) rfl)
  have xm_BadPaper_ChainError : PySem.W.exmOne K (.ref (He.ga K "BadPaper")) (.ref (He.ga K "ChainError")) = some true := of_decide_eq_true (SD.fact 85 (f := .exm "BadPaper" "ChainError" true) rfl)
  have xm_Twice_ChainError : PySem.W.exmOne K (.ref (He.ga K "Twice")) (.ref (He.ga K "ChainError")) = some true := of_decide_eq_true (SD.fact 86 (f := .exm "Twice" "ChainError" true) rfl)
  have xm_OutOfPlace_ChainError : PySem.W.exmOne K (.ref (He.ga K "OutOfPlace")) (.ref (He.ga K "ChainError")) = some true := of_decide_eq_true (SD.fact 87 (f := .exm "OutOfPlace" "ChainError" true) rfl)
  have xm_TooGreat_ChainError : PySem.W.exmOne K (.ref (He.ga K "TooGreat")) (.ref (He.ga K "ChainError")) = some true := of_decide_eq_true (SD.fact 88 (f := .exm "TooGreat" "ChainError" true) rfl)
  have kq13 : PySem.W.keepIn K (.ref (He.ga K "OutOfPlace")) = true := SD.fact 89 (f := .keep "OutOfPlace") rfl
  obtain ⟨tk_gML, gML⟩ := Hd.int_ns (SD.fact 61 (f := .int "MOST_LETTERS" 8) rfl)
  obtain ⟨tk_gLE, gLE⟩ := Hd.str_ns (SD.fact 62 (f := .str "LETTERS" "abcdefghijklmnopqrstuvwxyz") rfl)
  have go_AXES := Hd.glo_ns (SD.fact 63 (f := .glo "AXES") rfl)
  have go_NOUGHT := Hd.glo_ns (SD.fact 64 (f := .glo "NOUGHT") rfl)
  have go_ONE := Hd.glo_ns (SD.fact 65 (f := .glo "ONE") rfl)
  have x0 : xcB K (He.ga K "BadRow") (bmI 0) (nwI 0) = true := hex_at E 0 (e := hx_x0) rfl
  have x1 : xcB K (He.ga K "BadPolynomial") (bmI 1) (nwI 1) = true := hex_at E 1 (e := hx_x1) rfl
  have x2 : xcB K (He.ga K "BadRanking") (bmI 2) (nwI 2) = true := hex_at E 2 (e := hx_x2) rfl
  have x3 : xcB K (He.ga K "BadChain") (bmI 3) (nwI 3) = true := hex_at E 3 (e := hx_x3) rfl
  have x4 : xcB K (He.ga K "BadData") (bmI 4) (nwI 4) = true := hex_at E 4 (e := hx_x4) rfl
  have x5 : xcB K (He.ga K "BadJet") (bmI 5) (nwI 5) = true := hex_at E 5 (e := hx_x5) rfl
  have x6 : xcB K (He.ga K "BadPaper") (bmI 6) (nwI 6) = true := hex_at E 6 (e := hx_x6) rfl
  have x7 : xcB K (He.ga K "NoUnknown") (bmI 7) (nwI 7) = true := hex_at E 7 (e := hx_x7) rfl
  have x8 : xcB K (He.ga K "NoEquation") (bmI 8) (nwI 8) = true := hex_at E 8 (e := hx_x8) rfl
  have x9 : xcB K (He.ga K "NoCase") (bmI 9) (nwI 9) = true := hex_at E 9 (e := hx_x9) rfl
  have x10 : xcB K (He.ga K "Contradicted") (bmI 10) (nwI 10) = true := hex_at E 10 (e := hx_x10) rfl
  have x11 : xcB K (He.ga K "Knotted") (bmI 11) (nwI 11) = true := hex_at E 11 (e := hx_x11) rfl
  have x12 : xcB K (He.ga K "Twice") (bmI 12) (nwI 12) = true := hex_at E 12 (e := hx_x12) rfl
  have x13 : xcB K (He.ga K "OutOfPlace") (bmI 13) (nwI 13) = true := hex_at E 13 (e := hx_x13) rfl
  have x14 : xcB K (He.ga K "TooGreat") (bmI 14) (nwI 14) = true := hex_at E 14 (e := hx_x14) rfl
  have x15 : xcB K (He.ga K "Nothing") (bmI 15) (nwI 15) = true := hex_at E 15 (e := hx_x15) rfl
  have q13 : PySem.W.excIn K (He.ga K "OutOfPlace") (bmI 13) (nwI 13) = true := hex_at E 16 (e := hx_q13) rfl
  have q12 : PySem.W.excIn K (He.ga K "Twice") (bmI 12) (nwI 12) = true := hex_at E 17 (e := hx_q12) rfl
  have q14 : PySem.W.excIn K (He.ga K "TooGreat") (bmI 14) (nwI 14) = true := hex_at E 18 (e := hx_q14) rfl
  have q15 : PySem.W.excIn K (He.ga K "Nothing") (bmI 15) (nwI 15) = true := hex_at E 19 (e := hx_q15) rfl
  have kt0 := of_decide_eq_true (p := (testsOf (cxOfL [(He.ga K "BadRow"), (He.ga K "BadPolynomial"), (He.ga K "BadRanking"), (He.ga K "BadChain"), (He.ga K "BadData"), (He.ga K "BadJet"), (He.ga K "BadPaper"), (He.ga K "NoUnknown"), (He.ga K "NoEquation"), (He.ga K "NoCase"), (He.ga K "Contradicted"), (He.ga K "Knotted"), (He.ga K "Twice"), (He.ga K "OutOfPlace"), (He.ga K "TooGreat"), (He.ga K "Nothing"), (He.ga K "ChainError"), (He.ga K "MissError"), (He.ga K "CaseError")])).map (PySem.W.kitOne K (.ref (He.ga K "BadRow"))) = (kb 0).map some) (hex_at E 20 (e := hx_kt0) rfl)
  have kt1 := of_decide_eq_true (p := (testsOf (cxOfL [(He.ga K "BadRow"), (He.ga K "BadPolynomial"), (He.ga K "BadRanking"), (He.ga K "BadChain"), (He.ga K "BadData"), (He.ga K "BadJet"), (He.ga K "BadPaper"), (He.ga K "NoUnknown"), (He.ga K "NoEquation"), (He.ga K "NoCase"), (He.ga K "Contradicted"), (He.ga K "Knotted"), (He.ga K "Twice"), (He.ga K "OutOfPlace"), (He.ga K "TooGreat"), (He.ga K "Nothing"), (He.ga K "ChainError"), (He.ga K "MissError"), (He.ga K "CaseError")])).map (PySem.W.kitOne K (.ref (He.ga K "BadPolynomial"))) = (kb 1).map some) (hex_at E 21 (e := hx_kt1) rfl)
  have kt2 := of_decide_eq_true (p := (testsOf (cxOfL [(He.ga K "BadRow"), (He.ga K "BadPolynomial"), (He.ga K "BadRanking"), (He.ga K "BadChain"), (He.ga K "BadData"), (He.ga K "BadJet"), (He.ga K "BadPaper"), (He.ga K "NoUnknown"), (He.ga K "NoEquation"), (He.ga K "NoCase"), (He.ga K "Contradicted"), (He.ga K "Knotted"), (He.ga K "Twice"), (He.ga K "OutOfPlace"), (He.ga K "TooGreat"), (He.ga K "Nothing"), (He.ga K "ChainError"), (He.ga K "MissError"), (He.ga K "CaseError")])).map (PySem.W.kitOne K (.ref (He.ga K "BadRanking"))) = (kb 2).map some) (hex_at E 22 (e := hx_kt2) rfl)
  have kt3 := of_decide_eq_true (p := (testsOf (cxOfL [(He.ga K "BadRow"), (He.ga K "BadPolynomial"), (He.ga K "BadRanking"), (He.ga K "BadChain"), (He.ga K "BadData"), (He.ga K "BadJet"), (He.ga K "BadPaper"), (He.ga K "NoUnknown"), (He.ga K "NoEquation"), (He.ga K "NoCase"), (He.ga K "Contradicted"), (He.ga K "Knotted"), (He.ga K "Twice"), (He.ga K "OutOfPlace"), (He.ga K "TooGreat"), (He.ga K "Nothing"), (He.ga K "ChainError"), (He.ga K "MissError"), (He.ga K "CaseError")])).map (PySem.W.kitOne K (.ref (He.ga K "BadChain"))) = (kb 3).map some) (hex_at E 23 (e := hx_kt3) rfl)
  have kt4 := of_decide_eq_true (p := (testsOf (cxOfL [(He.ga K "BadRow"), (He.ga K "BadPolynomial"), (He.ga K "BadRanking"), (He.ga K "BadChain"), (He.ga K "BadData"), (He.ga K "BadJet"), (He.ga K "BadPaper"), (He.ga K "NoUnknown"), (He.ga K "NoEquation"), (He.ga K "NoCase"), (He.ga K "Contradicted"), (He.ga K "Knotted"), (He.ga K "Twice"), (He.ga K "OutOfPlace"), (He.ga K "TooGreat"), (He.ga K "Nothing"), (He.ga K "ChainError"), (He.ga K "MissError"), (He.ga K "CaseError")])).map (PySem.W.kitOne K (.ref (He.ga K "BadData"))) = (kb 4).map some) (hex_at E 24 (e := hx_kt4) rfl)
  have kt5 := of_decide_eq_true (p := (testsOf (cxOfL [(He.ga K "BadRow"), (He.ga K "BadPolynomial"), (He.ga K "BadRanking"), (He.ga K "BadChain"), (He.ga K "BadData"), (He.ga K "BadJet"), (He.ga K "BadPaper"), (He.ga K "NoUnknown"), (He.ga K "NoEquation"), (He.ga K "NoCase"), (He.ga K "Contradicted"), (He.ga K "Knotted"), (He.ga K "Twice"), (He.ga K "OutOfPlace"), (He.ga K "TooGreat"), (He.ga K "Nothing"), (He.ga K "ChainError"), (He.ga K "MissError"), (He.ga K "CaseError")])).map (PySem.W.kitOne K (.ref (He.ga K "BadJet"))) = (kb 5).map some) (hex_at E 25 (e := hx_kt5) rfl)
  have kt6 := of_decide_eq_true (p := (testsOf (cxOfL [(He.ga K "BadRow"), (He.ga K "BadPolynomial"), (He.ga K "BadRanking"), (He.ga K "BadChain"), (He.ga K "BadData"), (He.ga K "BadJet"), (He.ga K "BadPaper"), (He.ga K "NoUnknown"), (He.ga K "NoEquation"), (He.ga K "NoCase"), (He.ga K "Contradicted"), (He.ga K "Knotted"), (He.ga K "Twice"), (He.ga K "OutOfPlace"), (He.ga K "TooGreat"), (He.ga K "Nothing"), (He.ga K "ChainError"), (He.ga K "MissError"), (He.ga K "CaseError")])).map (PySem.W.kitOne K (.ref (He.ga K "BadPaper"))) = (kb 6).map some) (hex_at E 26 (e := hx_kt6) rfl)
  have kt7 := of_decide_eq_true (p := (testsOf (cxOfL [(He.ga K "BadRow"), (He.ga K "BadPolynomial"), (He.ga K "BadRanking"), (He.ga K "BadChain"), (He.ga K "BadData"), (He.ga K "BadJet"), (He.ga K "BadPaper"), (He.ga K "NoUnknown"), (He.ga K "NoEquation"), (He.ga K "NoCase"), (He.ga K "Contradicted"), (He.ga K "Knotted"), (He.ga K "Twice"), (He.ga K "OutOfPlace"), (He.ga K "TooGreat"), (He.ga K "Nothing"), (He.ga K "ChainError"), (He.ga K "MissError"), (He.ga K "CaseError")])).map (PySem.W.kitOne K (.ref (He.ga K "NoUnknown"))) = (kb 7).map some) (hex_at E 27 (e := hx_kt7) rfl)
  have kt8 := of_decide_eq_true (p := (testsOf (cxOfL [(He.ga K "BadRow"), (He.ga K "BadPolynomial"), (He.ga K "BadRanking"), (He.ga K "BadChain"), (He.ga K "BadData"), (He.ga K "BadJet"), (He.ga K "BadPaper"), (He.ga K "NoUnknown"), (He.ga K "NoEquation"), (He.ga K "NoCase"), (He.ga K "Contradicted"), (He.ga K "Knotted"), (He.ga K "Twice"), (He.ga K "OutOfPlace"), (He.ga K "TooGreat"), (He.ga K "Nothing"), (He.ga K "ChainError"), (He.ga K "MissError"), (He.ga K "CaseError")])).map (PySem.W.kitOne K (.ref (He.ga K "NoEquation"))) = (kb 8).map some) (hex_at E 28 (e := hx_kt8) rfl)
  have kt9 := of_decide_eq_true (p := (testsOf (cxOfL [(He.ga K "BadRow"), (He.ga K "BadPolynomial"), (He.ga K "BadRanking"), (He.ga K "BadChain"), (He.ga K "BadData"), (He.ga K "BadJet"), (He.ga K "BadPaper"), (He.ga K "NoUnknown"), (He.ga K "NoEquation"), (He.ga K "NoCase"), (He.ga K "Contradicted"), (He.ga K "Knotted"), (He.ga K "Twice"), (He.ga K "OutOfPlace"), (He.ga K "TooGreat"), (He.ga K "Nothing"), (He.ga K "ChainError"), (He.ga K "MissError"), (He.ga K "CaseError")])).map (PySem.W.kitOne K (.ref (He.ga K "NoCase"))) = (kb 9).map some) (hex_at E 29 (e := hx_kt9) rfl)
  have kt10 := of_decide_eq_true (p := (testsOf (cxOfL [(He.ga K "BadRow"), (He.ga K "BadPolynomial"), (He.ga K "BadRanking"), (He.ga K "BadChain"), (He.ga K "BadData"), (He.ga K "BadJet"), (He.ga K "BadPaper"), (He.ga K "NoUnknown"), (He.ga K "NoEquation"), (He.ga K "NoCase"), (He.ga K "Contradicted"), (He.ga K "Knotted"), (He.ga K "Twice"), (He.ga K "OutOfPlace"), (He.ga K "TooGreat"), (He.ga K "Nothing"), (He.ga K "ChainError"), (He.ga K "MissError"), (He.ga K "CaseError")])).map (PySem.W.kitOne K (.ref (He.ga K "Contradicted"))) = (kb 10).map some) (hex_at E 30 (e := hx_kt10) rfl)
  have kt11 := of_decide_eq_true (p := (testsOf (cxOfL [(He.ga K "BadRow"), (He.ga K "BadPolynomial"), (He.ga K "BadRanking"), (He.ga K "BadChain"), (He.ga K "BadData"), (He.ga K "BadJet"), (He.ga K "BadPaper"), (He.ga K "NoUnknown"), (He.ga K "NoEquation"), (He.ga K "NoCase"), (He.ga K "Contradicted"), (He.ga K "Knotted"), (He.ga K "Twice"), (He.ga K "OutOfPlace"), (He.ga K "TooGreat"), (He.ga K "Nothing"), (He.ga K "ChainError"), (He.ga K "MissError"), (He.ga K "CaseError")])).map (PySem.W.kitOne K (.ref (He.ga K "Knotted"))) = (kb 11).map some) (hex_at E 31 (e := hx_kt11) rfl)
  have kt12 := of_decide_eq_true (p := (testsOf (cxOfL [(He.ga K "BadRow"), (He.ga K "BadPolynomial"), (He.ga K "BadRanking"), (He.ga K "BadChain"), (He.ga K "BadData"), (He.ga K "BadJet"), (He.ga K "BadPaper"), (He.ga K "NoUnknown"), (He.ga K "NoEquation"), (He.ga K "NoCase"), (He.ga K "Contradicted"), (He.ga K "Knotted"), (He.ga K "Twice"), (He.ga K "OutOfPlace"), (He.ga K "TooGreat"), (He.ga K "Nothing"), (He.ga K "ChainError"), (He.ga K "MissError"), (He.ga K "CaseError")])).map (PySem.W.kitOne K (.ref (He.ga K "Twice"))) = (kb 12).map some) (hex_at E 32 (e := hx_kt12) rfl)
  have kt13 := of_decide_eq_true (p := (testsOf (cxOfL [(He.ga K "BadRow"), (He.ga K "BadPolynomial"), (He.ga K "BadRanking"), (He.ga K "BadChain"), (He.ga K "BadData"), (He.ga K "BadJet"), (He.ga K "BadPaper"), (He.ga K "NoUnknown"), (He.ga K "NoEquation"), (He.ga K "NoCase"), (He.ga K "Contradicted"), (He.ga K "Knotted"), (He.ga K "Twice"), (He.ga K "OutOfPlace"), (He.ga K "TooGreat"), (He.ga K "Nothing"), (He.ga K "ChainError"), (He.ga K "MissError"), (He.ga K "CaseError")])).map (PySem.W.kitOne K (.ref (He.ga K "OutOfPlace"))) = (kb 13).map some) (hex_at E 33 (e := hx_kt13) rfl)
  have kt14 := of_decide_eq_true (p := (testsOf (cxOfL [(He.ga K "BadRow"), (He.ga K "BadPolynomial"), (He.ga K "BadRanking"), (He.ga K "BadChain"), (He.ga K "BadData"), (He.ga K "BadJet"), (He.ga K "BadPaper"), (He.ga K "NoUnknown"), (He.ga K "NoEquation"), (He.ga K "NoCase"), (He.ga K "Contradicted"), (He.ga K "Knotted"), (He.ga K "Twice"), (He.ga K "OutOfPlace"), (He.ga K "TooGreat"), (He.ga K "Nothing"), (He.ga K "ChainError"), (He.ga K "MissError"), (He.ga K "CaseError")])).map (PySem.W.kitOne K (.ref (He.ga K "TooGreat"))) = (kb 14).map some) (hex_at E 34 (e := hx_kt14) rfl)
  have kt15 := of_decide_eq_true (p := (testsOf (cxOfL [(He.ga K "BadRow"), (He.ga K "BadPolynomial"), (He.ga K "BadRanking"), (He.ga K "BadChain"), (He.ga K "BadData"), (He.ga K "BadJet"), (He.ga K "BadPaper"), (He.ga K "NoUnknown"), (He.ga K "NoEquation"), (He.ga K "NoCase"), (He.ga K "Contradicted"), (He.ga K "Knotted"), (He.ga K "Twice"), (He.ga K "OutOfPlace"), (He.ga K "TooGreat"), (He.ga K "Nothing"), (He.ga K "ChainError"), (He.ga K "MissError"), (He.ga K "CaseError")])).map (PySem.W.kitOne K (.ref (He.ga K "Nothing"))) = (kb 15).map some) (hex_at E 35 (e := hx_kt15) rfl)
  have sysF : HdC.sysB K = true := hex_at E 36 (e := hx_sysF) rfl
  have vAX := Hd.tupAt_ok (hex_at E 37 (e := hx_vAX) rfl)
  have vNO := Hd.tupAt_ok (hex_at E 38 (e := hx_vNO) rfl)
  have vON := Hd.tupAt_ok (hex_at E 39 (e := hx_vON) rfl)
  have ty13 := of_decide_eq_true (p := PySem.W.typeIn K (.ref (He.ga K "OutOfPlace")) = some (.type "type")) (hex_at E 40 (e := hx_ty13) rfl)
  have gGC : PySem.W.nsIn K mainGlobals "gcd" = some (some (.builtin "math.gcd")) := (List.cons.inj EV).1
  have z16 : PySem.W.handedIn (.builtin "ValueError.__init__") = true := by decide +kernel
  have Tx : XT K mg (cxOfL [(He.ga K "BadRow"), (He.ga K "BadPolynomial"), (He.ga K "BadRanking"), (He.ga K "BadChain"), (He.ga K "BadData"), (He.ga K "BadJet"), (He.ga K "BadPaper"), (He.ga K "NoUnknown"), (He.ga K "NoEquation"), (He.ga K "NoCase"), (He.ga K "Contradicted"), (He.ga K "Knotted"), (He.ga K "Twice"), (He.ga K "OutOfPlace"), (He.ga K "TooGreat"), (He.ga K "Nothing"), (He.ga K "ChainError"), (He.ga K "MissError"), (He.ga K "CaseError")]) := by
    refine ⟨?_, ?_, n0_row, n0_word, n1_number, n2_place, n3_place, n4_place, n5_place, n6_place, n7_name, n8_number, n9_number, n10_number, n11_number, ?_, (PySem.W.mg_of X G gc_BadRow), (PySem.W.mg_of X G gc_BadPolynomial), (PySem.W.mg_of X G gc_BadRanking), (PySem.W.mg_of X G gc_BadChain), (PySem.W.mg_of X G gc_BadData), (PySem.W.mg_of X G gc_BadJet), (PySem.W.mg_of X G gc_BadPaper), (PySem.W.mg_of X G gc_NoUnknown), (PySem.W.mg_of X G gc_NoEquation), (PySem.W.mg_of X G gc_NoCase), (PySem.W.mg_of X G gc_Contradicted), (PySem.W.mg_of X G gc_Knotted), (PySem.W.mg_of X G gc_Twice), (PySem.W.mg_of X G gc_OutOfPlace), (PySem.W.mg_of X G gc_TooGreat), (PySem.W.mg_of X G gc_Nothing), (PySem.W.mg_of X G gc_ChainError), (PySem.W.mg_of X G gc_MissError), (PySem.W.mg_of X G gc_CaseError), m_isinstance, m_ValueError, m_LookupError, m_RuntimeError⟩
    · intro i hi
      match i, hi with
      | 0, _ => exact xc_of x0
      | 1, _ => exact xc_of x1
      | 2, _ => exact xc_of x2
      | 3, _ => exact xc_of x3
      | 4, _ => exact xc_of x4
      | 5, _ => exact xc_of x5
      | 6, _ => exact xc_of x6
      | 7, _ => exact xc_of x7
      | 8, _ => exact xc_of x8
      | 9, _ => exact xc_of x9
      | 10, _ => exact xc_of x10
      | 11, _ => exact xc_of x11
      | 12, _ => exact xc_of x12
      | 13, _ => exact xc_of x13
      | 14, _ => exact xc_of x14
      | 15, _ => exact xc_of x15
      | n + 16, h => exact absurd h (by omega)
    · intro i hi h12
      match i, hi, h12 with
      | 12, _, _ => exact q12
      | 13, _, _ => exact q13
      | 14, _, _ => exact q14
      | 15, _, _ => exact q15
      | 0, _, h | 1, _, h | 2, _, h | 3, _, h | 4, _, h | 5, _, h | 6, _, h | 7, _, h | 8, _, h | 9, _, h | 10, _, h | 11, _, h => exact absurd h (by decide)
      | n + 16, h, _ => exact absurd h (by omega)
    · intro i hi
      match i, hi with
      | 0, _ => exact kt0
      | 1, _ => exact kt1
      | 2, _ => exact kt2
      | 3, _ => exact kt3
      | 4, _ => exact kt4
      | 5, _ => exact kt5
      | 6, _ => exact kt6
      | 7, _ => exact kt7
      | 8, _ => exact kt8
      | 9, _ => exact kt9
      | 10, _ => exact kt10
      | 11, _ => exact kt11
      | 12, _ => exact kt12
      | 13, _ => exact kt13
      | 14, _ => exact kt14
      | 15, _ => exact kt15
      | n + 16, h => exact absurd h (by omega)
  have hx : ∀ i, i < 16 → (kb i).getD 16 false = true → PySem.W.exmOne K (.ref ((cxOfL [(He.ga K "BadRow"), (He.ga K "BadPolynomial"), (He.ga K "BadRanking"), (He.ga K "BadChain"), (He.ga K "BadData"), (He.ga K "BadJet"), (He.ga K "BadPaper"), (He.ga K "NoUnknown"), (He.ga K "NoEquation"), (He.ga K "NoCase"), (He.ga K "Contradicted"), (He.ga K "Knotted"), (He.ga K "Twice"), (He.ga K "OutOfPlace"), (He.ga K "TooGreat"), (He.ga K "Nothing"), (He.ga K "ChainError"), (He.ga K "MissError"), (He.ga K "CaseError")]) i)) (.ref ((cxOfL [(He.ga K "BadRow"), (He.ga K "BadPolynomial"), (He.ga K "BadRanking"), (He.ga K "BadChain"), (He.ga K "BadData"), (He.ga K "BadJet"), (He.ga K "BadPaper"), (He.ga K "NoUnknown"), (He.ga K "NoEquation"), (He.ga K "NoCase"), (He.ga K "Contradicted"), (He.ga K "Knotted"), (He.ga K "Twice"), (He.ga K "OutOfPlace"), (He.ga K "TooGreat"), (He.ga K "Nothing"), (He.ga K "ChainError"), (He.ga K "MissError"), (He.ga K "CaseError")]) 16)) = some true := by
    intro i hi hk
    match i, hi, hk with
    | 0, _, _ => exact xm_BadRow_ChainError
    | 1, _, _ => exact xm_BadPolynomial_ChainError
    | 2, _, _ => exact xm_BadRanking_ChainError
    | 3, _, _ => exact xm_BadChain_ChainError
    | 4, _, _ => exact xm_BadData_ChainError
    | 5, _, _ => exact xm_BadJet_ChainError
    | 6, _, _ => exact xm_BadPaper_ChainError
    | 12, _, _ => exact xm_Twice_ChainError
    | 13, _, _ => exact xm_OutOfPlace_ChainError
    | 14, _, _ => exact xm_TooGreat_ChainError
    | 7, _, h | 8, _, h | 9, _, h | 10, _, h | 11, _, h | 15, _, h => exact absurd h (by decide)
    | n + 16, h, _ => exact absurd h (by omega)
  let TT : List (Addr × Str) := []
  refine ⟨fd24, [], spLaw K TT, (fun _ h => absurd h List.not_mem_nil), (fun _ h => absurd h List.not_mem_nil), (fun _ h => absurd h List.not_mem_nil), fun s v => hb s [v] rfl, fun H a ns hl _ hT hS => ⟨a, ns, rfl, hS, hl, fun p hp => absurd hp List.not_mem_nil, fun _ => rfl⟩, fun base hKb hNb hTB => ?_⟩
  have ROP : RQ K mg "OutOfPlace" (He.ga K "OutOfPlace") := ⟨q13, kq13, ⟨(xc_of x13).ex, ty13⟩, (PySem.W.mg_of X G gc_OutOfPlace)⟩
  have hS : SysK K := sysB_ok sysF
  have vA : ∀ H, Dp K H (.ref (He.ga K "AXES")) (.tuple ((["x", "y"] : List Str).map PyData.str)) := fun H => .tup (vAX H) (dps_of_strs ["x", "y"])
  have vN : ∀ H, Dp K H (.ref (He.ga K "NOUGHT")) (.tuple [.int 0, .int 1]) := fun H => .tup (vNO H) (.cons (.int 0) (.cons (.int 1) .nil))
  have vO : ∀ H, Dp K H (.ref (He.ga K "ONE")) (.tuple [.int 1, .int 1]) := fun H => .tup (vON H) (.cons (.int 1) (.cons (.int 1) .nil))
  have C0_ : Cal l.prog w K mg base "_law_draw" 1 ["_law_cell", "_law_k"] spDraw (He.ga K "_law_draw") _ := ⟨ok_Ldraw F0, (PySem.W.mg_of X G a0), k0, b0⟩
  have gM := ok_Lmixed (P := l.prog) (w := w) (mg := mg) (base := base) F1
  have C2_ : Cal l.prog w K mg base "_law_digit" 2 ["_law_state", "_law_many"] spDigitW (He.ga K "_law_digit") _ := ⟨ok_LdigitW F2 gM m_range (PySem.W.mg_of X G a1) k1 b1, (PySem.W.mg_of X G a2), k2, b2⟩
  have C3_ : Cal l.prog w K mg base "_law_texts" 3 ["_law_state"] (spTx K TT) (He.ga K "_law_texts") _ := ⟨ok_Ltexts F3 C2_ m_len m_range, (PySem.W.mg_of X G a3), k3, b3⟩
  have C4_ : Cal l.prog w K mg base "_law_lowest" 1 ["_law_top", "_law_bottom"] (spP (Rlow2 K)) (He.ga K "_law_lowest") _ := ⟨ok_Llowest F4 m_abs, (PySem.W.mg_of X G a4), k4, b4⟩
  have C5_ : Cal l.prog w K mg base "_law_fraction" 3 ["_law_state"] (spFr K TT) (He.ga K "_law_fraction") _ := ⟨ok_Lfraction F5 C2_ C4_, (PySem.W.mg_of X G a5), k5, b5⟩
  have C6_ : Cal l.prog w K mg base "sum_of" 1 ["one", "other"] (spP (Rsum K)) (He.ga K "sum_of") _ := ⟨ok_sum_of F6 (PySem.W.mg_of X G gGC), (PySem.W.mg_of X G a6), k6, b6⟩
  have C7_ : Cal l.prog w K mg base "difference" 2 ["one", "other"] (spP (Rdif K)) (He.ga K "difference") _ := ⟨ok_difference F7 C6_, (PySem.W.mg_of X G a7), k7, b7⟩
  have C8_ : Cal l.prog w K mg base "product" 1 ["one", "other"] (spP (Rprod K)) (He.ga K "product") _ := ⟨ok_product F8 (PySem.W.mg_of X G gGC), (PySem.W.mg_of X G a8), k8, b8⟩
  have C9_ : Cal l.prog w K mg base "is_whole" 2 ["thing"] (spP (RBE K wholeB)) (He.ga K "is_whole") _ := ⟨ok_is_whole F9 m_isinstance m_int m_bool, (PySem.W.mg_of X G a9), k9, b9⟩
  have C10_ : Cal l.prog w K mg base "lowest" 1 ["top", "bottom"] (spP (Rlow K)) (He.ga K "lowest") _ := ⟨ok_lowest F10 (PySem.W.mg_of X G gGC), (PySem.W.mg_of X G a10), k10, b10⟩
  have C11_ : CalX l.prog w K mg base "fraction" 3 ["top", "bottom"] (spO (RfrO K ((cxOfL [(He.ga K "BadRow"), (He.ga K "BadPolynomial"), (He.ga K "BadRanking"), (He.ga K "BadChain"), (He.ga K "BadData"), (He.ga K "BadJet"), (He.ga K "BadPaper"), (He.ga K "NoUnknown"), (He.ga K "NoEquation"), (He.ga K "NoCase"), (He.ga K "Contradicted"), (He.ga K "Knotted"), (He.ga K "Twice"), (He.ga K "OutOfPlace"), (He.ga K "TooGreat"), (He.ga K "Nothing"), (He.ga K "ChainError"), (He.ga K "MissError"), (He.ga K "CaseError")]) 13))) (He.ga K "fraction") _ := ⟨ok_fraction F11 C9_ C10_ ROP, (PySem.W.mg_of X G a11), k11, b11⟩
  have C12_ : CalX l.prog w K mg base "quotient" 4 ["one", "other"] (spO (RquO K ((cxOfL [(He.ga K "BadRow"), (He.ga K "BadPolynomial"), (He.ga K "BadRanking"), (He.ga K "BadChain"), (He.ga K "BadData"), (He.ga K "BadJet"), (He.ga K "BadPaper"), (He.ga K "NoUnknown"), (He.ga K "NoEquation"), (He.ga K "NoCase"), (He.ga K "Contradicted"), (He.ga K "Knotted"), (He.ga K "Twice"), (He.ga K "OutOfPlace"), (He.ga K "TooGreat"), (He.ga K "Nothing"), (He.ga K "ChainError"), (He.ga K "MissError"), (He.ga K "CaseError")]) 13))) (He.ga K "quotient") _ := ⟨ok_quotient F12 C11_, (PySem.W.mg_of X G a12), k12, b12⟩
  have C13_ : Cal l.prog w K mg base "_law_kinds" 1 ["_law_error"] (spKinds (cxOfL [(He.ga K "BadRow"), (He.ga K "BadPolynomial"), (He.ga K "BadRanking"), (He.ga K "BadChain"), (He.ga K "BadData"), (He.ga K "BadJet"), (He.ga K "BadPaper"), (He.ga K "NoUnknown"), (He.ga K "NoEquation"), (He.ga K "NoCase"), (He.ga K "Contradicted"), (He.ga K "Knotted"), (He.ga K "Twice"), (He.ga K "OutOfPlace"), (He.ga K "TooGreat"), (He.ga K "Nothing"), (He.ga K "ChainError"), (He.ga K "MissError"), (He.ga K "CaseError")])) (He.ga K "_law_kinds") _ := ⟨ok_Lkinds F13 Tx, (PySem.W.mg_of X G a13), k13, b13⟩
  have C14_ : Cal l.prog w K mg base "_law_told" 5 ["_law_way", "_law_one", "_law_other"] (spP (Rtl K ((cxOfL [(He.ga K "BadRow"), (He.ga K "BadPolynomial"), (He.ga K "BadRanking"), (He.ga K "BadChain"), (He.ga K "BadData"), (He.ga K "BadJet"), (He.ga K "BadPaper"), (He.ga K "NoUnknown"), (He.ga K "NoEquation"), (He.ga K "NoCase"), (He.ga K "Contradicted"), (He.ga K "Knotted"), (He.ga K "Twice"), (He.ga K "OutOfPlace"), (He.ga K "TooGreat"), (He.ga K "Nothing"), (He.ga K "ChainError"), (He.ga K "MissError"), (He.ga K "CaseError")]) 13))) (He.ga K "_law_told") _ := ⟨ok_Ltold F14 C11_ C12_ C13_ Tx hx, (PySem.W.mg_of X G a14), k14, b14⟩
  have C15_ : Cal l.prog w K mg base "whole_text" 1 ["number"] (spP (Rwt K)) (He.ga K "whole_text") _ := ⟨ok_whole_text F15 m_abs m_divmod m_str, (PySem.W.mg_of X G a15), k15, b15⟩
  have C16_ : Cal l.prog w K mg base "number_text" 2 ["one"] (spP (Rnt K)) (He.ga K "number_text") _ := ⟨ok_number_text F16 C15_, (PySem.W.mg_of X G a16), k16, b16⟩
  have C17_ : Cal l.prog w K mg base "_law_reckoned_right" 6 ["_law_one", "_law_other"] (spP (Rrr K)) (He.ga K "_law_reckoned_right") _ := ⟨ok_Lreckoned_right F17 C4_ C6_ C7_ C8_ C14_ C16_ m_str, (PySem.W.mg_of X G a17), k17, b17⟩
  have C18_ : Cal l.prog w K mg base "is_fraction" 3 ["thing"] (spP (RBE K frB)) (He.ga K "is_fraction") _ := ⟨ok_is_fraction F18 C9_ m_isinstance m_tuple m_len (PySem.W.mg_of X G gGC), (PySem.W.mg_of X G a18), k18, b18⟩
  have C19_ : Cal l.prog w K mg base "is_axis" 1 ["thing"] (spP (RBE K axB)) (He.ga K "is_axis") _ := ⟨ok_is_axis F19 m_isinstance m_str (PySem.W.mg_of X G go_AXES) vA, (PySem.W.mg_of X G a19), k19, b19⟩
  have C20_ : Cal l.prog w K mg base "is_among" 3 ["thing", "least", "most"] (spP (RamgE K)) (He.ga K "is_among") _ := ⟨ok_is_among F20 C9_, (PySem.W.mg_of X G a20), k20, b20⟩
  have C21_ : Cal l.prog w K mg base "is_name" 2 ["thing"] (spP (RBE K nameB)) (He.ga K "is_name") _ := ⟨ok_is_name F21 m_isinstance m_str m_len m_all (PySem.W.mg_of X G gML) (PySem.W.mg_of X G gLE), (PySem.W.mg_of X G a21), k21, b21⟩
  have C22_ : Cal l.prog w K mg base "words_of" 1 ["row"] (spP (Rwo K)) (He.ga K "words_of") _ := ⟨ok_words_of F22 m_isinstance m_str, (PySem.W.mg_of X G a22), k22, b22⟩
  have C23_ : Gd.CalG l.prog w K mg base "_law_word_right" 5 ["_law_word"] (spP (Rwr K)) (He.ga K "_law_word_right") _ := ⟨ok_Lword_right F23 C21_ C19_ C9_ C20_ C18_ C22_ m_repr m_isinstance m_list m_len, (PySem.W.mg_of X G a23), k23, b23⟩
  exact ok_law F24 C0_ C3_ C5_ C17_ C2_ C4_ C14_ C11_ C18_ C9_ C19_ C20_ C21_ C22_ m_enumerate m_sum m_repr m_range m_abs C23_ hS bdF vdF (PySem.W.mg_of X G go_NOUGHT) vN (PySem.W.mg_of X G go_ONE) vO (PySem.W.mg_of X G go_AXES) vA
theorem walk2 {l : PySem.W.OpenLaw} {q : Program} {loose : List Str} {XP : (Str → Option Value) → Heap → Prop} {YP : World → Heap → Prop} {d : DefRec} (hn : l.most = some 63) (hdf : d.params.defaults = [])
    (F : ∀ (w : World) (mg : Str → Option Value) (fa : Addr) (h : Heap), YP w h → h.Ns mainGlobals mg → mg d.name = some (.ref fa) → ∃ K : PySem.W.Frag, K.In h ∧ Gd.LawAtG l w K 8 63 "_law_script" mg fa h) :
    PySem.W.WalkO q loose XP YP l.row.toRowW d [] (fun f vs => PySem.call f vs) :=
  Att.attach_callB hn hdf fun w _ _ mg _ fa _ _ _ _ a _ ns G Y _ _ _ hmg hobj hints hlen hbits hg => by
    obtain ⟨K, KX, fd, cs, sp, hT, nT, C, hb, hsp, hF⟩ := F w mg fa _ Y G.T.g hmg
    exact Gd.lawG KX G.T.g G.T.b G.T.builtins G.T.nolimit hg hT nT C G.T.bmain hobj hints (Nat.le_trans hlen (by decide)) ⟨rfl, by decide, by decide⟩ hF hb fun H hH hS => hsp H a ns hlen hbits hH hS
end K12
open PySem PySem.W PySem.Calls PyProof.Rows
set_option maxRecDepth 100000 in
set_option maxHeartbeats 0 in
theorem PySem.Challenge.cw_rankedchains_k01_words_and_numbers_holds : PySem.Challenge.rw_rankedchains_k01_words_and_numbers.Holds := by
  w_on; o_law
  refine HandSHeadRun.head_imp (r := OpenLaw.row PySem.Challenge.rw_rankedchains_k01_words_and_numbers) (q := view (OpenLaw.row PySem.Challenge.rw_rankedchains_k01_words_and_numbers).prog [0, 53]) (H := K12.hk) (ob := K12.hob) (M := 7000) (loose := K12.hnames) (d := HandSHeadRun.topDef (OpenLaw.row PySem.Challenge.rw_rankedchains_k01_words_and_numbers).prog 53) (kwd := []) K12.hob_eq
    K12.hrun (by kernel_rfl) (by kernel_rfl) (by kernel_rfl) (by rfl) (by first | assumption | decide +kernel) (by decide +kernel) ⟨rfl, rfl, rfl, rfl, rfl, by decide +kernel⟩ ?hw ?hc
  case hw => w_witness2
  case hc =>
    refine K12.walk2 (l := PySem.Challenge.rw_rankedchains_k01_words_and_numbers) rfl (by kernel_rfl) (fun w mg fa h Y G hmg0 => ?_)
    obtain ⟨K, KX, c, e, ev, lm⟩ := Y
    have hmg : mg ("law" : PySem.Str) = some (.ref fa) := by
      have e : (HandSHeadRun.topDef (OpenLaw.row PySem.Challenge.rw_rankedchains_k01_words_and_numbers).prog 53).name = ("law" : PySem.Str) := by kernel_rfl
      rw [← e]
      exact hmg0
    exact ⟨K, KX, K12.all_mk2 KX G hmg c e ev lm⟩
#print axioms PySem.Challenge.cw_rankedchains_k01_words_and_numbers_holds
