import PyProof.Rows.All
import Wide.All
import OpenK.AllK
import Wide.FinOn
import HandS.ForMost
import HandS.ForExc
import HandS.Walk
import HandS.Strs
import HandS.Deep
import HandS.Conv
import HandS.IsInst
import HandS.Style
import HandS.Evl
import HandS.Wide
import HandS.Set
import HandS.Nested
import HandS.EndTab
import KE.SortKeyHeap
import KE.KDictCopyH
import HandS.Head0
import HandS.Head1
import HandS.Head2
import HandS.Head3
import HandS.HeadEnd
import HandS.HeadHook1
import HandS.HeadHook2
import HandS.Words
import HandS.WordsExc
import HandS.ExcInit
import KE.KExcInit
import KE.KExcIs
import HandS.ExcOwn
import KE.KDictPairs
import KE.DataMinKey
import KE.DataCmp
import HandS.More
import HandS.Defaults
import HandS.Gcd
import HandS.Zip
import HandS.TryOnly
import HandS.Conv
import HandS.TupAny
import HandS.NoneIn
import KE.SortData
import KE.SortCalls
import KE.KDictKeyed
import PyProof.DictRoadsH
import PyProof.DictCompW
import HandS.DictComp
import HandS.DictTup
import HandS.RaiseMore
import HandS.Comp
import HandS.Lambda
import HandS.SortKw
import PyProof.ReprRoads
import PyProof.CallFns
import PyProof.ReprLen
import PyProof.StrLawsRepr
import PyProof.ReprText
import PyProof.DictItems
import KE.KRevSl
import KE.KDictWalk
import KE.GoesMore
import KE.GoesEnum
import KE.LtData
import HandS.New
import HandS.ExcValue
import HandS.MakeKw
import KE.DataMinMax
import PySem.Challenge.RW_rankedchains_k02_polynomials_looked_at
set_option Elab.async false
set_option maxRecDepth 100000
set_option maxHeartbeats 4000000
namespace Hd
set_option autoImplicit false
open PySem PySem.Spec PySem.W PyProof.Rows L2 He
theorem fun_of {K : PySem.W.Frag} {x qual : Str} {st : Stmt} {f : Addr} {fd : FuncData} {kws : List (Str × V)} (F : FunD K x qual (defArgs st) (defBody st) (defScope st) [] kws f fd) : Fun K x qual st f fd := by
  obtain ⟨⟨oc, od, dV, kV, doc, pm, an, cdv, ct, osl, e, lk, hc, hd, hk⟩, kp⟩ := F
  rcases hd with ⟨_, rfl⟩ | ⟨ne, _⟩
  · exact ⟨⟨oc, od, kV, doc, pm, an, cdv, ct, osl, e, lk, hc⟩, kp⟩
  · exact absurd rfl ne
/-- where a def's code stands, and its table -/
def fcode (K : PySem.W.Frag) (x : Str) : Addr := match K.lookup (ga K x) with
  | some ⟨_, _, .func fd, _⟩ => (match fd.code with | .ref c => c | _ => 0)
  | _ => 0
def ctab (K : PySem.W.Frag) (c : Addr) : Addr := match K.lookup c with
  | some ⟨_, _, .fields vs, _⟩ => (match (vs[11]? : Option Value) with | some (Value.ref p) => p | _ => 0)
  | _ => 0
def lamB (K : PySem.W.Frag) (x : Str) : Bool := (match K.lookup (ga K x) with
  | some ⟨_, _, .func fd, _⟩ => decide (fd.code = .ref (fcode K x))
  | _ => false) && (codeHdIn K (fcode K x) (ctab K (fcode K x)) && (K.lookup (ctab K (fcode K x))).isNone)
def tabB (g : Addr → Option Obj) (tb : Addr) : Bool := match g tb with
  | some ⟨c, d, .fields vs, sl⟩ => decide (c = .none) && (d.isNone && (vs.isEmpty && sl.isEmpty))
  | _ => false
theorem tabB_ok {g : Addr → Option Obj} {tb : Addr} (h : tabB g tb = true) : g tb = some (tabObj #[]) := by
  unfold tabB at h
  split at h
  · rename_i c d vs sl e
    rw [e]
    simp only [Bool.and_eq_true, decide_eq_true_eq, Option.isNone_iff_eq_none, Array.isEmpty_iff] at h
    obtain ⟨rfl, rfl, rfl, rfl⟩ := h
    rfl
  · cases h
/-- what stands at the end, at these addresses -/
def frX (g : Addr → Option Obj) (as : List Addr) : PySem.W.Frag := frG g as
theorem frX_in {h : Heap} {as : List Addr} : (frX h.get? as).In h := frG_in
def obsX (n : List Addr) (fa : List Fa) (fn : List DefD) (lams : List Str) (ex : PySem.W.Frag → Bool) (vf : PySem.W.Frag → List (Option (Option Value))) (g : Addr → Option Obj) : AlD × Bool × List (Option (Option Value)) :=
  (obsD fa fn (frX g n), (ex (frX g n) && lams.all fun x => lamB (frX g n) x && tabB g (ctab (frX g n) (fcode (frX g n) x))), vf (frX g n))
def hookX (n : List Addr) (fa : List Fa) (fn : List DefD) (lams : List Str) (ex : PySem.W.Frag → Bool) (vf : PySem.W.Frag → List (Option (Option Value))) (vv : List (Option (Option Value))) : PySem.W.Hook where
  α := AlD × Bool × List (Option (Option Value))
  obs s := obsX n fa fn lams ex vf s.heap.get?
  val _ := (valD fn, true, vv)
  says _ h := ∃ K : PySem.W.Frag, K.In h ∧ SaysD fa fn K ∧ ex K = true ∧ vf K = vv ∧ ∀ x ∈ lams, lamB K x = true ∧ h.get? (ctab K (fcode K x)) = some (tabObj #[])
  of w s e := by
    have e1 : obsD fa fn (frX s.heap.get? n) = valD fn := congrArg Prod.fst e
    have e2 : (ex (frX s.heap.get? n) && lams.all fun x => lamB (frX s.heap.get? n) x && tabB s.heap.get? (ctab (frX s.heap.get? n) (fcode (frX s.heap.get? n) x))) = true := congrArg (fun z => z.2.1) e
    have e3 : vf (frX s.heap.get? n) = vv := congrArg (fun z => z.2.2) e
    rw [Bool.and_eq_true, List.all_eq_true] at e2
    exact ⟨frX s.heap.get? n, frX_in, e1, e2.1, e3, fun x hx => by
      have := e2.2 x hx
      rw [Bool.and_eq_true] at this
      exact ⟨this.1, tabB_ok this.2⟩⟩
  keeps w h h' := fun ⟨K, k, c, e, v, l⟩ m => ⟨K, fun a o z => m a o (k a o z), c, e, v, fun x hx => ⟨(l x hx).1, m _ _ (l x hx).2⟩⟩
theorem obsX_eq {n : List Addr} {fa : List Fa} {fn : List DefD} {lams : List Str} {ex : PySem.W.Frag → Bool} {vf : PySem.W.Frag → List (Option (Option Value))} {vv : List (Option (Option Value))} {g : Addr → Option Obj} {s : Shared} (h : ∀ a, g a = s.heap.get? a) : obsX n fa fn lams ex vf g = (hookX n fa fn lams ex vf vv).obs s := by
  have e := funext h
  rw [e]
  rfl
theorem glo_ns {K : PySem.W.Frag} {x : Str} (h : Fa.ok K (.glo x) = true) : nsIn K mainGlobals x = some (some (.ref (ga K x))) := of_decide_eq_true h
theorem free_ns {K : PySem.W.Frag} {x : Str} (h : Fa.ok K (.free x) = true) : nsIn K mainGlobals x = some none := of_decide_eq_true h
theorem int_ns {K : PySem.W.Frag} {x : Str} {i : Int} (h : Fa.ok K (.int x i) = true) : ∃ tk, nsIn K mainGlobals x = some (some (.int i tk)) := by
  have h : (match nsIn K mainGlobals x with | some (some (Value.int j _)) => decide (j = i) | _ => false) = true := h
  split at h
  · rename_i j tk e
    rw [← of_decide_eq_true h]
    exact ⟨tk, e⟩
  · cases h
theorem str_ns {K : PySem.W.Frag} {x z : Str} (h : Fa.ok K (.str x z) = true) : ∃ tk, nsIn K mainGlobals x = some (some (.str z tk)) := by
  have h : (match nsIn K mainGlobals x with | some (some (Value.str j _)) => decide (j = z) | _ => false) = true := h
  split at h
  · rename_i j tk e
    rw [← of_decide_eq_true h]
    exact ⟨tk, e⟩
  · cases h
def isVal (o : Option CFound) (v : Value) : Bool := match o with
  | some (.val u) => decide (u = v)
  | _ => false
theorem isVal_ok {o : Option CFound} {v : Value} (h : isVal o v = true) : o = some (.val v) := by
  unfold isVal at h
  split at h
  · rw [of_decide_eq_true h]
  · cases h
end Hd
namespace HdC
set_option autoImplicit false
open PySem PySem.Spec PySem.W
def testsOf (cx : Nat → Addr) : List Value := [.ref (cx 0), .ref (cx 1), .ref (cx 2), .ref (cx 3), .ref (cx 4), .ref (cx 5), .ref (cx 6), .ref (cx 12), .ref (cx 13), .ref (cx 14), .ref (cx 7), .ref (cx 8), .ref (cx 9), .ref (cx 15), .ref (cx 10), .ref (cx 11), .ref (cx 16), .type "ValueError", .ref (cx 17), .type "LookupError", .ref (cx 18), .type "RuntimeError"]
def nmOf : List Str := ["row", "polynomial", "ranking", "chain", "data", "jet", "paper", "twice", "place", "great", "unknown", "equation", "case", "nothing", "contradicted", "knotted", "ours", "value", "miss", "lookup", "end", "runtime"]
def kb : Nat → List Bool
  | 0 => [true, false, false, false, false, false, false, false, false, false, false, false, false, false, false, false, true, true, false, false, false, false]
  | 1 => [false, true, false, false, false, false, false, false, false, false, false, false, false, false, false, false, true, true, false, false, false, false]
  | 2 => [false, false, true, false, false, false, false, false, false, false, false, false, false, false, false, false, true, true, false, false, false, false]
  | 3 => [false, false, false, true, false, false, false, false, false, false, false, false, false, false, false, false, true, true, false, false, false, false]
  | 4 => [false, false, false, false, true, false, false, false, false, false, false, false, false, false, false, false, true, true, false, false, false, false]
  | 5 => [false, false, false, false, false, true, false, false, false, false, false, false, false, false, false, false, true, true, false, false, false, false]
  | 6 => [false, false, false, false, false, false, true, false, false, false, false, false, false, false, false, false, true, true, false, false, false, false]
  | 7 => [false, false, false, false, false, false, false, false, false, false, true, false, false, false, false, false, false, false, true, true, false, false]
  | 8 => [false, false, false, false, false, false, false, false, false, false, false, true, false, false, false, false, false, false, true, true, false, false]
  | 9 => [false, false, false, false, false, false, false, false, false, false, false, false, true, false, false, false, false, false, true, true, false, false]
  | 10 => [false, false, false, false, false, false, false, false, false, false, false, false, false, false, true, false, false, false, false, false, true, true]
  | 11 => [false, false, false, false, false, false, false, false, false, false, false, false, false, false, false, true, false, false, false, false, true, true]
  | 12 => [false, false, false, false, false, false, false, true, false, false, false, false, false, false, false, false, true, true, false, false, false, false]
  | 13 => [false, false, false, false, false, false, false, false, true, false, false, false, false, false, false, false, true, true, false, false, false, false]
  | 14 => [false, false, false, false, false, false, false, false, false, true, false, false, false, false, false, false, true, true, false, false, false, false]
  | 15 => [false, false, false, false, false, false, false, false, false, false, false, false, false, true, false, false, false, false, true, true, false, false]
  | _ => []
def bmI : Nat → List Value
  | 0 => [.type "ValueError", .type "Exception", .type "BaseException", .type "object"]
  | 1 => [.type "ValueError", .type "Exception", .type "BaseException", .type "object"]
  | 2 => [.type "ValueError", .type "Exception", .type "BaseException", .type "object"]
  | 3 => [.type "ValueError", .type "Exception", .type "BaseException", .type "object"]
  | 4 => [.type "ValueError", .type "Exception", .type "BaseException", .type "object"]
  | 5 => [.type "ValueError", .type "Exception", .type "BaseException", .type "object"]
  | 6 => [.type "ValueError", .type "Exception", .type "BaseException", .type "object"]
  | 7 => [.type "LookupError", .type "Exception", .type "BaseException", .type "object"]
  | 8 => [.type "LookupError", .type "Exception", .type "BaseException", .type "object"]
  | 9 => [.type "LookupError", .type "Exception", .type "BaseException", .type "object"]
  | 10 => [.type "RuntimeError", .type "Exception", .type "BaseException", .type "object"]
  | 11 => [.type "RuntimeError", .type "Exception", .type "BaseException", .type "object"]
  | 12 => [.type "ValueError", .type "Exception", .type "BaseException", .type "object"]
  | 13 => [.type "ValueError", .type "Exception", .type "BaseException", .type "object"]
  | 14 => [.type "ValueError", .type "Exception", .type "BaseException", .type "object"]
  | 15 => [.type "LookupError", .type "Exception", .type "BaseException", .type "object"]
  | _ => []
def nwI : Nat → String
  | 0 => "ValueError.__new__"
  | 1 => "ValueError.__new__"
  | 2 => "ValueError.__new__"
  | 3 => "ValueError.__new__"
  | 4 => "ValueError.__new__"
  | 5 => "ValueError.__new__"
  | 6 => "ValueError.__new__"
  | 7 => "LookupError.__new__"
  | 8 => "LookupError.__new__"
  | 9 => "LookupError.__new__"
  | 10 => "RuntimeError.__new__"
  | 11 => "RuntimeError.__new__"
  | 12 => "ValueError.__new__"
  | 13 => "ValueError.__new__"
  | 14 => "ValueError.__new__"
  | 15 => "LookupError.__new__"
  | _ => ""
def cxOfL (l : List Addr) : Nat → Addr := fun i => l.getD i 0
/-- the facts of an own exception class, asked at once -/
def xcB (K : PySem.W.Frag) (C : Addr) (bmB : List Value) (newId : String) : Bool :=
  PySem.W.excInitIn K C bmB newId && PySem.W.hasDictIn K C && decide (PySem.W.findIn K (.ref C) "__setattr__" = some (some (.builtin "object.__setattr__"))) && decide (PySem.W.findIn K (.ref C) "__getattribute__" = some (some (.builtin "BaseException.__getattribute__"))) &&
  decide (PySem.W.findIn K (.ref C) "__getattr__" = some none) && decide (PySem.W.subIn K (.ref C) (.type "BaseException") = some true) && decide (PySem.W.findIn K (.ref C) "__class__" = some (some (.builtin "object.__class__"))) &&
  decide (PySem.W.specialIn K (.builtin "object.__class__") "__get__" = some (some (.builtin "getset_descriptor.__get__"))) && decide (PySem.W.takesIn K (.builtin "object.__class__") = some true) && decide (PySem.W.mroIn K C (.type "object") = some true) && PySem.W.keepIn K (.ref C)
def sysB (K : PySem.W.Frag) : Bool := match K.lookup PySem.sysModules with
  | some o => decide (o.cls = .type "dict")
  | none => false
end HdC
namespace K12
set_option autoImplicit false
open PySem PySem.Spec PySem.W PyProof.Rows L2 HdC
abbrev hS (i : Nat) : Stmt := PySem.Challenge.pw_rankedchains_k02_polynomials_looked_at.main.body.getD i (.Pass ⟨0, 0, 0, 0⟩)
def hd0 : He.DefD := ⟨("_law_draw", none), "_law_draw", "_law_draw", defArgs (hS 37), defBody (hS 37), defScope (hS 37), [], []⟩
def hd1 : He.DefD := ⟨("_law_mixed", none), "_law_mixed", "_law_mixed", defArgs (hS 36), defBody (hS 36), defScope (hS 36), [], []⟩
def hd2 : He.DefD := ⟨("_law_digit", none), "_law_digit", "_law_digit", defArgs (hS 38), defBody (hS 38), defScope (hS 38), [], []⟩
def hd3 : He.DefD := ⟨("_law_derivative", none), "_law_derivative", "_law_derivative", defArgs (hS 45), defBody (hS 45), defScope (hS 45), [], []⟩
def hd4 : He.DefD := ⟨("_law_monomial", none), "_law_monomial", "_law_monomial", defArgs (hS 41), defBody (hS 41), defScope (hS 41), [], []⟩
def hd5 : He.DefD := ⟨("_law_lowest", none), "_law_lowest", "_law_lowest", defArgs (hS 39), defBody (hS 39), defScope (hS 39), [], []⟩
def hd6 : He.DefD := ⟨("_law_number", none), "_law_number", "_law_number", defArgs (hS 44), defBody (hS 44), defScope (hS 44), [], []⟩
def hd7 : He.DefD := ⟨("_law_added", none), "_law_added", "_law_added", defArgs (hS 40), defBody (hS 40), defScope (hS 40), [], []⟩
def hd8 : He.DefD := ⟨("_law_poly", none), "_law_poly", "_law_poly", defArgs (hS 46), defBody (hS 46), defScope (hS 46), [], []⟩
def hd9 : He.DefD := ⟨("_law_among", none), "_law_among", "_law_among", defArgs (hS 48), defBody (hS 48), defScope (hS 48), [], []⟩
def hd10 : He.DefD := ⟨("_law_is_derivative", none), "_law_is_derivative", "_law_is_derivative", defArgs (hS 49), defBody (hS 49), defScope (hS 49), [], []⟩
def hd11 : He.DefD := ⟨("_law_is_monomial", none), "_law_is_monomial", "_law_is_monomial", defArgs (hS 50), defBody (hS 50), defScope (hS 50), [], []⟩
def hd12 : He.DefD := ⟨("_law_is_number", none), "_law_is_number", "_law_is_number", defArgs (hS 51), defBody (hS 51), defScope (hS 51), [], []⟩
def hd13 : He.DefD := ⟨("_law_due", none), "_law_due", "_law_due", defArgs (hS 52), defBody (hS 52), defScope (hS 52), [], []⟩
def hd14 : He.DefD := ⟨("_law_odd", none), "_law_odd", "_law_odd", defArgs (hS 54), defBody (hS 54), defScope (hS 54), [], []⟩
def hd15 : He.DefD := ⟨("_law_spoilt", none), "_law_spoilt", "_law_spoilt", defArgs (hS 55), defBody (hS 55), defScope (hS 55), [], []⟩
def hd16 : He.DefD := ⟨("_law_bent", none), "_law_bent", "_law_bent", defArgs (hS 56), defBody (hS 56), defScope (hS 56), [], []⟩
def hd17 : He.DefD := ⟨("is_name", none), "is_name", "is_name", defArgs (hS 25), defBody (hS 25), defScope (hS 25), [], []⟩
def hd18 : He.DefD := ⟨("is_whole", none), "is_whole", "is_whole", defArgs (hS 24), defBody (hS 24), defScope (hS 24), [], []⟩
def hd19 : He.DefD := ⟨("is_derivative", none), "is_derivative", "is_derivative", defArgs (hS 29), defBody (hS 29), defScope (hS 29), [], []⟩
def hd20 : He.DefD := ⟨("_is_powered", none), "_is_powered", "_is_powered", defArgs (hS 31), defBody (hS 31), defScope (hS 31), [], []⟩
def hd21 : He.DefD := ⟨("is_monomial", none), "is_monomial", "is_monomial", defArgs (hS 30), defBody (hS 30), defScope (hS 30), [], []⟩
def hd22 : He.DefD := ⟨("is_fraction", none), "is_fraction", "is_fraction", defArgs (hS 27), defBody (hS 27), defScope (hS 27), [], []⟩
def hd23 : He.DefD := ⟨("_is_term", none), "_is_term", "_is_term", defArgs (hS 32), defBody (hS 32), defScope (hS 32), [], []⟩
def hd24 : He.DefD := ⟨("need_polynomial", none), "need_polynomial", "need_polynomial", defArgs (hS 33), defBody (hS 33), defScope (hS 33), [], []⟩
def hd25 : He.DefD := ⟨("is_polynomial", none), "is_polynomial", "is_polynomial", defArgs (hS 34), defBody (hS 34), defScope (hS 34), [], []⟩
def hd26 : He.DefD := ⟨("_law_kinds", none), "_law_kinds", "_law_kinds", defArgs (hS 47), defBody (hS 47), defScope (hS 47), [], []⟩
def hd27 : He.DefD := ⟨("_law_right", none), "_law_right", "_law_right", defArgs (hS 53), defBody (hS 53), defScope (hS 53), [], []⟩
def hd28 : He.DefD := ⟨("law", none), "law", "law", defArgs (hS 57), defBody (hS 57), defScope (hS 57), [], []⟩
def hd29 : He.DefD := ⟨("BadPolynomial", some "__init__"), "__init__", "BadPolynomial.__init__", defArgs (inClass (hS 4) 0), defBody (inClass (hS 4) 0), defScope (inClass (hS 4) 0), [.non], []⟩
def hfn : List He.DefD := ([hd0, hd1, hd2, hd3, hd4, hd5, hd6, hd7, hd8, hd9, hd10, hd11, hd12, hd13] : List He.DefD) ++ ([hd14, hd15, hd16, hd17, hd18, hd19, hd20, hd21, hd22, hd23, hd24, hd25, hd26, hd27] : List He.DefD) ++ ([hd28, hd29] : List He.DefD)
def hfa : List He.Fa := ([.glo "_law_draw", .glo "_law_mixed", .glo "_law_digit", .glo "_law_derivative", .glo "_law_monomial", .glo "_law_lowest", .glo "_law_number", .glo "_law_added", .glo "_law_poly", .glo "_law_among", .glo "_law_is_derivative", .glo "_law_is_monomial", .glo "_law_is_number", .glo "_law_due"] : List He.Fa) ++ ([.glo "_law_odd", .glo "_law_spoilt", .glo "_law_bent", .glo "is_name", .glo "is_whole", .glo "is_derivative", .glo "_is_powered", .glo "is_monomial", .glo "is_fraction", .glo "_is_term", .glo "need_polynomial", .glo "is_polynomial", .glo "_law_kinds", .glo "_law_right"] : List He.Fa) ++ ([.glo "law", .glo "BadRow", .glo "BadPolynomial", .glo "BadRanking", .glo "BadChain", .glo "BadData", .glo "BadJet", .glo "BadPaper", .glo "NoUnknown", .glo "NoEquation", .glo "NoCase", .glo "Contradicted", .glo "Knotted", .glo "Twice"] : List He.Fa) ++ ([.glo "OutOfPlace", .glo "TooGreat", .glo "Nothing", .glo "ChainError", .glo "MissError", .glo "CaseError", .free "LookupError", .free "RuntimeError", .free "ValueError", .free "abs", .free "all", .free "bool", .free "dict", .free "enumerate"] : List He.Fa) ++ ([.free "int", .free "isinstance", .free "len", .free "list", .free "range", .free "repr", .free "sorted", .free "str", .free "sum", .free "tuple", .int "MOST_LETTERS" 8, .str "LETTERS" "abcdefghijklmnopqrstuvwxyz", .meth "BadPolynomial" "__init__", .noat "BadPolynomial" "number"] : List He.Fa) ++ ([.noat "BadRow" "row", .noat "BadRow" "word", .noat "BadRanking" "place", .noat "BadChain" "place", .noat "BadData" "place", .noat "BadJet" "place", .noat "BadPaper" "place", .noat "NoUnknown" "name", .noat "NoEquation" "number", .noat "NoCase" "number", .noat "Contradicted" "number", .noat "Knotted" "number", .exm "BadPolynomial" "BadPolynomial" true, .exm "BadRow" "ChainError" true] : List He.Fa) ++ ([.exm "BadPolynomial" "ChainError" true, .exm "BadRanking" "ChainError" true, .exm "BadChain" "ChainError" true, .exm "BadData" "ChainError" true, .exm "BadJet" "ChainError" true, .exm "BadPaper" "ChainError" true, .exm "Twice" "ChainError" true, .exm "OutOfPlace" "ChainError" true, .exm "TooGreat" "ChainError" true] : List He.Fa)
def haddr : List Addr := ([3, 2, 6, 4, 52, 72, 92, 112, 132, 152, 172, 192, 204, 216] : List Addr) ++ ([228, 240, 260, 279, 298, 310, 322, 342, 361, 370, 375, 382, 389, 396] : List Addr) ++ ([403, 410, 417, 424, 431, 438, 445, 452, 457, 462, 467, 474, 481, 488] : List Addr) ++ ([493, 498, 505, 510, 517, 524, 531, 538, 545, 552, 559, 564, 0, 51] : List Addr) ++ ([71, 91, 111, 131, 151, 171, 191, 203, 215, 227, 239, 259, 278, 297] : List Addr) ++ ([309, 321, 341, 360, 369, 374, 381, 388, 395, 402, 409, 416, 423, 430] : List Addr) ++ ([437, 444, 451, 456, 461, 466, 473, 480, 487, 492, 497, 504, 509, 516] : List Addr) ++ ([523, 530, 537, 544, 551, 558, 563, 50, 53, 69, 70, 89, 90, 109] : List Addr) ++ ([110, 129, 130, 149, 150, 169, 170, 189, 190, 202, 214, 226, 238, 241] : List Addr) ++ ([257, 258, 276, 277, 295, 296, 308, 320, 323, 339, 340, 358, 359, 364] : List Addr) ++ ([366, 367, 371, 376, 378, 379, 383, 385, 386, 390, 392, 393, 397, 399] : List Addr) ++ ([400, 404, 406, 407, 411, 413, 414, 418, 420, 421, 425, 427, 428, 432] : List Addr) ++ ([434, 435, 439, 441, 442, 446, 448, 449, 453, 458, 463, 468, 470, 471] : List Addr) ++ ([475, 477, 478, 482, 484, 485, 489, 494, 499, 501, 502, 506, 511, 513] : List Addr) ++ ([514, 518, 520, 521, 525, 527, 528, 532, 534, 535, 539, 541, 542, 546] : List Addr) ++ ([548, 549, 553, 555, 556, 560, 68, 88, 82, 108, 102, 128, 122, 148] : List Addr) ++ ([142, 168, 162, 188, 182, 256, 275, 294, 338, 357, 1] : List Addr)
def hnames : List Str := (["gcd", "__name__", "ChainError", "BadRow", "BadPolynomial", "BadRanking", "BadChain", "BadData", "BadJet", "BadPaper", "Twice", "OutOfPlace", "TooGreat", "MissError"] : List Str) ++ (["NoUnknown", "NoEquation", "NoCase", "Nothing", "CaseError", "Contradicted", "Knotted", "LETTERS", "MOST_LETTERS", "is_whole", "is_name", "is_fraction", "is_derivative", "is_monomial"] : List Str) ++ (["_is_powered", "_is_term", "need_polynomial", "is_polynomial", "_law_mixed", "_law_draw", "_law_digit", "_law_lowest", "_law_added", "_law_monomial", "_law_times", "_law_derived", "_law_number", "_law_derivative"] : List Str) ++ (["_law_poly", "_law_kinds", "_law_among", "_law_is_derivative", "_law_is_monomial", "_law_is_number", "_law_due", "_law_right", "_law_odd", "_law_spoilt", "_law_bent"] : List Str)
def hx_x0 (K : PySem.W.Frag) : Bool := xcB K (He.ga K "BadRow") (bmI 0) (nwI 0)
def hx_x1 (K : PySem.W.Frag) : Bool := xcB K (He.ga K "BadPolynomial") (bmI 1) (nwI 1)
def hx_x2 (K : PySem.W.Frag) : Bool := xcB K (He.ga K "BadRanking") (bmI 2) (nwI 2)
def hx_x3 (K : PySem.W.Frag) : Bool := xcB K (He.ga K "BadChain") (bmI 3) (nwI 3)
def hx_x4 (K : PySem.W.Frag) : Bool := xcB K (He.ga K "BadData") (bmI 4) (nwI 4)
def hx_x5 (K : PySem.W.Frag) : Bool := xcB K (He.ga K "BadJet") (bmI 5) (nwI 5)
def hx_x6 (K : PySem.W.Frag) : Bool := xcB K (He.ga K "BadPaper") (bmI 6) (nwI 6)
def hx_x7 (K : PySem.W.Frag) : Bool := xcB K (He.ga K "NoUnknown") (bmI 7) (nwI 7)
def hx_x8 (K : PySem.W.Frag) : Bool := xcB K (He.ga K "NoEquation") (bmI 8) (nwI 8)
def hx_x9 (K : PySem.W.Frag) : Bool := xcB K (He.ga K "NoCase") (bmI 9) (nwI 9)
def hx_x10 (K : PySem.W.Frag) : Bool := xcB K (He.ga K "Contradicted") (bmI 10) (nwI 10)
def hx_x11 (K : PySem.W.Frag) : Bool := xcB K (He.ga K "Knotted") (bmI 11) (nwI 11)
def hx_x12 (K : PySem.W.Frag) : Bool := xcB K (He.ga K "Twice") (bmI 12) (nwI 12)
def hx_x13 (K : PySem.W.Frag) : Bool := xcB K (He.ga K "OutOfPlace") (bmI 13) (nwI 13)
def hx_x14 (K : PySem.W.Frag) : Bool := xcB K (He.ga K "TooGreat") (bmI 14) (nwI 14)
def hx_x15 (K : PySem.W.Frag) : Bool := xcB K (He.ga K "Nothing") (bmI 15) (nwI 15)
def hx_q12 (K : PySem.W.Frag) : Bool := PySem.W.excIn K (He.ga K "Twice") (bmI 12) (nwI 12)
def hx_q13 (K : PySem.W.Frag) : Bool := PySem.W.excIn K (He.ga K "OutOfPlace") (bmI 13) (nwI 13)
def hx_q14 (K : PySem.W.Frag) : Bool := PySem.W.excIn K (He.ga K "TooGreat") (bmI 14) (nwI 14)
def hx_q15 (K : PySem.W.Frag) : Bool := PySem.W.excIn K (He.ga K "Nothing") (bmI 15) (nwI 15)
def hx_kt0 (K : PySem.W.Frag) : Bool := decide ((testsOf (cxOfL [(He.ga K "BadRow"), (He.ga K "BadPolynomial"), (He.ga K "BadRanking"), (He.ga K "BadChain"), (He.ga K "BadData"), (He.ga K "BadJet"), (He.ga K "BadPaper"), (He.ga K "NoUnknown"), (He.ga K "NoEquation"), (He.ga K "NoCase"), (He.ga K "Contradicted"), (He.ga K "Knotted"), (He.ga K "Twice"), (He.ga K "OutOfPlace"), (He.ga K "TooGreat"), (He.ga K "Nothing"), (He.ga K "ChainError"), (He.ga K "MissError"), (He.ga K "CaseError")])).map (PySem.W.kitOne K (.ref (He.ga K "BadRow"))) = (kb 0).map some)
def hx_kt1 (K : PySem.W.Frag) : Bool := decide ((testsOf (cxOfL [(He.ga K "BadRow"), (He.ga K "BadPolynomial"), (He.ga K "BadRanking"), (He.ga K "BadChain"), (He.ga K "BadData"), (He.ga K "BadJet"), (He.ga K "BadPaper"), (He.ga K "NoUnknown"), (He.ga K "NoEquation"), (He.ga K "NoCase"), (He.ga K "Contradicted"), (He.ga K "Knotted"), (He.ga K "Twice"), (He.ga K "OutOfPlace"), (He.ga K "TooGreat"), (He.ga K "Nothing"), (He.ga K "ChainError"), (He.ga K "MissError"), (He.ga K "CaseError")])).map (PySem.W.kitOne K (.ref (He.ga K "BadPolynomial"))) = (kb 1).map some)
def hx_kt2 (K : PySem.W.Frag) : Bool := decide ((testsOf (cxOfL [(He.ga K "BadRow"), (He.ga K "BadPolynomial"), (He.ga K "BadRanking"), (He.ga K "BadChain"), (He.ga K "BadData"), (He.ga K "BadJet"), (He.ga K "BadPaper"), (He.ga K "NoUnknown"), (He.ga K "NoEquation"), (He.ga K "NoCase"), (He.ga K "Contradicted"), (He.ga K "Knotted"), (He.ga K "Twice"), (He.ga K "OutOfPlace"), (He.ga K "TooGreat"), (He.ga K "Nothing"), (He.ga K "ChainError"), (He.ga K "MissError"), (He.ga K "CaseError")])).map (PySem.W.kitOne K (.ref (He.ga K "BadRanking"))) = (kb 2).map some)
def hx_kt3 (K : PySem.W.Frag) : Bool := decide ((testsOf (cxOfL [(He.ga K "BadRow"), (He.ga K "BadPolynomial"), (He.ga K "BadRanking"), (He.ga K "BadChain"), (He.ga K "BadData"), (He.ga K "BadJet"), (He.ga K "BadPaper"), (He.ga K "NoUnknown"), (He.ga K "NoEquation"), (He.ga K "NoCase"), (He.ga K "Contradicted"), (He.ga K "Knotted"), (He.ga K "Twice"), (He.ga K "OutOfPlace"), (He.ga K "TooGreat"), (He.ga K "Nothing"), (He.ga K "ChainError"), (He.ga K "MissError"), (He.ga K "CaseError")])).map (PySem.W.kitOne K (.ref (He.ga K "BadChain"))) = (kb 3).map some)
def hx_kt4 (K : PySem.W.Frag) : Bool := decide ((testsOf (cxOfL [(He.ga K "BadRow"), (He.ga K "BadPolynomial"), (He.ga K "BadRanking"), (He.ga K "BadChain"), (He.ga K "BadData"), (He.ga K "BadJet"), (He.ga K "BadPaper"), (He.ga K "NoUnknown"), (He.ga K "NoEquation"), (He.ga K "NoCase"), (He.ga K "Contradicted"), (He.ga K "Knotted"), (He.ga K "Twice"), (He.ga K "OutOfPlace"), (He.ga K "TooGreat"), (He.ga K "Nothing"), (He.ga K "ChainError"), (He.ga K "MissError"), (He.ga K "CaseError")])).map (PySem.W.kitOne K (.ref (He.ga K "BadData"))) = (kb 4).map some)
def hx_kt5 (K : PySem.W.Frag) : Bool := decide ((testsOf (cxOfL [(He.ga K "BadRow"), (He.ga K "BadPolynomial"), (He.ga K "BadRanking"), (He.ga K "BadChain"), (He.ga K "BadData"), (He.ga K "BadJet"), (He.ga K "BadPaper"), (He.ga K "NoUnknown"), (He.ga K "NoEquation"), (He.ga K "NoCase"), (He.ga K "Contradicted"), (He.ga K "Knotted"), (He.ga K "Twice"), (He.ga K "OutOfPlace"), (He.ga K "TooGreat"), (He.ga K "Nothing"), (He.ga K "ChainError"), (He.ga K "MissError"), (He.ga K "CaseError")])).map (PySem.W.kitOne K (.ref (He.ga K "BadJet"))) = (kb 5).map some)
def hx_kt6 (K : PySem.W.Frag) : Bool := decide ((testsOf (cxOfL [(He.ga K "BadRow"), (He.ga K "BadPolynomial"), (He.ga K "BadRanking"), (He.ga K "BadChain"), (He.ga K "BadData"), (He.ga K "BadJet"), (He.ga K "BadPaper"), (He.ga K "NoUnknown"), (He.ga K "NoEquation"), (He.ga K "NoCase"), (He.ga K "Contradicted"), (He.ga K "Knotted"), (He.ga K "Twice"), (He.ga K "OutOfPlace"), (He.ga K "TooGreat"), (He.ga K "Nothing"), (He.ga K "ChainError"), (He.ga K "MissError"), (He.ga K "CaseError")])).map (PySem.W.kitOne K (.ref (He.ga K "BadPaper"))) = (kb 6).map some)
def hx_kt7 (K : PySem.W.Frag) : Bool := decide ((testsOf (cxOfL [(He.ga K "BadRow"), (He.ga K "BadPolynomial"), (He.ga K "BadRanking"), (He.ga K "BadChain"), (He.ga K "BadData"), (He.ga K "BadJet"), (He.ga K "BadPaper"), (He.ga K "NoUnknown"), (He.ga K "NoEquation"), (He.ga K "NoCase"), (He.ga K "Contradicted"), (He.ga K "Knotted"), (He.ga K "Twice"), (He.ga K "OutOfPlace"), (He.ga K "TooGreat"), (He.ga K "Nothing"), (He.ga K "ChainError"), (He.ga K "MissError"), (He.ga K "CaseError")])).map (PySem.W.kitOne K (.ref (He.ga K "NoUnknown"))) = (kb 7).map some)
def hx_kt8 (K : PySem.W.Frag) : Bool := decide ((testsOf (cxOfL [(He.ga K "BadRow"), (He.ga K "BadPolynomial"), (He.ga K "BadRanking"), (He.ga K "BadChain"), (He.ga K "BadData"), (He.ga K "BadJet"), (He.ga K "BadPaper"), (He.ga K "NoUnknown"), (He.ga K "NoEquation"), (He.ga K "NoCase"), (He.ga K "Contradicted"), (He.ga K "Knotted"), (He.ga K "Twice"), (He.ga K "OutOfPlace"), (He.ga K "TooGreat"), (He.ga K "Nothing"), (He.ga K "ChainError"), (He.ga K "MissError"), (He.ga K "CaseError")])).map (PySem.W.kitOne K (.ref (He.ga K "NoEquation"))) = (kb 8).map some)
def hx_kt9 (K : PySem.W.Frag) : Bool := decide ((testsOf (cxOfL [(He.ga K "BadRow"), (He.ga K "BadPolynomial"), (He.ga K "BadRanking"), (He.ga K "BadChain"), (He.ga K "BadData"), (He.ga K "BadJet"), (He.ga K "BadPaper"), (He.ga K "NoUnknown"), (He.ga K "NoEquation"), (He.ga K "NoCase"), (He.ga K "Contradicted"), (He.ga K "Knotted"), (He.ga K "Twice"), (He.ga K "OutOfPlace"), (He.ga K "TooGreat"), (He.ga K "Nothing"), (He.ga K "ChainError"), (He.ga K "MissError"), (He.ga K "CaseError")])).map (PySem.W.kitOne K (.ref (He.ga K "NoCase"))) = (kb 9).map some)
def hx_kt10 (K : PySem.W.Frag) : Bool := decide ((testsOf (cxOfL [(He.ga K "BadRow"), (He.ga K "BadPolynomial"), (He.ga K "BadRanking"), (He.ga K "BadChain"), (He.ga K "BadData"), (He.ga K "BadJet"), (He.ga K "BadPaper"), (He.ga K "NoUnknown"), (He.ga K "NoEquation"), (He.ga K "NoCase"), (He.ga K "Contradicted"), (He.ga K "Knotted"), (He.ga K "Twice"), (He.ga K "OutOfPlace"), (He.ga K "TooGreat"), (He.ga K "Nothing"), (He.ga K "ChainError"), (He.ga K "MissError"), (He.ga K "CaseError")])).map (PySem.W.kitOne K (.ref (He.ga K "Contradicted"))) = (kb 10).map some)
def hx_kt11 (K : PySem.W.Frag) : Bool := decide ((testsOf (cxOfL [(He.ga K "BadRow"), (He.ga K "BadPolynomial"), (He.ga K "BadRanking"), (He.ga K "BadChain"), (He.ga K "BadData"), (He.ga K "BadJet"), (He.ga K "BadPaper"), (He.ga K "NoUnknown"), (He.ga K "NoEquation"), (He.ga K "NoCase"), (He.ga K "Contradicted"), (He.ga K "Knotted"), (He.ga K "Twice"), (He.ga K "OutOfPlace"), (He.ga K "TooGreat"), (He.ga K "Nothing"), (He.ga K "ChainError"), (He.ga K "MissError"), (He.ga K "CaseError")])).map (PySem.W.kitOne K (.ref (He.ga K "Knotted"))) = (kb 11).map some)
def hx_kt12 (K : PySem.W.Frag) : Bool := decide ((testsOf (cxOfL [(He.ga K "BadRow"), (He.ga K "BadPolynomial"), (He.ga K "BadRanking"), (He.ga K "BadChain"), (He.ga K "BadData"), (He.ga K "BadJet"), (He.ga K "BadPaper"), (He.ga K "NoUnknown"), (He.ga K "NoEquation"), (He.ga K "NoCase"), (He.ga K "Contradicted"), (He.ga K "Knotted"), (He.ga K "Twice"), (He.ga K "OutOfPlace"), (He.ga K "TooGreat"), (He.ga K "Nothing"), (He.ga K "ChainError"), (He.ga K "MissError"), (He.ga K "CaseError")])).map (PySem.W.kitOne K (.ref (He.ga K "Twice"))) = (kb 12).map some)
def hx_kt13 (K : PySem.W.Frag) : Bool := decide ((testsOf (cxOfL [(He.ga K "BadRow"), (He.ga K "BadPolynomial"), (He.ga K "BadRanking"), (He.ga K "BadChain"), (He.ga K "BadData"), (He.ga K "BadJet"), (He.ga K "BadPaper"), (He.ga K "NoUnknown"), (He.ga K "NoEquation"), (He.ga K "NoCase"), (He.ga K "Contradicted"), (He.ga K "Knotted"), (He.ga K "Twice"), (He.ga K "OutOfPlace"), (He.ga K "TooGreat"), (He.ga K "Nothing"), (He.ga K "ChainError"), (He.ga K "MissError"), (He.ga K "CaseError")])).map (PySem.W.kitOne K (.ref (He.ga K "OutOfPlace"))) = (kb 13).map some)
def hx_kt14 (K : PySem.W.Frag) : Bool := decide ((testsOf (cxOfL [(He.ga K "BadRow"), (He.ga K "BadPolynomial"), (He.ga K "BadRanking"), (He.ga K "BadChain"), (He.ga K "BadData"), (He.ga K "BadJet"), (He.ga K "BadPaper"), (He.ga K "NoUnknown"), (He.ga K "NoEquation"), (He.ga K "NoCase"), (He.ga K "Contradicted"), (He.ga K "Knotted"), (He.ga K "Twice"), (He.ga K "OutOfPlace"), (He.ga K "TooGreat"), (He.ga K "Nothing"), (He.ga K "ChainError"), (He.ga K "MissError"), (He.ga K "CaseError")])).map (PySem.W.kitOne K (.ref (He.ga K "TooGreat"))) = (kb 14).map some)
def hx_kt15 (K : PySem.W.Frag) : Bool := decide ((testsOf (cxOfL [(He.ga K "BadRow"), (He.ga K "BadPolynomial"), (He.ga K "BadRanking"), (He.ga K "BadChain"), (He.ga K "BadData"), (He.ga K "BadJet"), (He.ga K "BadPaper"), (He.ga K "NoUnknown"), (He.ga K "NoEquation"), (He.ga K "NoCase"), (He.ga K "Contradicted"), (He.ga K "Knotted"), (He.ga K "Twice"), (He.ga K "OutOfPlace"), (He.ga K "TooGreat"), (He.ga K "Nothing"), (He.ga K "ChainError"), (He.ga K "MissError"), (He.ga K "CaseError")])).map (PySem.W.kitOne K (.ref (He.ga K "Nothing"))) = (kb 15).map some)
def hx_sysF (K : PySem.W.Frag) : Bool := HdC.sysB K
def hx_r16 (K : PySem.W.Frag) : Bool := PySem.W.readsIn K (He.ga K "ChainError") (.type "type")
def hx_y16 (K : PySem.W.Frag) : Bool := Hd.isVal (PySem.W.findCls K (.ref (He.ga K "ChainError")) (.type "type") "__init__") (.builtin "ValueError.__init__")
def hx_ty1 (K : PySem.W.Frag) : Bool := decide (PySem.W.typeIn K (.ref (He.ga K "BadPolynomial")) = some (.type "type"))
def hx_t101 (K : PySem.W.Frag) : Bool := decide (PySem.W.typeIn K (.ref (He.ma K (He.ga K "BadPolynomial") "__init__")) = some (.type "function"))
def hexs : List (PySem.W.Frag → Bool) := ([hx_x0, hx_x1, hx_x2, hx_x3, hx_x4, hx_x5, hx_x6, hx_x7, hx_x8, hx_x9, hx_x10, hx_x11, hx_x12, hx_x13] : List (PySem.W.Frag → Bool)) ++ ([hx_x14, hx_x15, hx_q12, hx_q13, hx_q14, hx_q15, hx_kt0, hx_kt1, hx_kt2, hx_kt3, hx_kt4, hx_kt5, hx_kt6, hx_kt7] : List (PySem.W.Frag → Bool)) ++ ([hx_kt8, hx_kt9, hx_kt10, hx_kt11, hx_kt12, hx_kt13, hx_kt14, hx_kt15, hx_sysF, hx_r16, hx_y16, hx_ty1, hx_t101] : List (PySem.W.Frag → Bool))
def hex (K : PySem.W.Frag) : Bool := hexs.all fun e => e K
def hlams : List Str := []
theorem hex_at {K : PySem.W.Frag} (h : hex K = true) (i : Nat) {e : PySem.W.Frag → Bool} (q : hexs[i]? = some e) : e K = true := List.all_eq_true.mp h e (List.mem_of_getElem? q)
abbrev hR : PySem.W.OpenRow := PySem.W.OpenLaw.row PySem.Challenge.rw_rankedchains_k02_polynomials_looked_at
def hvf (K : PySem.W.Frag) : List (Option (Option Value)) := [PySem.W.specialIn K (.ref (He.ga K "ChainError")) "__getattribute__", PySem.W.nsIn K mainGlobals "gcd"]
def hvv : List (Option (Option Value)) := [some (some (.builtin "type.__getattribute__")), some (some (.builtin "math.gcd"))]
abbrev hk : PySem.W.Hook := Hd.hookX haddr hfa hfn hlams hex hvf hvv
def hob (s : PySem.W.SharedT) : He.AlD × Bool × List (Option (Option Value)) := Hd.obsX haddr hfa hfn hlams hex hvf (HandSHeadRun.getT s)
theorem hob_eq (s : PySem.W.SharedT) : hob s = hk.obs s.abs := Hd.obsX_eq (HandSHeadRun.getT_eq s)
set_option maxRecDepth 100000 in
set_option maxHeartbeats 0 in
theorem hrun (w : World) : HandSHeadRun.RunEqI hR (PySem.W.view hR.prog [0, 57]) hk hob 7000 hnames w := by
  unfold HandSHeadRun.RunEqI
  kernel_rfl
end K12
namespace My
open PySem L2
theorem isP {p : Prop} (h : p) : p := h
theorem new {H : Hp} {p : Addr} {o : HO} (hp : H p = none) : Same H (upd H p o) := fun b u e => by
  rw [upd_ne (ne_of_none e hp)]
  exact e
theorem new2 {H : Hp} {p : Addr} {o o' : HO} (hp : H p = none) : Same H (upd (upd H p o) p o') := fun b u e => by
  rw [upd_ne (ne_of_none e hp), upd_ne (ne_of_none e hp)]
  exact e
theorem lstNew {K : PySem.W.Frag} {H : Hp} {p : Addr} {xs : List V} : SqL K (upd H p (.lst xs)) p xs := .inl (.inl upd_same)
theorem atIn {α : Type} (xs : List α) (i : Int) (h0 : 0 ≤ i) (h1 : i < xs.length) : ∃ v, v ∈ xs ∧ atI xs i = some v := by
  obtain ⟨n, rfl⟩ : ∃ n : Nat, i = (n : Int) := ⟨i.toNat, by omega⟩
  have hn : n < xs.length := by omega
  exact ⟨xs[n], List.getElem_mem hn, atI_nat (List.getElem?_eq_getElem hn)⟩
theorem cutTo (xs : List V) (k : Nat) : cutV xs none (some (k : Int)) = xs.take k := by
  unfold cutV
  rw [HT.sIx_none, HT.sIx_nat, List.drop_zero, Nat.sub_zero]
  by_cases h : k ≤ xs.length
  · rw [Nat.min_eq_left h]
  · rw [Nat.min_eq_right (by omega), List.take_length, List.take_of_length_le (by omega)]
theorem small {n : Nat} (h : n ≤ 1000) : n ≤ sizeLine := Nat.le_of_lt (small1000 h)
end My
namespace My
set_option autoImplicit false
open PySem L2 Evl
/-- what is known of a value, whatever is made beside -/
structure Pr where
  P : V → Hp → Prop
  m : ∀ {v : V} {H H' : Hp}, Ex H H' → P v H → P v H'
def AllP : List Pr → List V → Hp → Prop
  | [], [], _ => True
  | p :: ps, v :: vs, H => p.P v H ∧ AllP ps vs H
  | [], _ :: _, _ => False
  | _ :: _, [], _ => False
theorem AllP.m {H H' : Hp} (e : Ex H H') : ∀ {ps : List Pr} {vs : List V}, AllP ps vs H → AllP ps vs H'
  | [], [], _ => trivial
  | _ :: _, _ :: _, h => ⟨Pr.m _ e h.1, AllP.m e h.2⟩
theorem AllP.len {H : Hp} : ∀ {ps : List Pr} {vs : List V}, AllP ps vs H → vs.length = ps.length
  | [], [], _ => rfl
  | _ :: _, _ :: _, h => congrArg Nat.succ (AllP.len h.2)
theorem AllP.app {H : Hp} : ∀ {ps qs : List Pr} {vs ws : List V}, AllP ps vs H → AllP qs ws H → AllP (ps ++ qs) (vs ++ ws) H
  | [], _, [], _, _, h => h
  | _ :: _, _, _ :: _, _, a, h => ⟨a.1, AllP.app a.2 h⟩
theorem AllP.get {H : Hp} : ∀ {ps : List Pr} {vs : List V} {i : Nat} {v : V}, AllP ps vs H → vs[i]? = some v → ∃ p, ps[i]? = some p ∧ p.P v H
  | [], [], i, v, _, h => by simp at h
  | p :: _, w :: _, 0, v, a, h => by
    obtain rfl : w = v := Option.some.inj h
    exact ⟨p, rfl, a.1⟩
  | _ :: _, _ :: _, i + 1, v, a, h => AllP.get (i := i) a.2 h
theorem AllP.at {H : Hp} : ∀ {ps : List Pr} {vs : List V} {i : Nat} {p : Pr}, AllP ps vs H → ps[i]? = some p → ∃ v, vs[i]? = some v ∧ p.P v H
  | [], [], i, v, _, h => by simp at h
  | q :: _, w :: _, 0, p, a, h => by
    obtain rfl : q = p := Option.some.inj h
    exact ⟨w, rfl, a.1⟩
  | _ :: _, _ :: _, i + 1, v, a, h => AllP.at (i := i) a.2 h
/-- without tables of code -/
def NoTab (B : Hp) : Prop := ∀ b ps, B b ≠ some (.tbl ps)
/-- from what is known, B, within the heap H, to B' within H': what is known of B' leans on nothing else that stood in H -/
structure Gr (B H B' H' : Hp) : Prop where
  a : Ex H H'
  b : Ex B B'
  c : Ex B' H'
  d : ∀ x, B x = none → H x ≠ none → B' x = none
  e : NoTab B → NoTab B'
theorem Gr.refl {B H : Hp} (e : Ex B H) : Gr B H B H := ⟨Ex.refl H, Ex.refl B, e, fun _ h _ => h, id⟩
theorem has {H H' : Hp} {x : Addr} (e : Ex H H') (h : H x ≠ none) : H' x ≠ none := by
  cases q : H x with
  | none => exact absurd q h
  | some o =>
    rw [e x o q]
    exact fun z => nomatch z
theorem Gr.trans {B H B1 H1 B2 H2 : Hp} (g : Gr B H B1 H1) (k : Gr B1 H1 B2 H2) : Gr B H B2 H2 :=
  ⟨g.a.trans k.a, g.b.trans k.b, k.c, fun x hb hh => k.d x (g.d x hb hh) (has g.a hh), fun z => k.e (g.e z)⟩
/-- nothing new is known -/
theorem Gr.wide {B H H1 : Hp} (e : Ex B H) (k : Ex H H1) : Gr B H B H1 := ⟨k, Ex.refl B, e.trans k, fun _ h _ => h, id⟩
/-- a new object -/
theorem Gr.new {B H : Hp} {r : Addr} (o : HO) (e : Ex B H) (hr : H r = none) (ho : ∀ ps, o ≠ .tbl ps := by intro _ z; cases z) : Gr B H (upd B r o) (upd H r o) :=
  ⟨Ex.new hr, Ex.new (fresh_back e hr), fun a u h => by
    by_cases q : a = r
    · subst q
      rw [upd_same] at h ⊢
      exact h
    · rw [upd_ne q] at h ⊢
      exact e a u h, fun x hb hh => by
    by_cases q : x = r
    · subst q
      exact absurd hr hh
    · rw [upd_ne q]
      exact hb, fun z b ps q => by
    by_cases n : b = r
    · subst n
      rw [upd_same] at q
      exact ho ps (Option.some.inj q)
    · rw [upd_ne n] at q
      exact z b ps q⟩
/-- two parts of one heap together -/
def both (B C : Hp) : Hp := fun b => match B b with
  | some o => some o
  | none => C b
theorem both_l {B C : Hp} : Ex B (both B C) := fun a o h => by
  unfold both
  rw [h]
theorem both_r {B C H : Hp} (e : Ex B H) (k : Ex C H) : Ex C (both B C) := fun a o h => by
  unfold both
  cases q : B a with
  | none => exact h
  | some u =>
    have h1 := e a u q
    have h2 := k a o h
    rw [h1] at h2
    exact h2
theorem both_in {B C H : Hp} (e : Ex B H) (k : Ex C H) : Ex (both B C) H := fun a o h => by
  unfold both at h
  cases q : B a with
  | none =>
    rw [q] at h
    exact k a o h
  | some u =>
    rw [q] at h
    obtain rfl : u = o := Option.some.inj h
    exact e a u q
theorem both_none {B C : Hp} {x : Addr} (h : B x = none) (k : C x = none) : both B C x = none := by
  unfold both
  rw [h]
  exact k
theorem both_nt {B C : Hp} (h : NoTab B) (k : NoTab C) : NoTab (both B C) := fun b ps q => by
  unfold both at q
  cases z : B b with
  | none =>
    rw [z] at q
    exact k b ps q
  | some o =>
    rw [z] at q
    have q : some o = some (HO.tbl ps) := q
    rw [q] at z
    exact h b ps z
/-- one behind the other, each from the same B -/
theorem Gr.join {B H B1 H1 B2 H2 : Hp} (g : Gr B H B1 H1) (k : Gr B H1 B2 H2) : Gr B H (both B1 B2) H2 :=
  ⟨g.a.trans k.a, g.b.trans both_l, both_in (g.c.trans k.a) k.c, fun x hb hh => both_none (g.d x hb hh) (k.d x hb (has g.a hh)), fun z => both_nt (g.e z) (k.e z)⟩
/-- without D -/
def wo (D : Addr) (H : Hp) : Hp := fun b => if b = D then none else H b
theorem wo_ne {D b : Addr} {H : Hp} (n : b ≠ D) : wo D H b = H b := if_neg n
theorem wo_same {D : Addr} {H : Hp} : wo D H D = none := if_pos rfl
theorem wo_some {D b : Addr} {H : Hp} {o : HO} (h : wo D H b = some o) : b ≠ D ∧ H b = some o := by
  by_cases n : b = D
  · rw [n, wo_same] at h
    exact nomatch h
  · rw [wo_ne n] at h
    exact ⟨n, h⟩
theorem wo_ex {D : Addr} {H : Hp} : Ex (wo D H) H := fun _ _ e => (wo_some e).2
theorem ex_wo {B H : Hp} {D : Addr} (e : Ex B H) (h : B D = none) : Ex B (wo D H) := fun b o k => by
  rw [wo_ne (ne_of_none k h)]
  exact e b o k
theorem wo_none {B H : Hp} {D : Addr} (e : Ex B (wo D H)) : B D = none := by
  cases q : B D with
  | none => rfl
  | some o =>
    have := e _ _ q
    rw [wo_same] at this
    exact nomatch this
theorem wo_new {H : Hp} {D : Addr} {o : HO} (h : H D = none) : wo D (upd H D o) = H := funext fun b => by
  by_cases n : b = D
  · rw [n, wo_same, h]
  · rw [wo_ne n, upd_ne n]
theorem wo_upd {H : Hp} {D : Addr} {o : HO} : wo D (upd H D o) = wo D H := funext fun b => by
  by_cases n : b = D
  · rw [n, wo_same, wo_same]
  · rw [wo_ne n, wo_ne n, upd_ne n]
/-- what a turn adds, the list at D left aside -/
theorem Gr.side {B H B1 H1 B2 H2 : Hp} {D : Addr} (g : Gr B H B1 (wo D H1)) (hD : H1 D ≠ none) (k : Gr B1 H1 B2 H2) : Gr B H B2 (wo D H2) :=
  ⟨fun b o e => by
    obtain ⟨n, q⟩ := wo_some (g.a b o e)
    rw [wo_ne n]
    exact k.a b o q, g.b.trans k.b, ex_wo k.c (k.d D (wo_none g.c) hD), fun x hb hh => k.d x (g.d x hb hh) (has wo_ex (has g.a hh)), fun z => k.e (g.e z)⟩
/-- just this value -/
def IsV (x : V) : Pr := ⟨fun v _ => v = x, fun _ h => h⟩
/-- a new list | a list | a tuple, of what -/
def LsP (ps : List Pr) : Pr := ⟨fun v H => ∃ p xs, v = .ref p ∧ H p = some (.lst xs) ∧ AllP ps xs H, fun e ⟨p, xs, a, b, c⟩ => ⟨p, xs, a, e _ _ b, c.m e⟩⟩
def LqP (K : PySem.W.Frag) (ps : List Pr) : Pr := ⟨fun v H => ∃ p xs, v = .ref p ∧ SqL K H p xs ∧ AllP ps xs H, fun e ⟨p, xs, a, b, c⟩ => ⟨p, xs, a, ex_l e b, c.m e⟩⟩
def TuP (K : PySem.W.Frag) (ps : List Pr) : Pr := ⟨fun v H => ∃ p xs, v = .ref p ∧ SqT K H p xs ∧ AllP ps xs H, fun e ⟨p, xs, a, b, c⟩ => ⟨p, xs, a, ex_t e b, c.m e⟩⟩
theorem lq_ls {K : PySem.W.Frag} {ps : List Pr} {v : V} {H : Hp} (h : (LsP ps).P v H) : (LqP K ps).P v H := by
  obtain ⟨p, xs, a, b, c⟩ := h
  exact ⟨p, xs, a, sq_of b, c⟩
mutual
theorem dp_m {K : PySem.W.Frag} {H H' : Hp} (e : Ex H H') : ∀ {d : PyData} {v : V}, Dp K H v d → Dp K H' v d
  | _, _, .non => .non
  | _, _, .bl b => .bl b
  | _, _, .int i => .int i
  | _, _, .str x => .str x
  | _, _, .lst a b => .lst (ex_l e a) (dps_m e b)
  | _, _, .tup a b => .tup (ex_t e a) (dps_m e b)
theorem dps_m {K : PySem.W.Frag} {H H' : Hp} (e : Ex H H') : ∀ {ds : List PyData} {vs : List V}, DpAll K H vs ds → DpAll K H' vs ds
  | _, _, .nil => .nil
  | _, _, .cons a b => .cons (dp_m e a) (dps_m e b)
end
/-- plain data -/
def IsD (K : PySem.W.Frag) (d : PyData) : Pr := ⟨fun v H => Dp K H v d, fun e h => dp_m e h⟩
theorem dps_of {K : PySem.W.Frag} {H : Hp} : ∀ {ds : List PyData} {vs : List V}, AllP (ds.map (IsD K)) vs H → DpAll K H vs ds
  | [], [], _ => .nil
  | _ :: _, _ :: _, h => .cons h.1 (dps_of h.2)
theorem dps_to {K : PySem.W.Frag} {H : Hp} : ∀ {ds : List PyData} {vs : List V}, DpAll K H vs ds → AllP (ds.map (IsD K)) vs H
  | [], [], _ => trivial
  | _ :: _, _ :: _, .cons a b => ⟨a, dps_to b⟩
/-- an expression gives such a value, over all that stands beside -/
def EvP (te : TE) (σ : L2.St) (B : Hp) (p : Pr) : Prop := ∀ H1, Ex B H1 → ∀ Q : VK, (∀ v B' H2, Gr B H1 B' H2 → p.P v B' → Q v H2) → te σ H1 Q
def EvPs (ta : TA) (σ : L2.St) (B : Hp) (ps : List Pr) : Prop := ∀ H1, Ex B H1 → ∀ Q : List V → Hp → Prop, (∀ vs B' H2, Gr B H1 B' H2 → AllP ps vs B' → Q vs H2) → ta σ H1 Q
section
variable {te ta tb : TE} {t tr : TA} {σ : L2.St} {B B' H : Hp} {p q : Pr} {ps qs : List Pr} {v : V} {K : PySem.W.Frag} {D : Ends}
theorem EvP.mono (e : Ex B B') (h : EvP te σ B p) : EvP te σ B' p := fun H1 a Q k => h H1 (e.trans a) Q fun v C H2 g b =>
  k v (both B' C) H2 ⟨g.a, both_l, both_in (a.trans g.a) g.c, fun x hb hh => both_none hb (g.d x (fresh_back e hb) hh), fun z => both_nt z (g.e fun b ps q => z b ps (e _ _ q))⟩ (p.m (both_r (a.trans g.a) g.c) b)
theorem EvP.imp (h : EvP te σ B p) (i : ∀ v B1, Ex B B1 → p.P v B1 → q.P v B1) : EvP te σ B q := fun H1 a _ k => h H1 a _ fun v B2 H2 g b => k v B2 H2 g (i v B2 g.b b)
theorem p_var {i : Nat} (h : σ[i]? = some (some v)) (hp : p.P v B) : EvP (tVar i) σ B p := fun H1 a _ k => ⟨v, h, k v B H1 (Gr.refl a) hp⟩
theorem p_c : EvP (tC v) σ B (IsV v) := fun H1 a _ k => k v B H1 (Gr.refl a) rfl
theorem p_ev (h : Ev te σ B v) : EvP te σ B (IsV v) := fun H1 a _ k => h H1 a _ fun H2 e => k v B H2 (Gr.wide a e) rfl
theorem ev_p (h : EvP te σ B (IsV v)) : Ev te σ B v := fun H1 a _ k => h H1 a _ fun w B2 H2 g b => by
  obtain rfl : w = v := b
  exact k H2 g.a
theorem q_nil : EvPs tNil σ B [] := fun H1 a _ k => k [] B H1 (Gr.refl a) trivial
theorem q_cons (h : EvP te σ B p) (hr : EvPs tr σ B ps) : EvPs (tCons te tr) σ B (p :: ps) := fun H1 a _ k =>
  h H1 a _ fun v B2 H2 g b => hr H2 (g.b.trans g.c) _ fun vs B3 H3 g3 b3 => k (v :: vs) (both B2 B3) H3 (g.join g3) ⟨p.m both_l b, b3.m (both_r (g.c.trans g3.a) g3.c)⟩
theorem p_lst (h : EvPs t σ B ps) (hl : ps.length ≤ 100000) : EvP (tLst t) σ B (LsP ps) := fun H1 a _ k =>
  h H1 a _ fun vs B2 H2 g b => ⟨sz_of (by rw [b.len]; exact hl), fun r hr => k _ _ _ (g.trans (Gr.new _ g.c hr)) ⟨r, vs, rfl, upd_same, b.m (Ex.new (fresh_back g.c hr))⟩⟩
theorem p_tup (h : EvPs t σ B ps) (hl : ps.length ≤ 100000) : EvP (tTup t) σ B (TuP K ps) := fun H1 a _ k =>
  h H1 a _ fun vs B2 H2 g b => ⟨sz_of (by rw [b.len]; exact hl), fun r hr => k _ _ _ (g.trans (Gr.new _ g.c hr)) ⟨r, vs, rfl, st_of upd_same, b.m (Ex.new (fresh_back g.c hr))⟩⟩
theorem p_cat (ha : EvP ta σ B (LsP ps)) (hb : EvP tb σ B (LsP qs)) (hl : ps.length + qs.length ≤ 100000) : EvP (tOp rCat ta tb) σ B (LsP (ps ++ qs)) := fun H1 a Q k =>
  ha H1 a _ fun v B2 H2 g b => hb H2 (g.b.trans g.c) _ fun w B3 H3 g3 b3 => by
    obtain ⟨p, xs, rfl, hp, hx⟩ := b
    obtain ⟨q, ys, rfl, hq, hy⟩ := b3
    have l1 := hx.len
    have l2 := hy.len
    have gj := g.join g3
    refine ⟨p, q, xs, ys, rfl, rfl, g3.a _ _ (g.c _ _ hp), g3.c _ _ hq, sz_of (by omega), fun r hr => k _ _ _ (gj.trans (Gr.new _ gj.c hr)) ⟨r, xs ++ ys, rfl, upd_same, ?_⟩⟩
    have en : Ex (both B2 B3) (upd (both B2 B3) r (.lst (xs ++ ys))) := Ex.new (fresh_back gj.c hr)
    exact (hx.m (both_l.trans en)).app (hy.m ((both_r (g.c.trans g3.a) g3.c).trans en))
/-- of data -/
theorem d_lst {ds : List PyData} (h : EvP te σ B (LsP (ds.map (IsD K)))) : EvP te σ B (IsD K (.list ds)) := h.imp fun v H1 _ b => by
  obtain ⟨r, xs, rfl, hr, hx⟩ := b
  exact .lst (sq_of hr) (dps_of hx)
theorem d_int {i : Int} (h : EvP te σ B (IsV (.int i))) : EvP te σ B (IsD K (.int i)) := h.imp fun v H1 _ b => by
  obtain rfl : v = V.int i := b
  exact .int i
theorem d_bl {x : Bool} (h : EvP te σ B (IsV (.bl x))) : EvP te σ B (IsD K (.bool x)) := h.imp fun v H1 _ b => by
  obtain rfl : v = V.bl x := b
  exact .bl x
theorem d_non (h : EvP te σ B (IsV .non)) : EvP te σ B (IsD K .none) := h.imp fun v H1 _ b => by
  obtain rfl : v = V.non := b
  exact .non
theorem ev_eqD {d e : PyData} (ha : EvP ta σ B (IsD K d)) (hb : EvP tb σ B (IsD K e)) (hd : SeqAt.shaped d = true) (he : SeqAt.shaped e = true) : Ev (tOp (rEqD K) ta tb) σ B (.bl (PyData.eqv d e)) := fun H1 a Q k =>
  ha H1 a _ fun v B2 H2 g b => hb H2 (g.b.trans g.c) _ fun w B3 H3 g3 b3 => ⟨d, e, dp_m (g.c.trans g3.a) b, dp_m g3.c b3, hd, he, k H3 (g.a.trans g3.a)⟩
theorem ev_neD {d e : PyData} (ha : EvP ta σ B (IsD K d)) (hb : EvP tb σ B (IsD K e)) (hd : SeqAt.shaped d = true) (he : SeqAt.shaped e = true) : Ev (tOp (rNeD K) ta tb) σ B (.bl (!PyData.eqv d e)) := fun H1 a Q k =>
  ha H1 a _ fun v B2 H2 g b => hb H2 (g.b.trans g.c) _ fun w B3 H3 g3 b3 => ⟨d, e, dp_m (g.c.trans g3.a) b, dp_m g3.c b3, hd, he, k H3 (g.a.trans g3.a)⟩
theorem ps_asg {i : Nat} (a : Ex B H) (h : EvP te σ B p) (k : ∀ v B1 H1, Gr B H B1 H1 → p.P v B1 → D.nx (σ.set i (some v)) H1) : tAsg te (gName i) D σ H := h H a _ k
theorem ps_asgN {i : Nat} (σ' : V → L2.St) (a : Ex B H) (h : EvP te σ B p) (k : ∀ v B1 H1, Gr B H B1 H1 → p.P v B1 → D.nx (σ' v) H1) (e : ∀ v, σ.set i (some v) = σ' v := by intro _; rfl) : tAsg te (gName i) D σ H := h H a _ fun v B1 H1 g b => by
  have := k v B1 H1 g b
  rw [← e v] at this
  exact this
theorem ps_ret (a : Ex B H) (h : EvP te σ B p) (k : ∀ v B1 H1, Gr B H B1 H1 → p.P v B1 → D.rt v H1) : tRet te D σ H := h H a _ k
/-- a call: what the def is handed, what it tells -/
def SpOk (sp : Sp) (ps : List Pr) (p : Pr) : Prop := ∀ vs B H Q E, Ex B H → AllP ps vs B → (∀ u B' H', Gr B H B' H' → p.P u B' → Q u H') → sp vs H Q E
theorem p_call {sp : Sp} (h : EvPs t σ B ps) (hs : SpOk sp ps p) : EvP (tCall sp [] E0 t) σ B p := fun H1 a Q k =>
  h H1 a _ fun vs B2 H2 g b => by
    rw [List.append_nil]
    exact hs vs B2 H2 Q E0 g.c b fun u B3 H3 g3 c => k u B3 H3 (g.trans g3) c
/-- a comprehension over a list, some items left out -/
theorem p_lc {g : TG} {tt : TT} {vs : List Nat} (h : EvP ta σ B (LqP K ps)) (hl : ps.length ≤ 100000) (keep : Nat → Bool) (res : Nat → Pr)
    (step : ∀ i p v B1, ps[i]? = some p → Ex B B1 → p.P v B1 → ∃ σ2, wipe σ2 vs = wipe σ vs ∧ (∀ H2 Q, Ex B1 H2 → Q σ2 H2 → g v (wipe σ vs) H2 Q) ∧ EvT tt σ2 B1 (keep i) ∧ (keep i = true → EvP te σ2 B1 (res i))) :
    EvP (tLc (iList K ta) g tt te vs) σ B (LsP (((List.range ps.length).filter keep).map res)) := fun H1 a Q k =>
  h H1 a _ fun v B2 H2 gr b => by
    obtain ⟨l, xs, rfl, hx, hal⟩ := b
    have hlen := hal.len
    refine ⟨l, rfl, ⟨xs, ex_l gr.c hx⟩, fun Dd hD => ?_⟩
    refine lc_list (K := K) (a := l) (xs := xs) (fun i H3 => ∃ B3 acc, Gr B2 H2 B3 (wo Dd H3) ∧ H3 Dd = some (.lst acc) ∧ AllP (((List.range i).filter keep).map res) acc B3) ?_ ?_ ?_ ?_
    · exact ⟨B2, [], by rw [wo_new hD]; exact Gr.refl gr.c, upd_same, trivial⟩
    · rintro i H3 _ ⟨B3, acc, g3, _, _⟩
      exact ex_l (g3.b.trans (g3.c.trans wo_ex)) hx
    · rintro i x H3 hi ⟨B3, acc, g3, hDd, hacc⟩
      obtain ⟨p, hp, px⟩ := hal.get hi
      have hil : i < xs.length := (List.getElem?_eq_some_iff.mp hi).1
      have exB : Ex B3 H3 := g3.c.trans wo_ex
      have hB3 : B3 Dd = none := wo_none g3.c
      have some3 : H3 Dd ≠ none := by
        rw [hDd]
        exact fun z => nomatch z
      obtain ⟨σ2, hw, hg, ht, he⟩ := step i p x B3 hp (gr.b.trans g3.b) (p.m g3.b px)
      refine hg H3 _ exB ⟨hw, ht H3 exB _ fun H4 e4 => ?_⟩
      have e34 : Ex B3 H4 := exB.trans e4
      have hD4 := e4 _ _ hDd
      have g4 : Gr B2 H2 B3 (wo Dd H4) := g3.side some3 (Gr.wide exB e4)
      have some4 : H4 Dd ≠ none := has e4 some3
      cases hk : keep i with
      | true =>
        rw [if_pos rfl]
        refine he hk H4 e34 _ fun y B5 H5 g5 hy => ?_
        have la : acc.length ≤ i := by
          rw [hacc.len, List.length_map]
          exact Nat.le_trans (List.length_filter_le _ _) (by rw [List.length_range]; exact Nat.le_refl _)
        refine ⟨acc, g5.a _ _ hD4, sz_lt (by omega), B5, acc ++ [y], by rw [wo_upd]; exact g4.side some4 g5, upd_same, ?_⟩
        rw [List.range_succ, List.filter_append, List.map_append]
        refine (hacc.m g5.b).app ?_
        have : List.filter keep [i] = [i] := by simp [hk]
        rw [this]
        exact ⟨hy, trivial⟩
      | false =>
        rw [if_neg Bool.false_ne_true]
        refine ⟨B3, acc, g4, hD4, ?_⟩
        rw [List.range_succ, List.filter_append, List.map_append]
        have : List.filter keep [i] = [] := by simp [hk]
        rw [this, List.map_nil, List.append_nil]
        exact hacc
    · rintro H3 ⟨B3, acc, g3, hDd, hacc⟩
      have hB3 : B3 Dd = none := wo_none g3.c
      rw [hlen] at hacc
      refine k (.ref Dd) (upd B3 Dd (.lst acc)) H3 ⟨gr.a.trans (g3.a.trans wo_ex), gr.b.trans (g3.b.trans (Ex.new hB3)), fun b o e => ?_, fun x hb hh => ?_, fun z b ps q => ?_⟩ ⟨Dd, acc, rfl, upd_same, hacc.m (Ex.new hB3)⟩
      · by_cases n : b = Dd
        · subst n
          rw [upd_same] at e
          rw [hDd]
          exact e
        · rw [upd_ne n] at e
          exact g3.c.trans wo_ex _ _ e
      · have n : x ≠ Dd := fun z => by
          subst z
          exact has gr.a hh hD
        rw [upd_ne n]
        exact g3.d x (gr.d x hb hh) (has gr.a hh)
      · by_cases n : b = Dd
        · subst n
          rw [upd_same] at q
          cases q
        · rw [upd_ne n] at q
          exact g3.e (gr.e z) b ps q
end
end My
namespace My
set_option autoImplicit false
open PySem L2 Evl
/-- what is known says which data it is -/
def To (K : PySem.W.Frag) (p : Pr) (d : PyData) : Prop := ∀ v H, p.P v H → Dp K H v d
inductive ToAll (K : PySem.W.Frag) : List Pr → List PyData → Prop
  | nil : ToAll K [] []
  | cons {p : Pr} {d : PyData} {ps : List Pr} {ds : List PyData} : To K p d → ToAll K ps ds → ToAll K (p :: ps) (d :: ds)
section
variable {te ta tb : TE} {t tr : TA} {σ : L2.St} {B B' H : Hp} {p q : Pr} {ps qs : List Pr} {v : V} {K : PySem.W.Frag} {D : Ends} {d e : PyData} {ds : List PyData}
theorem to_int {i : Int} : To K (IsV (.int i)) (.int i) := fun v H h => by
  obtain rfl : v = _ := h
  exact .int i
theorem to_str {x : Str} : To K (IsV (.str x)) (.str x) := fun v H h => by
  obtain rfl : v = _ := h
  exact .str x
theorem to_bl {b : Bool} : To K (IsV (.bl b)) (.bool b) := fun v H h => by
  obtain rfl : v = _ := h
  exact .bl b
theorem to_non : To K (IsV .non) .none := fun v H h => by
  obtain rfl : v = _ := h
  exact .non
theorem toAll_all {H : Hp} : ∀ {ps : List Pr} {ds : List PyData} {vs : List V}, ToAll K ps ds → AllP ps vs H → DpAll K H vs ds
  | [], _, [], .nil, _ => .nil
  | _ :: _, _, _ :: _, .cons a b, h => .cons (a _ _ h.1) (toAll_all b h.2)
theorem to_lst (h : ToAll K ps ds) : To K (LsP ps) (.list ds) := fun v H hv => by
  obtain ⟨r, xs, rfl, hr, hx⟩ := hv
  exact .lst (sq_of hr) (toAll_all h hx)
theorem to_tup (h : ToAll K ps ds) : To K (TuP K ps) (.tuple ds) := fun v H hv => by
  obtain ⟨r, xs, rfl, hr, hx⟩ := hv
  exact .tup hr (toAll_all h hx)
theorem toAll_map {α : Type} {f : α → Pr} {g : α → PyData} (l : List α) (h : ∀ x, To K (f x) (g x)) : ToAll K (l.map f) (l.map g) := by
  induction l with
  | nil => exact .nil
  | cons x r ih => exact .cons (h x) ih
theorem p_to (h : EvP te σ B p) (k : To K p d) : EvP te σ B (IsD K d) := h.imp fun v B1 _ b => k v B1 b
theorem p_varV {i : Nat} (h : σ[i]? = some (some v)) : EvP (tVar i) σ B (IsV v) := p_var h rfl
theorem p_lq (h : EvP te σ B (LsP ps)) : EvP te σ B (LqP K ps) := h.imp fun _ _ _ b => lq_ls b
theorem p_ixT {j : Int} (h : EvP ta σ B (TuP K ps)) (hj : EvP tb σ B (IsV (.int j))) (hp : atI ps j = some p) : EvP (tOp (rIxT K) ta tb) σ B p := fun H1 a Q k =>
  h H1 a _ fun v B2 H2 g b => hj H2 (g.b.trans g.c) _ fun w B3 H3 g3 b3 => by
    obtain ⟨l, xs, rfl, hx, hal⟩ := b
    obtain rfl : w = _ := b3
    have hlen := hal.len
    unfold atI at hp
    rw [← hlen] at hp
    obtain ⟨n, hn, hq⟩ := Option.bind_eq_some_iff.mp hp
    obtain ⟨z, hz, pz⟩ := hal.at hq
    have gj := g.join g3
    refine ⟨l, xs, j, z, rfl, rfl, ex_t (g.c.trans g3.a) hx, ?_, k z _ _ gj (p.m both_l pz)⟩
    unfold atI
    rw [hn]
    exact hz
theorem et_yes : EvT tYes σ B true := fun H1 _ _ q => q H1 (Ex.refl H1)
theorem ps_ifT {t : TT} {tu tw : TS} (a : Ex B H) (h : EvT t σ B true) (k : ∀ H1, Ex H H1 → tu D σ H1) : tIfS t tu tw D σ H := h H a _ fun H1 e => by
  rw [if_pos rfl]
  exact k H1 e
theorem et_ne {d : PyData} (ha : EvP ta σ B (IsD K d)) (hb : EvP tb σ B (IsD K d)) (hd : SeqAt.shaped d = true) : EvT (tTest (tOp (rNeD K) ta tb)) σ B false :=
  et_is (et_test (ev_neD ha hb hd hd)) (by rw [SeqAt.eqv_refl d (Bool.and_eq_true_iff.mp hd).1]; rfl)
theorem ev_notN (h : EvP ta σ B (IsV .non)) : Ev (tOp (fun x y H Q => y = V.non ∧ Q (.bl (!decide (x = V.non))) H) ta (tC .non)) σ B (.bl false) := fun H1 a Q k =>
  h H1 a _ fun v B2 H2 g b => by
    obtain rfl : v = V.non := b
    exact ⟨rfl, k H2 g.a⟩
end
end My
namespace My
set_option autoImplicit false
open PySem PySem.Spec PySem.W PyProof.Rows L2 Evl NdefX LamX
/-- an address of ours that nothing else speaks of -/
structure Fre (X : Cx) (pins : List (Addr × Obj)) (a : Addr) : Prop where
  base : X.s_0.heap.objs.size ≤ a
  loc : a ≠ X.env.locals
  cel : ∀ y c, X.env.cells.lookup y = some c → c ≠ a
  pin : ∀ p ∈ X.pn ++ pins, p.1 ≠ a
  fs : a ∉ X.fs
section
variable {X : Cx} {pins : List (Addr × Obj)} {σ : L2.St} {H : Hp} {s : Shared} {a b : Addr}
theorem Fre.of (I : Inv X pins σ H s) (h : s.heap.objs.size ≤ a) : Fre X pins a := by
  have no : ∀ c : Addr, c < s.heap.objs.size → c ≠ a := fun c hc z => by
    rw [z] at hc
    exact Nat.lt_irrefl _ (Nat.lt_of_lt_of_le hc h)
  refine ⟨Nat.le_trans I.sz h, (no _ I.lt).symm, fun y c e => ?_, fun p hp => ?_, I.nofs h⟩
  · obtain ⟨v, o, ho, _⟩ := I.cell y c e
    exact no c (Heap.lt_size ho)
  · exact no p.1 (Heap.lt_size (I.pin p hp).1)
theorem Fre.more (f : Fre X pins a) {o : Obj} (h : b ≠ a) : Fre X ((b, o) :: pins) a :=
  ⟨f.base, f.loc, f.cel, fun p hp => (List.mem_append.mp hp).elim (fun z => f.pin p (List.mem_append_left _ z)) fun z => by
    rcases List.mem_cons.mp z with rfl | z
    · exact h
    · exact f.pin p (List.mem_append_right _ z), f.fs⟩
/-- two objects that are not known of, written; one may be known from now on -/
theorem free2 {h' : Heap} {t' : Nat} {ys : List V} (I : Inv X pins σ H s) (fa : Fre X pins a) (fb : Fre X pins b) (na : H a = none) (nb : H b = none)
    (k : ∀ c o, c ≠ a → c ≠ b → s.heap.get? c = some o → h'.get? c = some o) (new : ys.length ≤ sizeLine ∧ ∃ (its : List Value) (n : Nat), Vals ys its ∧ h'.get? a = some { cls := .type "list", data := .seq its.toArray n }) :
    Inv X pins σ (upd H a (.lst ys)) { s with heap := h', toks := t' } := by
  have ne : ∀ c u, H c = some u → c ≠ a := fun c u e => ne_of_none e na
  have neb : ∀ c u, H c = some u → c ≠ b := fun c u e => ne_of_none e nb
  have up : ∀ c u, H c = some u → upd H a (.lst ys) c = some u := fun c u e => by rw [upd_ne (ne c u e)]; exact e
  have out : ∀ c, c ∉ [a, b] → c ≠ a ∧ c ≠ b := fun c hc => ⟨fun z => hc (by simp [z]), fun z => hc (by simp [z])⟩
  refine I.step (g' := s.gens) (d' := s.drawn) (ch := [a, b]) (fun c hc => ?_) (fun c o _ _ hc e _ => k c o (out c hc).1 (out c hc).2 e) (fun c o _ _ hc e _ => ⟨o.slots, k c o (out c hc).1 (out c hc).2 e⟩) (fun c o hc _ n => ?_)
    (fun c o hc e => ⟨o, k c o (out c hc).1 (out c hc).2 e⟩) (fun c xs e => up _ _ e) (fun c o u e => up _ _ e) (fun c ps e => ⟨#[], by rw [up _ _ e]; simp⟩) (fun m hn => ?_) (fun c u e => ?_) I.bare
  · rcases List.mem_cons.mp hc with rfl | hc
    · exact ⟨.inr fa.base, fa.loc, fa.cel, fa.pin⟩
    · obtain rfl := List.mem_singleton.mp hc
      exact ⟨.inr fb.base, fb.loc, fb.cel, fb.pin⟩
  · rw [upd_ne (out c hc).1]
    exact n
  · obtain ⟨ob, es, ep, ho, r⟩ := hn
    exact ⟨ob, es, ep, k _ ob fa.loc.symm fb.loc.symm ho, r⟩
  · by_cases hc : c = a
    · subst hc
      rw [upd_same] at e
      cases e
      exact new
    · rw [upd_ne hc] at e
      refine (I.hok c u e).stay (fun d v hd q => ?_) (fun d q => up _ _ q) fun d xs q => up _ _ q
      rcases hd with rfl | z
      · exact k _ v (ne _ _ e) (neb _ _ e) q
      · exact k _ v (ne _ _ z) (neb _ _ z) q
end
end My
namespace My
set_option autoImplicit false
open PySem PySem.Spec PySem.W PySem.Calls PyProof.Rows L2 Evl NdefX LamX
theorem vals_app {vs ws : List V} {us zs : List Value} (a : Vals vs us) (b : Vals ws zs) : Vals (vs ++ ws) (us ++ zs) := by
  induction a with
  | nil => exact b
  | cons r _ ih => exact .cons r ih
/-- the items, each with its key, in order, equal ones as they stood: the items alone -/
def byKey (xs : List V) (ks : List PyData) : List V := ((xs.zip ks).mergeSort (dataLe false (·.2))).map (·.1)
theorem vals_each {h : Heap} : ∀ {xs : List V} {us : List Value} {ks : List PyData}, Vals xs us → ks.length = xs.length → EachIs (fun (u : Value) (p : V × PyData) => RelV p.1 u) us (xs.zip ks)
  | [], [], ks, _, h => by
    obtain rfl := List.length_eq_zero_iff.mp h
    exact .nil
  | _ :: _, _ :: _, [], _, h => by simp at h
  | _ :: _, _ :: _, _ :: _, .cons r t, h => .cons r (vals_each (h := ‹Heap›) t (by simpa using h))
theorem each_vals : ∀ {us : List Value} {ps : List (V × PyData)}, EachIs (fun (u : Value) (p : V × PyData) => RelV p.1 u) us ps → Vals (ps.map (·.1)) us
  | _, _, .nil => .nil
  | _, _, .cons r t => .cons r (each_vals t)
theorem zip_snd {α β : Type} : ∀ {xs : List α} {ks : List β}, ks.length = xs.length → (xs.zip ks).map (·.2) = ks
  | [], ks, h => by
    obtain rfl := List.length_eq_zero_iff.mp h
    rfl
  | _ :: _, [], h => by simp at h
  | _ :: _, k :: _, h => congrArg (k :: ·) (zip_snd (by simpa using h))
theorem dps_each {X : Cx} {pins : List (Addr × Obj)} {σ : L2.St} {H : Hp} {s : Shared} (I : Inv X pins σ H s) : ∀ {vs : List V} {us : List Value} {ds : List PyData}, Vals vs us → DpAll X.K H vs ds → EachIs (fun u d => ∃ as, Reads s.heap u d as) us ds
  | [], [], [], _, _ => .nil
  | _ :: _, _ :: _, _ :: _, .cons r t, .cons a b => .cons (Dp.reads I _ _ _ a r) (dps_each I t b)
section
variable {X : Cx} {pins : List (Addr × Obj)} {σ : L2.St} {H : Hp} {s : Shared} {A : Around} {f : Addr} {fo : Obj} {xs : List V} {ks : List PyData} {E : Value → Shared → Prop}
end
end My
namespace My
set_option autoImplicit false
open PySem PySem.Spec PySem.W PySem.Calls PyProof.Rows L2 Evl NdefX LamX
section
variable {X : Cx} {pins : List (Addr × Obj)} {σ : L2.St} {H : Hp} {s : Shared} {A : Around} {f : Addr} {fo : Obj} {E : Value → Shared → Prop}
theorem vals_refs : ∀ (as : List Addr), Vals (as.map V.ref) (as.map Value.ref)
  | [] => .nil
  | _ :: r => .cons rfl (vals_refs r)
end
end My
/-! own exceptions as values: made with an __init__ of their own, their fields read, their classes asked -/
namespace XV
open PySem PySem.W PySem.Calls PyProof.Rows Builtin Builtin.ObjectAttr
section
variable {prog : Program} {w : World} {A : Around} {E : Value → Shared → Prop} {R : Result → Shared → Prop} {hp : Heap} {g : Array GenState} {d : Drawn} {t : Nat} {os : OsState}
variable {K : Frag} {name : Str} {tk : Tok} {v : Value} {x C dx : Addr} {fv : Array Value} {cd : ClassData} {B : String} {bmB : List Value} {m0 : Str → Option Value} {nl : List Str}
theorem mro_obj (hm : excTail bmB cd.mro = true) (hbo : bmB.contains (.type "object") = true) : cd.mro.contains (.type "object") = true :=
  Eq.trans (excTail_contains "object" _ hm) hbo
theorem mro_some {l : List Value} (h : l.contains (.type "object") = true) : l.isEmpty = false := by
  cases l with
  | nil => cases h
  | cons _ _ => rfl
/-- the first field that is set -/
theorem setFirst (SF : StoreFacts B bmB "object.__setattr__" "object") (hbo : bmB.contains (.type "object") = true) (XK : K.In hp)
    (hx : hp.get? x = some { cls := .ref C, data := .fields fv }) (hc : clsIn K C = some cd) (hm : excTail bmB cd.mro = true) (hh : cd.hasDict = true) (hn : findIn K (.ref C) name = some none)
    (hq : ∀ h' tk' dx, (∀ b o, b ≠ x → hp.get? b = some o → h'.get? b = some o) → hp.objs.size ≤ dx → dx ≠ x →
      h'.get? x = some { cls := .ref C, dict := some dx, data := .fields fv } → h'.Ns1 dx (fun y => if y = name then some v else none) → R (.ok (.ret .none)) ⟨h', g, d, tk', os⟩) :
    codeAny (model prog w) A (.call (.builtin "object.__setattr__") ⟨[.ref x, .str name tk, v], []⟩) R ⟨hp, g, d, t, os⟩ := by
  have inst : InstAt hp x { cls := .ref C, data := .fields fv } C none := ⟨hx, rfl, rfl, trivial⟩
  have SO := F.store_object
  have hob := mro_obj hm hbo
  have hne := mro_some hob
  have hxs : x ≠ hp.objs.size := Nat.ne_of_lt (Heap.lt_size hx)
  have isO : Looks (model prog w) hp (isInstance (.ref x) (.type "object")) true :=
    inst.type.andThen (looks_mroIn XK (by unfold mroIn; rw [hc, Option.bind_some, if_neg (by rw [hne]; decide), hob]))
  refine codeAny_call_builtin SO.slot.plain SO.entry
    (@check_slot (model prog w) _ _ ⟨hp, g, d, t, os⟩ "object.__setattr__" "object" "__setattr__" (.ref x) [.str name tk, v] [] _ SO.kind SO.split isO
      (SO.args (.ref x) (.str name tk) v) ?_)
  have seesMro : Looks (model prog w) hp (mroOf (.ref C)) cd.mro := (looks_clsIn XK hc).andThen .now
  have noTaker : Looks (model prog w) hp (storeTaker? none) none := .now
  have seesCls : Looks (model prog w) hp (classData C) cd := looks_clsIn XK hc
  rw [osa_eq, refuse_eq]
  refine wpAny_bind (wpAny_bind (inst.type.at (wpAny_bind (seesMro.at ?_))))
  rw [excTail_pass (.ref x) (SF.passes _) _ hm]
  refine wpAny_pure (wpAny_bind (inst.type.at
    (wpAny_bind ((looks_findIn XK hn).at (wpAny_bind (noTaker.at ?_))))))
  show wpAny _ _ (storeInOwnDict (.ref x) (.ref C) (.str name tk) name v false) _ _ _
  obtain ⟨_, _, _, _, _, hd, _, _, _, _, _⟩ := cd
  dsimp only at hh
  subst hh
  unfold storeInOwnDict ownDictForStores
  repeat (first
    | with_reducible refine HandSPX.store_in_new ?_ ?_
    | with_reducible refine wpAny_loadPart_at hx ?_
    | with_reducible refine seesCls.at ?_
    | wp_step)
  · exact ⟨_, #[], _, Eq.trans (Heap.get?_update_ne _ _ _ _ hxs.symm) (Heap.get?_push_at rfl rfl), rfl, fun e he => absurd he (by simp), fun _ => rfl⟩
  · intro h' tk' hn' hs
    have hx1 : (hp.push { cls := .type "dict", data := .dict #[] }).get? x = some { cls := .ref C, data := .fields fv } := Heap.get?_push_of_some _ hx
    exact hq h' tk' hp.objs.size
      (fun b o hb ho => Eq.trans (hs.2 b (Nat.ne_of_lt (Heap.lt_size ho))) (Eq.trans (Heap.get?_update_ne _ _ _ _ hb) (Heap.get?_push_of_some _ ho)))
      (Nat.le_refl _) hxs.symm (Eq.trans (hs.2 x hxs) (Heap.get?_update_self _ hx1 rfl)) hn'
/-- a further field -/
theorem setMore (SF : StoreFacts B bmB "object.__setattr__" "object") (hbo : bmB.contains (.type "object") = true) (XK : K.In hp)
    (hx : hp.get? x = some { cls := .ref C, dict := some dx, data := .fields fv }) (hns : hp.Ns1 dx m0) (hw : Within m0 nl) (hz : nl.length ≤ 1000)
    (hc : clsIn K C = some cd) (hm : excTail bmB cd.mro = true) (hh : cd.hasDict = true) (hn : findIn K (.ref C) name = some none)
    (hq : ∀ h' tk', (∀ b o, b ≠ dx → hp.get? b = some o → h'.get? b = some o) →
      h'.Ns1 dx (fun y => if y = name then some v else m0 y) → R (.ok (.ret .none)) ⟨h', g, d, tk', os⟩) :
    codeAny (model prog w) A (.call (.builtin "object.__setattr__") ⟨[.ref x, .str name tk, v], []⟩) R ⟨hp, g, d, t, os⟩ := by
  obtain ⟨oD, _, _, hoD, _, _⟩ := hns.count hw
  have inst : InstAt hp x { cls := .ref C, dict := some dx, data := .fields fv } C (some oD) := ⟨hx, rfl, rfl, hoD⟩
  have SO := F.store_object
  have hob := mro_obj hm hbo
  have hne := mro_some hob
  have isO : Looks (model prog w) hp (isInstance (.ref x) (.type "object")) true :=
    inst.type.andThen (looks_mroIn XK (by unfold mroIn; rw [hc, Option.bind_some, if_neg (by rw [hne]; decide), hob]))
  refine codeAny_call_builtin SO.slot.plain SO.entry
    (@check_slot (model prog w) _ _ ⟨hp, g, d, t, os⟩ "object.__setattr__" "object" "__setattr__" (.ref x) [.str name tk, v] [] _ SO.kind SO.split isO
      (SO.args (.ref x) (.str name tk) v) ?_)
  have seesMro : Looks (model prog w) hp (mroOf (.ref C)) cd.mro := (looks_clsIn XK hc).andThen .now
  have noTaker : Looks (model prog w) hp (storeTaker? none) none := .now
  have seesCls : Looks (model prog w) hp (classData C) cd := looks_clsIn XK hc
  rw [osa_eq, refuse_eq]
  refine wpAny_bind (wpAny_bind (inst.type.at (wpAny_bind (seesMro.at ?_))))
  rw [excTail_pass (.ref x) (SF.passes _) _ hm]
  refine wpAny_pure (wpAny_bind (inst.type.at
    (wpAny_bind ((looks_findIn XK hn).at (wpAny_bind (noTaker.at ?_))))))
  show wpAny _ _ (storeInOwnDict (.ref x) (.ref C) (.str name tk) name v false) _ _ _
  obtain ⟨_, _, _, _, _, hd, _, _, _, _, _⟩ := cd
  dsimp only at hh
  subst hh
  unfold storeInOwnDict ownDictForStores
  repeat (first
    | with_reducible refine OEX.store_in_old hns hw hz ?_
    | with_reducible refine wpAny_loadPart_at hx ?_
    | with_reducible refine seesCls.at ?_
    | wp_step)
  intro h' tk' hn' hs
  exact hq h' tk' (fun b o hb ho => Eq.trans (hs.2 b hb) ho) hn'
end
end XV
namespace L2
open PySem PySem.Spec PyProof.Rows
/-- an exception at a, raised and caught: its class and its dict are known -/
def exw (a C : Addr) (d : Option Addr) : HO := .ext fun h => ∃ (o : Obj) (vs : Array Value), h.get? a = some o ∧ Zc (.ref C) d o ∧ o.data = .fields vs
theorem exw_ok {P : Program} {w : World} {H : Hp} {h : Heap} {a C : Addr} {d : Option Addr} {o : Obj} {vs : Array Value} (e : h.get? a = some o) (z : Zc (.ref C) d o) (f : o.data = .fields vs) : ObjOk P w H h a (exw a C d) :=
  ⟨⟨o, vs, e, z, f⟩, ⟨o, e⟩, fun _ _ ⟨o, v, q, r⟩ k => ⟨o, v, k o q, r⟩⟩
theorem exw_at {P : Program} {w : World} {H : Hp} {h : Heap} {a C : Addr} {d : Option Addr} (hok : HOk P w H h) (e : H a = some (exw a C d)) : ∃ (o : Obj) (vs : Array Value), h.get? a = some o ∧ o.cls = .ref C ∧ o.dict = d ∧ o.data = .fields vs := by
  have x : ObjOk P w H h a (.ext fun h => ∃ (o : Obj) (vs : Array Value), h.get? a = some o ∧ Zc (.ref C) d o ∧ o.data = .fields vs) := hok a _ e
  obtain ⟨o, vs, h1, h2, h3⟩ := x.1
  exact ⟨o, vs, h1, h2.1, h2.2, h3⟩
theorem ex_any {P : Program} {w : World} {H : Hp} {h : Heap} {a C : Addr} {d : Option Addr} (hok : HOk P w H h) (e : H a = some (exo a C d) ∨ H a = some (exw a C d)) : ∃ (o : Obj) (vs : Array Value), h.get? a = some o ∧ o.cls = .ref C ∧ o.dict = d ∧ o.data = .fields vs := by
  rcases e with e | e
  · obtain ⟨t1, ho⟩ := exo_at hok e
    exact ⟨_, _, ho, rfl, rfl, rfl⟩
  · exact exw_at hok e
/-- what the written part says of an own exception class at C, over the built-in B -/
structure XC (K : PySem.W.Frag) (C : Addr) (bmB : List Value) (newId : String) : Prop where
  q : PySem.W.excInitIn K C bmB newId = true
  hd : PySem.W.hasDictIn K C = true
  sa : PySem.W.findIn K (.ref C) "__setattr__" = some (some (.builtin "object.__setattr__"))
  ga : PySem.W.findIn K (.ref C) "__getattribute__" = some (some (.builtin "BaseException.__getattribute__"))
  gt : PySem.W.findIn K (.ref C) "__getattr__" = some none
  ex : PySem.W.subIn K (.ref C) (.type "BaseException") = some true
  ca : PySem.W.findIn K (.ref C) "__class__" = some (some (.builtin "object.__class__"))
  cn : PySem.W.specialIn K (.builtin "object.__class__") "__get__" = some (some (.builtin "getset_descriptor.__get__"))
  ct : PySem.W.takesIn K (.builtin "object.__class__") = some true
  cm : PySem.W.mroIn K C (.type "object") = some true
  kC : PySem.W.keepIn K (.ref C) = true
/-- what is known of the built-in below -/
structure XB (B : String) (bmB : List Value) (newId initId : String) : Prop where
  base : ExcBaseFacts B newId initId bmB
  store : StoreFacts B bmB "object.__setattr__" "object"
  obj : bmB.contains (.type "object") = true
theorem xbV : XB "ValueError" [.type "ValueError", .type "Exception", .type "BaseException", .type "object"] "ValueError.__new__" "ValueError.__init__" := ⟨F.excBase_ValueError, F.store_ValueError, by decide +kernel⟩
theorem XC.cls {K : PySem.W.Frag} {C : Addr} {bmB : List Value} {newId : String} (T : XC K C bmB newId) : ∃ cd, PySem.W.clsIn K C = some cd ∧ PySem.W.excTail bmB cd.mro = true ∧ cd.hasDict = true := by
  obtain ⟨cd, hc, hh⟩ := PySem.W.any_some T.hd
  refine ⟨cd, hc, ?_, hh⟩
  have q := T.q
  unfold PySem.W.excInitIn at q
  unfold PySem.W.clsIn at hc
  split at q
  · rename_i ho
    rw [ho] at hc
    cases hc
    split at q
    · rename_i hm _
      simp only [Bool.and_eq_true] at q
      rw [hm]
      exact q.2
    · cases q
  · cases q
end L2
namespace L2
open PySem PySem.Spec PyProof.Rows
section
variable {X : Cx} {pins : List (Addr × Obj)} {σ : St} {H : Hp} {s : Shared} {a C dx : Addr} {f : Str} {y : V} {u : Value} {fs : List (Str × V)} {E : Value → Shared → Prop} {A : Around}
variable {B newId initId : String} {bmB : List Value}
theorem xset1 {Q : Unit → Shared → Prop} (T : XC X.K C bmB newId) (Y : XB B bmB newId initId) (I : Inv X pins σ H s) (e : H a = some (exo a C none)) (hno : PySem.W.findIn X.K (.ref C) f = some none) (ry : RelV y u)
    (h : ∀ dx s', H dx = none → dx ≠ a → Inv X pins σ (upd (upd H dx (exd dx [(f, y)])) a (exo a C (some dx))) s' → Q () s') :
    wpAny (model X.prog X.w) A (setAttr (.ref a) f u) Q E s := by
  obtain ⟨cd, hcl, hmr, hh⟩ := T.cls
  obtain ⟨t1, ho⟩ := exo_at I.hok e
  obtain ⟨hp, g, d, t, os⟩ := s
  refine PySem.W.set_plain I.kIn (od := none) ⟨ho, rfl, rfl, trivial⟩ T.sa ?_
  refine XV.setFirst Y.store Y.obj I.kIn ho hcl hmr hh hno (fun h' tk' dx k dn dne hx hn => ?_)
  have hnd : H dx = none := I.hok.fresh dn
  have far : ∀ {b : Addr} {o : Obj}, hp.get? b = some o → b ≠ dx := fun {b o} q => Nat.ne_of_lt (Nat.lt_of_lt_of_le (Heap.lt_size q) dn)
  have na : ∀ {b : Addr}, H b = none → b ≠ a := fun {b} n z => by
    rw [z, e] at n
    exact nomatch n
  have U : Un X.fs [] H (upd (upd H dx (exd dx [(f, y)])) a (exo a C (some dx))) hp h' := {
    keep := fun b o q n _ _ => k b o (na n) q
    slot := fun b o q n _ _ => ⟨o.slots, k b o (na n) q⟩
    free := fun b o q n _ => Eq.trans (upd_ne (na n)) (Eq.trans (upd_ne (far q)) n)
    there := fun b o q _ => by
      rcases Nat.decEq b a with hb | hb
      · exact ⟨o, k b o hb q⟩
      · exact ⟨_, Eq.trans (congrArg h'.get? hb) hx⟩
    tups := fun b xs q => Eq.trans (upd_ne (at_ne e q exo_tup)) (Eq.trans (upd_ne (ne_of_none q hnd)) q)
    frzs := fun b o v q => Eq.trans (upd_ne (at_ne e q exo_frz)) (Eq.trans (upd_ne (ne_of_none q hnd)) q)
    tbls := fun b ps q => ⟨#[], Eq.trans (upd_ne (at_ne e q exo_tbl)) (Eq.trans (upd_ne (ne_of_none q hnd)) (by rw [q]; simp))⟩ }
  refine h dx _ hnd dne (I.un (t' := tk') U fun b o q => ?_)
  rcases Nat.decEq b a with hb | hb
  · rw [upd_ne hb] at q
    rcases Nat.decEq b dx with hd | hd
    · rw [upd_ne hd] at q
      refine (I.hok b o q).stay (fun c v hc z => k c v ?_ z) (fun c hc => ?_) (fun c xs hc => ?_)
      · rcases hc with hc | hc
        · exact hc ▸ hb
        · exact at_ne e hc exo_own
      · exact Eq.trans (upd_ne (at_ne e hc exo_own)) (Eq.trans (upd_ne (ne_of_none hc hnd)) hc)
      · exact Eq.trans (upd_ne (at_ne e hc exo_tup)) (Eq.trans (upd_ne (ne_of_none hc hnd)) hc)
    · subst hd
      rw [upd_same] at q
      cases q
      exact exd_ok hn (relO_put (fs := []) ry fun _ => trivial)
  · subst hb
    rw [upd_same] at q
    cases q
    exact exo_ok hx
theorem xset2 {Q : Unit → Shared → Prop} (T : XC X.K C bmB newId) (Y : XB B bmB newId initId) (I : Inv X pins σ H s) (e : H a = some (exo a C (some dx))) (ed : H dx = some (exd dx fs)) (hl : fs.length ≤ 900)
    (hno : PySem.W.findIn X.K (.ref C) f = some none) (ry : RelV y u) (h : ∀ s', Inv X pins σ (upd H dx (exd dx ((f, y) :: fs))) s' → Q () s') :
    wpAny (model X.prog X.w) A (setAttr (.ref a) f u) Q E s := by
  obtain ⟨cd, hcl, hmr, hh⟩ := T.cls
  obtain ⟨t1, ho⟩ := exo_at I.hok e
  obtain ⟨mA, hns, rel⟩ := exd_at I.hok ed
  obtain ⟨hp, g, d, t, os⟩ := s
  have hw := within_of rel
  obtain ⟨oD, _, _, hoD, _, _⟩ := hns.count hw
  refine PySem.W.set_plain I.kIn (od := some oD) ⟨ho, rfl, rfl, hoD⟩ T.sa ?_
  refine XV.setMore Y.store Y.obj I.kIn ho hns hw (by rw [List.length_map]; omega) hcl hmr hh hno (fun h' tk' k hn => ?_)
  obtain ⟨o1, _, _, e1, _⟩ := id hn
  exact h _ (I.write (t' := tk') (x := dx) (e := dx) (o := exd dx ((f, y) :: fs)) (by rw [ed]; trivial) (.inl rfl) k ⟨o1, e1⟩ (exd_ok hn (relO_put ry rel)))
/-- the built-in's __init__ of an exception that is being made: nothing of it is told -/
theorem xinit {us : List Value} {Q : Value → Shared → Prop} (T : XC X.K C bmB newId) (Y : XB B bmB newId initId) (I : Inv X pins σ H s) (e : H a = some (exo a C none)) (hl : us.length ≤ sizeLine)
    (h : ∀ s', Inv X pins σ H s' → Q .none s') : wpAny (model X.prog X.w) A (call (.builtin initId) (.ref a :: us)) Q E s := by
  obtain ⟨nm, N, qn, bs, bm, hdct, sn, sub, ab, col, dd, k0, k1, k2, k3, k5, hC, hbm⟩ := PySem.W.excInit_of I.kIn T.q
  obtain ⟨t1, ho⟩ := exo_at I.hok e
  obtain ⟨hp, g, d, t, os⟩ := s
  refine wpAny_call (PySem.HandSPX.init_base Y.base hbm hC ho hl fun h' t2 k hx => ?_)
  have J := I.write (t' := t) (x := a) (e := a) (o := exo a C none) (by rw [e]; trivial) (.inl rfl) k ⟨_, hx⟩ (exo_ok hx)
  have eu : upd H a (exo a C none) = H := funext fun b => by
    rcases Nat.decEq b a with hb | hb
    · exact upd_ne hb
    · subst hb
      exact Eq.trans upd_same e.symm
  rw [eu] at J
  exact h _ J
end
/-- D.__init__(self, ..), D an own class below which stands the built-in with that __init__ -/
def tXInit (K : PySem.W.Frag) (bmB : List Value) (newId : String) (ta : TA) : TE := fun σ H Q => ta σ H fun vs H1 => ∃ (a C : Addr) (ws : List V), vs = .ref a :: ws ∧ ws.length ≤ 1000 ∧ XC K C bmB newId ∧ H1 a = some (exo a C none) ∧ Q .non H1
/-- self.f = e -/
def tXSet (K : PySem.W.Frag) (bmB : List Value) (newId : String) (f : Str) (to te : TE) : TS := fun D σ H => te σ H fun y H1 => to σ H1 fun x H2 => ∃ a C : Addr, x = .ref a ∧ XC K C bmB newId ∧ PySem.W.findIn K (.ref C) f = some none ∧
  ((H2 a = some (exo a C none) ∧ ∀ dx, H2 dx = none → dx ≠ a → D.nx σ (upd (upd H2 dx (exd dx [(f, y)])) a (exo a C (some dx)))) ∨
    ∃ (dx : Addr) (fs : List (Str × V)), H2 a = some (exo a C (some dx)) ∧ H2 dx = some (exd dx fs) ∧ fs.length ≤ 900 ∧ D.nx σ (upd H2 dx (exd dx ((f, y) :: fs))))
/-- e.f of such a value -/
def tXAt (K : PySem.W.Frag) (bmB : List Value) (newId : String) (f : Str) (te : TE) : TE := fun σ H Q => te σ H fun x H1 => ∃ (a C dx : Addr) (fs : List (Str × V)) (v : V), x = .ref a ∧ XC K C bmB newId ∧ PySem.W.findIn K (.ref C) f = some none ∧
  (H1 a = some (exo a C (some dx)) ∨ H1 a = some (exw a C (some dx))) ∧ H1 dx = some (exd dx fs) ∧ fs.lookup f = some v ∧ Q v H1
/-- isinstance(e, c) of such a value -/
def rXIs (K : PySem.W.Frag) : List V → Hp → VK → Prop := fun xs H Q => ∃ (a C : Addr) (bmB : List Value) (newId : String) (c : V) (cv : Value) (b : Bool), xs = [.ref a, c] ∧ XC K C bmB newId ∧
  (∃ d, (H a = some (exo a C d) ∨ H a = some (exw a C d)) ∧ (d = none ∨ ∃ dx fs, d = some dx ∧ H dx = some (exd dx fs))) ∧ (∀ u, RelV c u → u = cv) ∧ PySem.W.kitOne K (.ref C) cv = some b ∧ Q (.bl b) H
section
variable {X : Cx} {o e : Expr} {es : List Expr} {to te : TE} {ta : TA} {f x : Str} {p p' p1 p2 pos : Pos} {B newId initId : String} {bmB : List Value} {D C : Addr}
theorem pe_xinit {pl : Sem Bool} (Y : XB B bmB newId initId) (hg : Gl X x) (hm : X.mg x = some (.ref D)) (sD : PySem.W.specialIn X.K (.ref D) "__getattribute__" = some (some (.builtin "type.__getattribute__")))
    (rD : PySem.W.readsIn X.K D (.type "type") = true) (fD : PySem.W.findCls X.K (.ref D) (.type "type") "__init__" = some (.val (.builtin initId))) (hh : PySem.W.handedIn (.builtin initId) = true) (ha : PA X (e :: es) ta)
    (hc : eval (.Call (.Attribute (.Name x p1) "__init__" p2) (e :: es) [] pos) X.env = (do
      let ov ← eval (.Name x p1) X.env
      standAt p2.atName
      let (f, first) ← holding [ov] (getMethod ov "__init__" pl)
      callWith pos f first (backTo pos (starEach (e :: es) X.env)) (backToKw pos (keywordEach [] X.env))) := by rfl)
    (he : starEach (e :: es) X.env = (false, eval e X.env) :: starEach es X.env := by rfl) (hpl : (backTo pos (starEach es X.env)).any (·.1) = false := by rfl) (hd : (x == ("__debug__" : Str)) = false := by decide) :
    PE X (.Call (.Attribute (.Name x p1) "__init__" p2) (e :: es) [] pos) (tXInit X.K bmB newId ta) := by
  refine ⟨fun pins s σ H Q I h => ?_⟩
  refine PySem.W.methodCall_KW (ld_glob I hg hm ?_ hd) hc
  refine PySem.W.method_cls I.kIn sD (PySem.W.cls_value I.kIn rD fD hh ?_)
  show wpAny _ _ (callWith pos (Value.builtin initId) [] (backTo pos (starEach (e :: es) X.env)) []) _ _ _
  refine PyProof.Rows.callWith_method1 (thn (ha.run pos pins _ σ H _ (I.tok _) h) fun us s1 hh1 => ?_) he hpl
  obtain ⟨vs, H1, I1, r1, a, C, ws, ev, hl, T, ea, q⟩ := hh1
  subst ev
  cases r1 with
  | @cons _ u0 _ ur ra rw' =>
    obtain rfl : u0 = Value.ref a := ra
    have hlen : ur.length ≤ sizeLine := by
      have := Paired.length rw'
      rw [sizeLine_eq]
      omega
    exact xinit T Y I1 ea hlen fun s' J => ⟨.non, H1, J, rfl, q⟩
theorem ps_xset (Y : XB B bmB newId initId) (ho : PE X o to) (he : PE X e te) (hs : swapsWith e (some (.Attribute o f p')) pos.line X.env = pure false := by rfl) : PS X (.Assign [.Attribute o f p'] e pos) (tXSet X.K bmB newId f to te) := by
  refine ⟨fun pins s σ H D I h => ?_⟩
  refine plainObj_wpAny_Assign_Attribute (thn (he.run pins s σ H _ I h) fun v s1 h1 => ?_) hs
  obtain ⟨y, H1, I1, r1, q1⟩ := h1
  refine thn (ho.run pins s1 σ H1 _ I1 q1) fun u s2 h2 => ?_
  obtain ⟨x, H2, I2, r2, a, C, ex, T, hno, q⟩ := h2
  subst ex
  obtain rfl : u = Value.ref a := r2
  rcases q with ⟨ea, q⟩ | ⟨dx, fs, ea, ed, hl, q⟩
  · exact xset1 T Y I2 ea hno r1 fun dx s' n ne J => ⟨σ, _, J, q dx n ne⟩
  · exact xset2 T Y I2 ea ed hl hno r1 fun s' J => ⟨σ, _, J, q⟩
theorem pe_xat (he : PE X e te) (hb : attributeBase e f X.env (eval e X.env) = eval e X.env := by rfl) : PE X (.Attribute e f pos) (tXAt X.K bmB newId f te) := by
  refine ⟨fun pins s σ H Q I h => ?_⟩
  refine attr_of hb (thn (he.run pins s σ H _ I h) fun u s1 hh => ?_)
  obtain ⟨x, H1, I1, rx, a, C, dx, fs, v, ex, T, hno, ea, ed, hl, q⟩ := hh
  subst ex
  obtain rfl : u = Value.ref a := rx
  obtain ⟨⟨oc, odd, odt, osl⟩, vs0, ho, hc0, hd0, hf0⟩ := ex_any I1.hok ea
  dsimp only at hc0 hd0 hf0
  subst hc0 hd0 hf0
  obtain ⟨mA, hns, rel⟩ := exd_at I1.hok ed
  obtain ⟨od, hod, look⟩ := lookIn_ns hns
  obtain ⟨z, hz, rz⟩ := RelO.some_of (v := v) (o := mA f) (by have := rel f; rw [hl] at this; exact this)
  have J : PySem.W.InstAt s1.heap a _ C (some od) := ⟨ho, rfl, rfl, hod⟩
  exact HandSPX.exc_get I1.kIn J T.ga T.gt T.ex (PySem.W.findObj_own T.hd hno rfl (by rw [look, hz])) (handed_of rz) ⟨v, H1, I1.tok _, rz, q⟩
theorem call_xis : CallR X (.builtin "isinstance") (rXIs X.K) := by
  intro pins s σ H xs us Q I r h
  obtain ⟨a, C, bmB, newId, c, cv, b, rfl, T, hx, hcv, e, q⟩ := h
  cases r with
  | cons rx rr =>
    cases rr with
    | cons rt rr =>
      cases rr
      cases rx
      have ec := hcv _ rt
      subst ec
      have hcl : (PySem.W.clsIn X.K C).isSome = true := by
        obtain ⟨cd, hc, _⟩ := T.cls
        rw [hc]; rfl
      obtain ⟨d, hx, hd⟩ := hx
      obtain ⟨⟨oc, odd, odt, osl⟩, vs0, ho, hc0, hd0, hf0⟩ := ex_any I.hok hx
      dsimp only at hc0 hd0 hf0
      subst hc0 hd0 hf0
      rcases hd with rfl | ⟨dx, fs, rfl, hdx⟩
      · have J : PySem.W.InstAt s.heap a _ C none := ⟨ho, rfl, rfl, trivial⟩
        exact PySem.W.kia_one (PySem.W.kitx_exc hcl T.ga T.gt T.ex T.ca T.cn T.ct T.cm) I.kIn J e (fun z => nomatch z) fun tk => ⟨.bl b, H, I.kept (t' := tk) fun _ _ z => z, rfl, q⟩
      · obtain ⟨mA, hns, rel⟩ := exd_at I.hok hdx
        obtain ⟨od, hod, look⟩ := lookIn_ns hns
        have J : PySem.W.InstAt s.heap a _ C (some od) := ⟨ho, rfl, rfl, hod⟩
        exact PySem.W.kia_one (PySem.W.kitx_exc hcl T.ga T.gt T.ex T.ca T.cn T.ct T.cm) I.kIn J e (fun z => nomatch z) fun tk => ⟨.bl b, H, I.kept (t' := tk) fun _ _ z => z, rfl, q⟩
end
end L2
namespace XV
open PySem PySem.W PySem.Calls PyProof.Rows Builtin Builtin.ObjectAttr HandSPX
section
variable {prog : Program} {w : World} {A : Around} {E : Value → Shared → Prop} {R : Result → Shared → Prop} {h : Heap} {g : Array GenState} {d : Drawn} {t : Nat} {os : OsState}
variable {nm q : Str} {C N : Addr} {bs bm bmB : List Value} {hdct : Bool} {sn : List Str} {sub : List Value} {ab : Bool} {col : Option Bool} {dd : Option Addr} {k0 k1 k2 k3 k5 : Option Value} {B newId initId : String} {kw : List (Str × Value)} {rest : List Value}
theorem newLook {M : Model} {Q : Unit → Shared → Prop} (F : ExcBaseFacts B newId initId bmB) (hT : ∀ X : String, bm.contains (.type X) = bmB.contains (.type X))
    (hC : h.get? C = some (excClassObj nm q C N bs bm hdct sn sub ab col dd k0 k1 k2 k3 k5 newId)) (hq : Q () ⟨h, g, d, t, os⟩) :
    wpAny M A (checkBuiltinCall newId ⟨.ref C :: rest, kw⟩) Q E ⟨h, g, d, t, os⟩ := by
  have hB : (Value.ref C :: bm).contains (.type B) = true := by rw [List.contains_cons, hT, F.hasB, Bool.or_true]
  have star := F.noStar
  simp only [checkBuiltinCall, F.newKind, F.newSplit, F.newRow]
  repeat (first
    | refine wpAny_loadPart_at hC ?_
    | (refine wpAny_isSubtype_exc hC ?_; rw [hB])
    | refine wpAny_staticBase_exc hC ?_
    | refine wpAny_madeBy_exc hC ?_
    | simp only [bne_self_eq_false, Bool.false_eq_true, if_false]
    | wp_step)
  exact hq
theorem newRun (F : ExcBaseFacts B newId initId bmB) (hT : ∀ X : String, bm.contains (.type X) = bmB.contains (.type X))
    (hC : h.get? C = some (excClassObj nm q C N bs bm hdct sn sub ab col dd k0 k1 k2 k3 k5 newId))
    (hq : R (.ok (.ret (.ref (h.objs.size + 1)))) ⟨(h.push { cls := .type "tuple", data := .seq rest.toArray }).push
      { cls := .ref C, data := .fields #[.ref h.objs.size, .none, .none, .none, .bool false, .none] }, g, d, t, os⟩) (hrest : rest.length ≤ sizeLine) :
    codeAny (model prog w) A (.builtin newId ⟨.ref C :: rest, kw⟩) R ⟨h, g, d, t, os⟩ := by
  have ends := F.ends
  have hB : (Value.ref C :: bm).contains (.type B) = true := by rw [List.contains_cons, hT, F.hasB, Bool.or_true]
  have hA : (Value.ref C :: bm).contains (.type "AttributeError") = false := by rw [List.contains_cons, hT, F.noAttr]; rfl
  have hN : (Value.ref C :: bm).contains (.type "NameError") = false := by rw [List.contains_cons, hT, F.noName]; rfl
  refine codeAny_builtinAt F.entry ?_
  unfold Builtin.«BaseException.__new__»
  refine PySem.wpAt_bind ?_
  show PySem.wpAt _ _ _ (stack >>= _) _ _ _
  refine PySem.wpAt_bind (PySem.wpAt_stack fun p below => PySem.wpAt_of_wpAny ?_)
  wp_walk
  refine PySem.wpAt_of_wpAny ?_
  rw [F.owner]
  repeat (first
    | with_reducible refine wpAny_madeHere_exc F.canon hC ?_
    | with_reducible refine wpAny_loadPart_at hC ?_
    | (with_reducible refine wpAny_isSubtype_exc hC ?_; first | rw [hB] | rw [hA] | rw [hN])
    | wp_step)
  show R _ _
  rw [Heap.size_push]
  exact hq
theorem typeCall (F : ExcBaseFacts B newId initId bmB) (hT : ∀ X : String, bm.contains (.type X) = bmB.contains (.type X)) {fI : Addr} {Q : Fin → Shared → Prop}
    (hC : h.get? C = some (excClassObj nm q C N bs bm hdct sn sub ab col dd k0 k1 k2 k3 k5 newId))
    (hi : Looks (model prog w) h (typeLookup (.ref C) "__init__") (some (.ref fI))) (hb : ∀ self, Looks (model prog w) h (bindSpecial (.ref fI) self) (.ref fI, [self])) (hrest : rest.length ≤ sizeLine)
    (hq : codeAny (model prog w) A (.call (.ref fI) ⟨.ref (h.objs.size + 1) :: rest, kw⟩)
      (fun r s' => match r with
        | .ok (.ret v) => v = .none ∧ Q (.done (.ret (.ref (h.objs.size + 1)))) s'
        | .ok _ => False
        | .error e => E e s')
      ⟨(h.push (kdv_tup rest)).push (excO C h.objs.size), g, d, t, os⟩) :
    wpAny (model prog w) A (Builtin.«type.__call__» ⟨.ref C :: rest, kw⟩) Q E ⟨h, g, d, t, os⟩ := by
  repeat (first
    | with_reducible refine wpAny_loadPart_at hC ?_
    | with_reducible refine wpAny_madeBy_exc hC ?_
    | wp_step)
  refine codeAny_call_builtin_code (Code.quiet_builtin _ F.quiet) (newLook F hT hC ?_)
  refine newRun F hT hC ?_ hrest
  show wpAny _ _ _ _ _ _
  have k : ∀ b o, h.get? b = some o → ((h.push (kdv_tup rest)).push (excO C h.objs.size)).get? b = some o :=
    fun b o e => Heap.get?_push_of_some _ (Heap.get?_push_of_some _ e)
  have hC1 := k _ _ hC
  have got : ((h.push (kdv_tup rest)).push (excO C h.objs.size)).get? (h.objs.size + 1) = some (excO C h.objs.size) := by heap_get
  have hCC : (Value.ref C :: bm).contains (.ref C) = true := by simp
  unfold isInstance
  repeat (first
    | with_reducible refine wpAny_loadPart_at got ?_
    | (with_reducible refine wpAny_isSubtype_exc hC1 ?_; rw [hCC])
    | wp_step)
  show wpAny _ _ (typeLookup (.ref C) _) _ _ _
  refine (hi.keeps k).at ?_
  refine wpAny_holding (wpAny_bind (((hb (.ref (h.objs.size + 1))).keeps k).at ?_))
  refine wpAny_bind (wpAny_call (codeAny_mono hq fun r s' z => ?_))
  rcases r with er | (v | _ | _ | _) <;> first
    | exact z
    | exact z.elim
    | skip
  obtain ⟨rfl, z⟩ := z
  first
    | exact wpAny_pure (wpAny_pure z)
    | (wp_walk
       exact z)
theorem callX (F : ExcBaseFacts B newId initId bmB) (hT : ∀ X : String, bm.contains (.type X) = bmB.contains (.type X)) {fI : Addr}
    (hC : h.get? C = some (excClassObj nm q C N bs bm hdct sn sub ab col dd k0 k1 k2 k3 k5 newId))
    (hi : Looks (model prog w) h (typeLookup (.ref C) "__init__") (some (.ref fI))) (hb : ∀ self, Looks (model prog w) h (bindSpecial (.ref fI) self) (.ref fI, [self])) (hrest : rest.length ≤ sizeLine)
    (hq : codeAny (model prog w) (A.under (.builtin "type.__call__" ⟨.ref C :: rest, kw⟩)) (.call (.ref fI) ⟨.ref (h.objs.size + 1) :: rest, kw⟩) (InitBack (h.objs.size + 1) R)
      ⟨(h.push (kdv_tup rest)).push (excO C h.objs.size), g, d, t, os⟩) :
    codeAny (model prog w) A (.call (.ref C) ⟨rest, kw⟩) R ⟨h, g, d, t, os⟩ := by
  have f1 := tc_lookup
  have f2 := tc_bind (.ref C)
  have isT : (⟨h, g, d, t, os⟩ : Shared).TypeIs (.ref C) "type" := ⟨_, hC, rfl⟩
  refine codeAny_of_tree ?_
  show wpAny _ _ (callAny (.ref C) _) _ _ _
  repeat (any_goals (first
    | assumption
    | with_reducible refine wpAny_loadPart_at hC ?_
    | wp_step))
  refine ⟨rfl, ?_⟩
  refine codeAny_call_builtin_at (Code.quiet_builtin _ (by decide +kernel)) entry_typeCall
    (wpAny_check_type_call_sub hC (typeCall F hT hC hi hb hrest ?_))
  refine codeAny_mono hq fun r s' z => ?_
  rcases r with e | (v | _ | _ | _) <;> exact z
end
end XV
namespace L2
open PySem PySem.Spec PyProof.Rows
/-- C(e, .., k = v, ..) of an own exception class with an __init__ of its own, as a value: n values, keywords by their names -/
def tXNewN (C : Addr) (n m : Nat) (sp : Sp) (gV : List V → List V → List V) (t tk : TA) : TE := fun σ H Q => t σ H fun vs H1 => tk σ H1 fun zs H2 => vs.length = n ∧ zs.length = m ∧
  ∀ a, H2 a = none → sp (gV (.ref a :: vs) zs) (upd H2 a (exo a C none)) (fun v H3 => v = .non ∧ Q (.ref a) H3) E0
section
variable {X : Cx} {k n : Nat} {fI C : Addr} {fd : FuncData} {ps ks : List Str} {sp : Sp} {x : Str} {p pos : Pos} {e : Expr} {es : List Expr} {kws : List Keyword} {t tk : TA} {g : List Value → List Value → List Value} {gV : List V → List V → List V}
variable {B newId initId : String} {bmB : List Value}
theorem run_xnew {pins : List (Addr × Obj)} {σ : St} {H : Hp} {s : Shared} {Q : VK} {us ws : List Value} {vs zs : List V} (T : XC X.K C bmB newId) (Y : XB B bmB newId initId) (iC : PySem.W.findIn X.K (.ref C) "__init__" = some (some (.ref fI)))
    (tI : PySem.W.typeIn X.K (.ref fI) = some (.type "function")) (F1 : FnOk X.prog X.w X.K X.mg X.base CX0 k fI fd ps sp) (hr : Room (k + 1) X.A) (hb : KBn X.K fd ps (n + 1) ks g gV)
    (I : Inv X pins σ H s) (r : Vals vs us) (rz : Vals zs ws) (l1 : vs.length = n) (l2 : zs.length = ks.length) (hn : n ≤ 1000)
    (h : ∀ a, H a = none → sp (gV (.ref a :: vs) zs) (upd H a (exo a C none)) (fun v H3 => v = .non ∧ Q (.ref a) H3) E0) :
    wpAny (model X.prog X.w) X.A (call (.ref C) us (ks.zip ws)) (EP X pins σ Q) X.xe s := by
  obtain ⟨nm, N, qn, bs, bm, hdct, sn, sub, ab, col, dd, k0, k1, k2, k3, k5, hC, hbm⟩ := PySem.W.excInit_of I.kIn T.q
  obtain ⟨hp, gs, dr, tk, os⟩ := s
  have above : hp.objs.size ≤ hp.objs.size + 1 := Nat.le_succ _
  have hq := h (hp.objs.size + 1) (I.hok.fresh above)
  have kk : ∀ b o, hp.get? b = some o → ((hp.push (PySem.W.kdv_tup us)).push (PySem.HandSPX.excO C hp.objs.size)).get? b = some o :=
    fun b o e => Heap.get?_push_of_some _ (Heap.get?_push_of_some _ e)
  have got : ((hp.push (PySem.W.kdv_tup us)).push (PySem.HandSPX.excO C hp.objs.size)).get? (hp.objs.size + 1) = some (PySem.HandSPX.excO C hp.objs.size) := by heap_get
  have I2 : Inv X pins σ (upd H (hp.objs.size + 1) (exo (hp.objs.size + 1) C none)) ⟨(hp.push (PySem.W.kdv_tup us)).push (PySem.HandSPX.excO C hp.objs.size), gs, dr, tk, os⟩ :=
    I.laid (t' := tk) (a := hp.objs.size + 1) (o := exo (hp.objs.size + 1) C none) kk above (exo_ok got)
  have r1 : Vals (V.ref (hp.objs.size + 1) :: vs) (Value.ref (hp.objs.size + 1) :: us) := .cons rfl r
  have r2 := hb.rel r1 rz
  have e1 : (Value.ref (hp.objs.size + 1) :: us).length = n + 1 := r1.length.symm.trans (congrArg Nat.succ l1)
  have e2 : ws.length = ks.length := rz.length.symm.trans l2
  have hus : us.length ≤ sizeLine := by
    have := r.length
    rw [sizeLine_eq]
    omega
  refine wpAny_call (XV.callX Y.base hbm hC (PySem.W.looks_findIn I.kIn iC) (fun self => PySem.W.bind_fn I.kIn self tI) hus
    (codeAny_mono (F1.run _ X.stack _ _ ⟨Value.ref (hp.objs.size + 1) :: us, ks.zip ws⟩ (g (Value.ref (hp.objs.size + 1) :: us) ws) _ _ E0
      (hr.make C us (ks.zip ws)) (I2.env0.make C us (ks.zip ws)) (hb.to _ (Value.ref (hp.objs.size + 1) :: us) ws I2.kIn e1 e2) r2 hq) fun r s' hq' => ?_))
  cases r with
  | error er => exact False.elim hq'
  | ok fl =>
    cases fl with
    | ret u =>
      obtain ⟨v, H', I3, rv, ev, q3⟩ := I2.after hq'
      subst ev
      exact ⟨rv, ⟨V.ref (hp.objs.size + 1), H', I3, rfl, q3⟩⟩
    | next => exact False.elim hq'
    | brk => exact False.elim hq'
    | cont => exact False.elim hq'
theorem pe_xnewP (T : XC X.K C bmB newId) (Y : XB B bmB newId initId) (iC : PySem.W.findIn X.K (.ref C) "__init__" = some (some (.ref fI)))
    (tI : PySem.W.typeIn X.K (.ref fI) = some (.type "function")) (F1 : FnOk X.prog X.w X.K X.mg X.base CX0 k fI fd ps sp) (hr : Room (k + 1) X.A) (hb : KBn X.K fd ps (n + 1) [] g gV) (hn : n ≤ 1000) (hg : Gl X x) (hm : X.mg x = some (.ref C))
    (ha : PA X (e :: es) t) (hdb : (x == ("__debug__" : Str)) = false := by decide) (he : starEach (e :: es) X.env = (false, eval e X.env) :: starEach es X.env := by rfl) (hpl : (backTo pos (starEach es X.env)).any (·.1) = false := by rfl) :
    PE X (.Call (.Name x p) (e :: es) [] pos) (tXNewN C n 0 sp gV t tNil) := by
  refine ⟨fun pins s σ H Q I h => ?_⟩
  refine wpAny_Call_Name_kw (ld_glob I hg hm ?_ hdb)
  refine PySem.W.callWith_K (h₀ := X.base) I.ok.mod.kin T.kC (thn (ha.run pos pins s σ H _ I h) fun us s1 h1 => ?_) he hpl
  obtain ⟨vs, H1, I1, r, l1, l2, q⟩ := h1
  exact ⟨I1.kIn, run_xnew (ks := []) T Y iC tI F1 hr hb I1 r .nil l1 rfl hn q⟩
theorem pe_xnewZ (T : XC X.K C bmB newId) (Y : XB B bmB newId initId) (iC : PySem.W.findIn X.K (.ref C) "__init__" = some (some (.ref fI)))
    (tI : PySem.W.typeIn X.K (.ref fI) = some (.type "function")) (F1 : FnOk X.prog X.w X.K X.mg X.base CX0 k fI fd ps sp) (hr : Room (k + 1) X.A) (hb : KBn X.K fd ps (0 + 1) [] g gV) (hg : Gl X x) (hm : X.mg x = some (.ref C))
    (hdb : (x == ("__debug__" : Str)) = false := by decide) : PE X (.Call (.Name x p) [] [] pos) (tXNewN C 0 0 sp gV tNil tNil) := by
  refine ⟨fun pins s σ H Q I h => ?_⟩
  refine wpAny_Call_Name_kw (ld_glob I hg hm ?_ hdb)
  obtain ⟨_, _, q⟩ := h
  exact PySem.W.callWith_K0 I.kIn T.kC (run_xnew (us := []) (ks := []) T Y iC tI F1 hr hb I .nil .nil rfl rfl (by decide) q)
end
end L2
namespace My
open PySem L2 Evl
set_option autoImplicit false
/-- an exception of the class at C with fields of which this is known | one without fields | one of these -/
def XF (C : Addr) (fs : List (Str × Pr)) : Pr := ⟨fun v H => ∃ (a dx : Addr) (vs : List (Str × V)), v = .ref a ∧ (H a = some (exo a C (some dx)) ∨ H a = some (exw a C (some dx))) ∧ H dx = some (exd dx vs) ∧ vs.map Prod.fst = fs.map Prod.fst ∧ AllP (fs.map Prod.snd) (vs.map Prod.snd) H,
  fun e ⟨a, dx, vs, h1, h2, h3, h4, h5⟩ => ⟨a, dx, vs, h1, h2.imp (e _ _) (e _ _), e _ _ h3, h4, AllP.m e h5⟩⟩
def X0 (C : Addr) : Pr := ⟨fun v H => ∃ a : Addr, v = .ref a ∧ (H a = some (exo a C none) ∨ H a = some (exw a C none)), fun e ⟨a, h1, h2⟩ => ⟨a, h1, h2.imp (e _ _) (e _ _)⟩⟩
def XK (C : Addr) : Pr := ⟨fun v H => ∃ a : Addr, v = .ref a ∧ ∃ d, (H a = some (exo a C d) ∨ H a = some (exw a C d)) ∧ (d = none ∨ ∃ dx fs, d = some dx ∧ H dx = some (exd dx fs)),
  fun e ⟨a, h1, d, h2, h3⟩ => ⟨a, h1, d, h2.imp (e _ _) (e _ _), h3.imp id fun ⟨dx, fs, z, h4⟩ => ⟨dx, fs, z, e _ _ h4⟩⟩⟩
theorem xk_f {C : Addr} {fs : List (Str × Pr)} {v : V} {H : Hp} (h : (XF C fs).P v H) : (XK C).P v H := by
  obtain ⟨a, dx, vs, h1, h2, h3, _⟩ := h
  exact ⟨a, h1, _, h2, .inr ⟨dx, vs, rfl, h3⟩⟩
theorem xk_0 {C : Addr} {v : V} {H : Hp} (h : (X0 C).P v H) : (XK C).P v H := by
  obtain ⟨a, h1, h2⟩ := h
  exact ⟨a, h1, _, h2, .inl rfl⟩
/-- what an __init__ of one field promises; of two -/
def spI1 (C : Addr) (f : Str) : Sp := fun vs H Q _ => ∃ (a : Addr) (v : V), vs = [.ref a, v] ∧ H a = some (exo a C none) ∧ ∀ dx, H dx = none → dx ≠ a → Q .non (upd (upd H dx (exd dx [(f, v)])) a (exo a C (some dx)))
section
variable {te ta tb : TE} {t tk : TA} {σ : L2.St} {B : Hp} {p q : Pr} {ps qs : List Pr} {v : V} {K : PySem.W.Frag} {D : Ends} {C : Addr} {f g : Str} {n m : Nat} {gV : List V → List V → List V}
theorem look_all {H : Hp} : ∀ {fs : List (Str × Pr)} {vs : List (Str × V)}, vs.map Prod.fst = fs.map Prod.fst → AllP (fs.map Prod.snd) (vs.map Prod.snd) H → fs.lookup f = some p → ∃ v, vs.lookup f = some v ∧ p.P v H
  | [], _, _, _, h => by cases h
  | (g, r) :: fs, [], e, _, _ => by cases e
  | (g, r) :: fs, (g', w) :: vs, e, a, h => by
    obtain ⟨rfl, e'⟩ := List.cons.inj e
    rw [List.lookup_cons] at h ⊢
    by_cases c : (f == g') = true
    · rw [c] at h ⊢
      cases h
      exact ⟨w, rfl, a.1⟩
    · have c' : (f == g') = false := by simpa using c
      rw [c'] at h ⊢
      exact look_all e' a.2 h
theorem p_xat {fs : List (Str × Pr)} {bmB : List Value} {newId : String} (T : XC K C bmB newId) (hno : PySem.W.findIn K (.ref C) f = some none) (h : EvP te σ B (XF C fs)) (hl : fs.lookup f = some p) : EvP (tXAt K bmB newId f te) σ B p := fun H1 e Q k =>
  h H1 e _ fun v B2 H2 g2 b => by
    obtain ⟨a, dx, vs, rfl, h2, h3, h4, h5⟩ := b
    obtain ⟨w, hw, pw⟩ := look_all h4 h5 hl
    exact ⟨a, C, dx, vs, w, rfl, T, hno, h2.imp (g2.c _ _) (g2.c _ _), g2.c _ _ h3, hw, k w B2 H2 g2 pw⟩
theorem p_xis {bmB : List Value} {newId : String} {c : V} {cv : Value} {b : Bool} (T : XC K C bmB newId) (h : EvP te σ B (XK C)) (hc : EvP ta σ B (IsV c)) (hcv : ∀ u, RelV c u → u = cv) (hk : PySem.W.kitOne K (.ref C) cv = some b) :
    EvP (tCB (rXIs K) (tCons te (tCons ta tNil))) σ B (IsV (.bl b)) := fun H1 e Q k =>
  h H1 e _ fun v B2 H2 g2 b2 => hc H2 (g2.b.trans g2.c) _ fun w B3 H3 g3 b3 => by
    obtain rfl : w = c := b3
    obtain ⟨a, rfl, hx⟩ := (XK C).m (g2.c.trans g3.a) b2
    exact ⟨a, C, bmB, newId, w, cv, b, rfl, T, hx, hcv, hk, k _ _ _ (g2.join g3) rfl⟩
end
/-- the class D of the module, over which the built-in stands with that __init__ -/
structure XD (K : PySem.W.Frag) (mg : Str → Option Value) (x : Str) (D : Addr) (initId : String) : Prop where
  m : mg x = some (.ref D)
  s : PySem.W.specialIn K (.ref D) "__getattribute__" = some (some (.builtin "type.__getattribute__"))
  r : PySem.W.readsIn K D (.type "type") = true
  f : PySem.W.findCls K (.ref D) (.type "type") "__init__" = some (.val (.builtin initId))
  h : PySem.W.handedIn (.builtin initId) = true
end My
namespace L2
open PySem PySem.Spec PyProof.Rows
theorem pe_globR {X : Cx} {x : Str} {C : Addr} {p : Pos} (hg : Gl X x) (hm : X.mg x = some (.ref C)) (hd : (x == ("__debug__" : Str)) = false := by decide) : PE X (.Name x p) (tC (.ref C)) := by
  refine ⟨fun pins s σ H Q I h => ?_⟩
  exact ld_glob I hg hm ⟨.ref C, H, I, rfl, h⟩ hd
end L2
namespace My
set_option autoImplicit false
open PySem L2 Evl
/-- what a walk over this hands out: n things, the i-th of which P i is known -/
def Src (wi : TI) (σ : L2.St) (B : Hp) (n : Nat) (P : Nat → Pr) : Prop := ∀ H1, Ex B H1 → ∀ R : It → Hp → Prop, (∀ (J : It) (B' H2 : Hp) (G : Hp → Prop) (Y : Nat → Hp → V → Hp → Prop), Gr B H1 B' H2 → Walk J n G Y → (∀ H, Ex B' H → G H) →
  (∀ i H v H', i < n → Ex B' H → Y i H v H' → H' = H ∧ (P i).P v B') → R J H2) → wi σ H1 R
section
variable {te ta tb : TE} {t tr : TA} {tt : TT} {σ : L2.St} {B B' H : Hp} {p q : Pr} {ps qs : List Pr} {v : V} {K : PySem.W.Frag} {D : Ends} {d e : PyData} {ds es : List PyData}
def oneS (x : Str) (i : Nat) : Str := ⟨#[x.cps.getD i 0]⟩
theorem src_str {x : Str} (h : Ev te σ B (.str x)) : Src (iStr te) σ B x.cps.size (fun i => IsV (.str (oneS x i))) := fun H1 a R k => h H1 a _ fun H2 e =>
  ⟨x, rfl, k _ B H2 _ _ (Gr.wide a e) walk_str (fun _ _ => trivial) fun i H v H' hi _ z => by
    obtain ⟨z1, c, z2, rfl⟩ := z
    refine ⟨z1, ?_⟩
    show V.str ⟨#[c]⟩ = V.str (oneS x i)
    unfold oneS
    rw [Array.getD_eq_getD_getElem?, z2]
    rfl⟩
/-- a comprehension over it, some items left out -/
theorem p_lcS {wi : TI} {n : Nat} {P : Nat → Pr} {g : TG} {vs : List Nat} (h : Src wi σ B n P) (hl : n ≤ 100000) (keep : Nat → Bool) (res : Nat → Pr)
    (step : ∀ i v B1, i < n → Ex B B1 → (P i).P v B1 → ∃ σ2, wipe σ2 vs = wipe σ vs ∧ (∀ H2 Q, Ex B1 H2 → Q σ2 H2 → g v (wipe σ vs) H2 Q) ∧ EvT tt σ2 B1 (keep i) ∧ (keep i = true → EvP te σ2 B1 (res i))) :
    EvP (tLc wi g tt te vs) σ B (LsP (((List.range n).filter keep).map res)) := fun H1 a Q k =>
  h H1 a _ fun J B2 H2 G Y gr w hG hY Dd hD => by
    refine lc_it w (fun i H3 => ∃ B3 acc, Gr B2 H2 B3 (wo Dd H3) ∧ H3 Dd = some (.lst acc) ∧ AllP (((List.range i).filter keep).map res) acc B3) ?_ ?_ ?_ ?_
    · exact ⟨B2, [], by rw [wo_new hD]; exact Gr.refl gr.c, upd_same, trivial⟩
    · rintro i H3 _ ⟨B3, acc, g3, _, _⟩
      exact hG H3 (g3.b.trans (g3.c.trans wo_ex))
    · rintro i v H3 H3' hi ⟨B3, acc, g3, hDd, hacc⟩ hy
      have exB : Ex B3 H3 := g3.c.trans wo_ex
      obtain ⟨rfl, pv⟩ := hY i H3 v H3' hi (g3.b.trans exB) hy
      have some3 : H3' Dd ≠ none := by
        rw [hDd]
        exact fun z => nomatch z
      obtain ⟨σ2, hw, hg, ht, he⟩ := step i v B3 hi (gr.b.trans g3.b) ((P i).m g3.b pv)
      refine hg H3' _ exB ⟨hw, ht H3' exB _ fun H4 e4 => ?_⟩
      have hD4 := e4 _ _ hDd
      have g4 : Gr B2 H2 B3 (wo Dd H4) := g3.side some3 (Gr.wide exB e4)
      have some4 : H4 Dd ≠ none := has e4 some3
      cases hk : keep i with
      | true =>
        rw [if_pos rfl]
        refine he hk H4 (exB.trans e4) _ fun y B5 H5 g5 hy => ?_
        have la : acc.length ≤ i := by
          rw [hacc.len, List.length_map]
          exact Nat.le_trans (List.length_filter_le _ _) (by rw [List.length_range]; exact Nat.le_refl _)
        refine ⟨acc, g5.a _ _ hD4, sz_lt (by omega), B5, acc ++ [y], by rw [wo_upd]; exact g4.side some4 g5, upd_same, ?_⟩
        rw [List.range_succ, List.filter_append, List.map_append]
        refine (hacc.m g5.b).app ?_
        have : List.filter keep [i] = [i] := by simp [hk]
        rw [this]
        exact ⟨hy, trivial⟩
      | false =>
        rw [if_neg Bool.false_ne_true]
        refine ⟨B3, acc, g4, hD4, ?_⟩
        rw [List.range_succ, List.filter_append, List.map_append]
        have : List.filter keep [i] = [] := by simp [hk]
        rw [this, List.map_nil, List.append_nil]
        exact hacc
    · rintro H3 ⟨B3, acc, g3, hDd, hacc⟩
      have hB3 : B3 Dd = none := wo_none g3.c
      refine k (.ref Dd) (upd B3 Dd (.lst acc)) H3 ⟨gr.a.trans (g3.a.trans wo_ex), gr.b.trans (g3.b.trans (Ex.new hB3)), fun b o e => ?_, fun x hb hh => ?_, fun z b ps q => ?_⟩ ⟨Dd, acc, rfl, upd_same, hacc.m (Ex.new hB3)⟩
      · by_cases n : b = Dd
        · subst n
          rw [upd_same] at e
          rw [hDd]
          exact e
        · rw [upd_ne n] at e
          exact g3.c.trans wo_ex _ _ e
      · have n : x ≠ Dd := fun z => by
          subst z
          exact has gr.a hh hD
        rw [upd_ne n]
        exact g3.d x (gr.d x hb hh) (has gr.a hh)
      · by_cases n : b = Dd
        · subst n
          rw [upd_same] at q
          cases q
        · rw [upd_ne n] at q
          exact g3.e (gr.e z) b ps q
/-- all items kept -/
theorem p_lcA {wi : TI} {n : Nat} {P : Nat → Pr} {g : TG} {vs : List Nat} (h : Src wi σ B n P) (hl : n ≤ 100000) (res : Nat → PyData)
    (step : ∀ i v B1, i < n → Ex B B1 → (P i).P v B1 → ∃ σ2, wipe σ2 vs = wipe σ vs ∧ (∀ H2 Q, Ex B1 H2 → Q σ2 H2 → g v (wipe σ vs) H2 Q) ∧ EvP te σ2 B1 (IsD K (res i))) :
    EvP (tLc wi g tYes te vs) σ B (IsD K (.list ((List.range n).map res))) := by
  have := p_lcS (tt := tYes) (te := te) h hl (fun _ => true) (fun i => IsD K (res i)) fun i v B1 hi e pv => by
    obtain ⟨σ2, a, b, c⟩ := step i v B1 hi e pv
    exact ⟨σ2, a, b, et_yes, fun _ => c⟩
  rw [List.filter_eq_self.mpr (fun _ _ => rfl)] at this
  refine d_lst (K := K) ?_
  rw [List.map_map]
  exact this
/-! ### data -/
theorem ed_bl {b : Bool} (h : Ev te σ B (.bl b)) : EvP te σ B (IsD K (.bool b)) := d_bl (p_ev h)
theorem ed_in {i : Int} (h : Ev te σ B (.int i)) : EvP te σ B (IsD K (.int i)) := d_int (p_ev h)
/-- the class of data -/
def tyS : PyData → String
  | .none => "NoneType"
  | .bool _ => "bool"
  | .int _ => "int"
  | .str _ => "str"
  | .list _ => "list"
  | .tuple _ => "tuple"
  | .dict _ => "dict"
theorem dps_bls : ∀ {vs : List V} {bs : List Bool}, DpAll K H vs (bs.map .bool) → vs = bs.map .bl
  | [], [], _ => rfl
  | _ :: _, _ :: _, .cons a b => by
    cases a
    rw [dps_bls b]
    rfl
theorem ev_allL {bs : List Bool} (h : EvP te σ B (IsD K (.list (bs.map .bool)))) : Ev (tCB (rAll K) (tCons te tNil)) σ B (.bl (bs.all id)) := fun H1 a Q k =>
  h H1 a _ fun v B2 H2 g x => by
    cases x with
    | lst y z =>
      have := dps_bls z
      subst this
      exact ⟨_, bs, rfl, ex_l g.c y, k H2 g.a⟩
theorem ed_lst (h : EvPs t σ B (ds.map (IsD K))) (hl : ds.length ≤ 100000) : EvP (tLst t) σ B (IsD K (.list ds)) := d_lst (p_lst h (by rw [List.length_map]; exact hl))
theorem ed_if {b : Bool} (h : EvT tt σ B b) (h1 : b = true → EvP ta σ B p) (h2 : b = false → EvP tb σ B p) : EvP (tIf tt ta tb) σ B p := fun H1 a Q k => h H1 a _ fun H2 e2 => by
  cases b with
  | true => exact h1 rfl H2 (a.trans e2) _ fun v B3 H3 g x => k v B3 H3 ((Gr.wide a e2).trans g) x
  | false => exact h2 rfl H2 (a.trans e2) _ fun v B3 H3 g x => k v B3 H3 ((Gr.wide a e2).trans g) x
/-! ### statements -/
/-! ### defs from data to data -/
/-- a def of the program's, as it is called -/
structure Cal (P : Program) (w : World) (K : PySem.W.Frag) (mg : Str → Option Value) (base : Heap) (x : Str) (k : Nat) (ps : List Str) (sp : Sp) (f : Addr) (fd : FuncData) : Prop where
  G : FnOk P w K mg base CX0 k f fd ps sp
  m : mg x = some (.ref f)
  k : PySem.W.keepIn K (.ref f) = true
  b : Binds K fd ps []
end
end My
namespace My
set_option autoImplicit false
open PySem PySem.Spec PyProof.Rows L2 Evl
section
variable {X : Cx}
end
section
variable {te ta tb : TE} {t tr : TA} {tt : TT} {σ : L2.St} {B B' H : Hp} {p q : Pr} {v : V} {K : PySem.W.Frag} {D : Ends} {d e : PyData} {ds es : List PyData}
end
/-! ### rankings and derivatives -/
def isNmB (x : Str) : Bool := decide (1 ≤ x.length) && decide (x.length ≤ 8) && x.cps.toList.all fun c => decide (97 ≤ c) && decide (c ≤ 122)
def IsNm (x : Str) : Prop := isNmB x = true
structure Rk where
  tot : Bool
  ns : List Str
  ax : Fin 3
def axsOf (a : Fin 3) : List Str := if a = 0 then ["x"] else if a = 1 then ["x", "y"] else ["y", "x"]
def Rk.axs (r : Rk) : List Str := axsOf r.ax
def Rk.srt (r : Rk) : Str := if r.tot then "total" else "names"
def Rk.D (r : Rk) : PyData := .tuple [.str r.srt, .tuple (r.ns.map .str), .tuple (r.axs.map .str)]
structure Rk.Ok (r : Rk) : Prop where
  ne : 1 ≤ r.ns.length
  le : r.ns.length ≤ 3
  nd : r.ns.Nodup
  nm : ∀ x ∈ r.ns, IsNm x
structure Dv where
  n : Str
  i : Int
  j : Int
deriving DecidableEq
def Dv.D (v : Dv) : PyData := .tuple [.str v.n, .int v.i, .int v.j]
structure Dv.Of (v : Dv) (r : Rk) : Prop where
  n : v.n ∈ r.ns
  i : 0 ≤ v.i
  j : 0 ≤ v.j
  y : v.j = 0 ∨ (Str.ofString "y") ∈ r.axs
def Rk.first (r : Rk) (v : Dv) : Int := if r.ax = 2 then v.j else v.i
def Rk.ahead (r : Rk) (v : Dv) : Int := -((r.ns.idxOf v.n : Nat) : Int)
def Rk.key (r : Rk) (v : Dv) : List Int := if r.tot then [v.i + v.j, r.first v, r.ahead v] else [r.ahead v, v.i + v.j, r.first v]
def cmpL (a b : List Int) : Int := if a = b then 0 else if HT.lexLt a b = true then -1 else 1
def Rk.cmp (r : Rk) (v u : Dv) : Int := cmpL (r.key v) (r.key u)

/-! ### what is known of such values -/
def DvP (u : Dv) : Pr := ⟨fun v H => ∃ a, v = .ref a ∧ H a = some (.tup [.str u.n, .int u.i, .int u.j]), fun e ⟨a, h1, h2⟩ => ⟨a, h1, e _ _ h2⟩⟩
theorem dv_d {K : PySem.W.Frag} {u : Dv} {v : V} {H : Hp} (h : (DvP u).P v H) : Dp K H v u.D := by
  obtain ⟨a, rfl, h2⟩ := h
  exact .tup (st_of h2) (.cons (.str _) (.cons (.int _) (.cons (.int _) .nil)))
section
variable {te ta tb : TE} {t tr : TA} {tt : TT} {σ : L2.St} {B B' H : Hp} {p q : Pr} {ps : List Pr} {v : V} {K : PySem.W.Frag} {D : Ends} {r : Rk} {u : Dv}
/-- (name, i, j), made -/
theorem p_dv {a b c : V} (ha : a = .str u.n) (hb : b = .int u.i) (hc : c = .int u.j) (h : EvPs t σ B [IsV a, IsV b, IsV c]) : EvP (tTup t) σ B (DvP u) := fun H1 e Q k =>
  h H1 e _ fun vs B2 H2 g b => by
    subst ha hb hc
    match vs, b with
    | [x, y, z], b =>
      obtain rfl : x = _ := b.1
      obtain rfl : y = _ := b.2.1
      obtain rfl : z = _ := b.2.2.1
      exact ⟨sz_of (by show 3 ≤ 100000; decide), fun w hw => k _ _ _ (g.trans (Gr.new _ g.c hw)) ⟨w, rfl, upd_same⟩⟩
/-! ### defs by what is known of what is handed in -/
def spP (R : List Pr → Pr → Prop) : Sp := fun vs H Q _ => ∃ B ps p, Ex B H ∧ AllP ps vs B ∧ R ps p ∧ ∀ v B' H', Gr B H B' H' → p.P v B' → Q v H'
theorem p_callP {R : List Pr → Pr → Prop} (h : EvPs t σ B ps) (hr : R ps p) : EvP (tCall (spP R) [] E0 t) σ B p := fun H1 a Q k =>
  h H1 a _ fun vs B2 H2 g b => by
    rw [List.append_nil]
    exact ⟨B2, ps, p, g.c, b, hr, fun v B3 H3 g3 x => k v B3 H3 (g.trans g3) x⟩
theorem spP_len {R : List Pr → Pr → Prop} {n : Nat} (h : ∀ ps p, R ps p → ps.length = n) : ∀ vs H Q E, spP R vs H Q E → vs.length = n := fun vs H Q E ⟨B, ps, p, _, a, b, _⟩ => by rw [a.len, h ps p b]
end
/-! ### t.index(x) -/
section
open PySem PySem.Spec PyProof.Rows
variable {X : Cx}
/-- tuple(l), the new tuple known as it stands -/
theorem call_tupleF : CallR X (.type "tuple") (fun xs H Q => ∃ p ys, xs = [.ref p] ∧ SqL X.K H p ys ∧ ∀ l o, H l = none → o.dict = none → Q (.ref l) (upd H l (.frz o (.tup ys)))) := by
  intro pins s σ H xs us Q I r ⟨p, ys, ex, hq, q⟩
  subst ex
  obtain ⟨u, rfl, rx⟩ := vals1 r
  obtain rfl : u = Value.ref p := rx
  obtain ⟨its, rv, pl, hz⟩ := I.list hq
  have hlen := rv.length
  refine call_tuple_list pl.isList (fun h1 kp => ?_) (by simp only [List.size_toArray] <;> omega)
  have I1 : Inv X pins σ H { s with heap := h1 } := I.kept (t' := s.toks) kp
  have n1 := I1.hok.fresh (Nat.le_refl h1.objs.size)
  have I2 : Inv X pins σ (upd H h1.objs.size (.frz { cls := .type "tuple", data := .seq its.toArray } (.tup ys))) { s with heap := h1.push { cls := .type "tuple", data := .seq its.toArray } } :=
    I1.laid (t' := s.toks) (fun b o e => Heap.get?_push_of_some _ e) (Nat.le_refl _) ⟨Heap.get?_push_size _ rfl, hz, its, rv, IsTup.new _ _⟩
  exact ⟨.ref h1.objs.size, _, I2, rfl, q _ _ n1 rfl⟩
end
section
open PySem L2 Evl
variable {te ta tb : TE} {t tr : TA} {tt : TT} {σ : L2.St} {B B' H : Hp} {p q : Pr} {ps : List Pr} {v : V} {K : PySem.W.Frag} {D : Ends} {r : Rk} {u : Dv}
end
end My
namespace My
set_option autoImplicit false
open PySem PySem.Spec PySem.W PySem.Calls PyProof.Rows L2 Evl
section
variable {prog : Program} {w : World} {A : Around} {R : Result → Shared → Prop} {I : Addr} {fp wr : List Addr} {n : Nat} {G : Array GenState → Array GenState → Prop} {P : Nat → Value → Prop} {St : Nat → Shared → Prop}
end
section
variable {prog : Program} {w : World} {A : Around} {E : Value → Shared → Prop} {s : Shared}
end
end My
namespace My
set_option autoImplicit false
open PySem L2 Evl
section
variable {te ta tb tc : TE} {t tr : TA} {tt : TT} {σ : L2.St} {B B' H : Hp} {p q : Pr} {ps : List Pr} {v : V} {K : PySem.W.Frag} {D : Ends}
theorem ev_chain {r1 r2 : Int → Int → Bool} {i j k : Int} (ha : Ev ta σ B (.int i)) (hb : Ev tb σ B (.int j)) (hc : Ev tc σ B (.int k)) : Ev (tChain (rI0 fun i j => .bl (r1 i j)) (rI0 fun i j => .bl (r2 i j)) ta tb tc) σ B (.bl (r1 i j && r2 j k)) := fun H1 e Q q =>
  ha H1 e _ fun H2 e2 => hb H2 (e.trans e2) _ fun H3 e3 => ⟨i, j, rfl, rfl, _, rfl, by
    cases h : r1 i j with
    | true =>
      show tc σ H3 _
      refine hc H3 ((e.trans e2).trans e3) _ fun H4 e4 => ?_
      have := q H4 ((e2.trans e3).trans e4)
      rw [h] at this
      exact ⟨j, k, rfl, rfl, this⟩
    | false =>
      have := q H3 (e2.trans e3)
      rw [h] at this
      exact this⟩
theorem ev_lenS {x : Str} (h : Ev te σ B (.str x)) (hl : x.length ≤ 100000) : Ev (tCB (fun xs H Q => ∃ z : Str, xs = [.str z] ∧ z.length ≤ sizeLine ∧ Q (.int (z.length : Nat)) H) (tCons te tNil)) σ B (.int (x.length : Int)) := fun H1 e Q q =>
  h H1 e _ fun H2 e2 => ⟨x, rfl, sz_of hl, q H2 e2⟩
theorem ev_sign {c : Nat} {z : Str} (ha : Ev ta σ B (.str ⟨#[c]⟩)) (hb : Ev tb σ B (.str z)) : Ev (tOp (fun x y H Q => ∃ (c : Nat) (z : Str), x = .str ⟨#[c]⟩ ∧ y = .str z ∧ Q (.bl (decide (c ∈ z.cps.toList))) H) ta tb) σ B (.bl (decide (c ∈ z.cps.toList))) := fun H1 e Q q =>
  ha H1 e _ fun H2 e2 => hb H2 (e.trans e2) _ fun H3 e3 => ⟨c, z, rfl, rfl, q H3 (e2.trans e3)⟩
/-- an if whose test fails, without an else -/
theorem ps_ifN {tu : TS} (a : Ex B H) (h : EvT tt σ B false) (k : ∀ H1, Ex H H1 → D.nx σ H1) : tIfS tt tu tNext D σ H := h H a _ fun H1 e => by
  rw [if_neg Bool.false_ne_true]
  exact k H1 e
end
theorem let_low {c : Nat} (h1 : 97 ≤ c) (h2 : c ≤ 122) : c ∈ (Str.ofString "abcdefghijklmnopqrstuvwxyz").cps.toList := by
  have : (Str.ofString "abcdefghijklmnopqrstuvwxyz").cps.toList = (List.range 26).map (· + 97) := by decide +kernel
  rw [this]
  exact List.mem_map.mpr ⟨c - 97, List.mem_range.mpr (by omega), by omega⟩
end My
namespace My
set_option autoImplicit false
open PySem PySem.W L2 Evl
/-! ### the order of derivatives -/
def Rk.lt (r : Rk) (u v : Dv) : Prop := r.key u < r.key v
instance (r : Rk) (u v : Dv) : Decidable (r.lt u v) := inferInstanceAs (Decidable (r.key u < r.key v))
def Rk.le (r : Rk) (u v : Dv) : Bool := !decide (r.lt v u)
theorem lt3 (a b c x y z : Int) : [a, b, c] < [x, y, z] ↔ a < x ∨ (a = x ∧ (b < y ∨ (b = y ∧ c < z))) := by
  simp [List.cons_lt_cons_iff]
theorem lex3 (a b c x y z : Int) : HT.lexLt [a, b, c] [x, y, z] = decide ([a, b, c] < [x, y, z]) := by
  rw [Bool.eq_iff_iff, decide_eq_true_iff, lt3]
  unfold HT.lexLt
  by_cases h : a = x
  · rw [if_pos h]
    unfold HT.lexLt
    by_cases h2 : b = y
    · rw [if_pos h2]
      unfold HT.lexLt
      by_cases h3 : c = z
      · rw [if_pos h3]
        unfold HT.lexLt
        simp
        omega
      · rw [if_neg h3]
        simp
        omega
    · rw [if_neg h2]
      simp
      omega
  · rw [if_neg h]
    simp
    omega
theorem Rk.key3 (r : Rk) (u : Dv) : ∃ a b c, r.key u = [a, b, c] := by
  unfold Rk.key
  cases r.tot
  · exact ⟨_, _, _, rfl⟩
  · exact ⟨_, _, _, rfl⟩
theorem Rk.lt_irrefl (r : Rk) (u : Dv) : ¬ r.lt u u := by
  unfold Rk.lt
  obtain ⟨a, b, c, e⟩ := r.key3 u
  rw [e, lt3]
  omega
theorem Rk.lt_trans (r : Rk) {u v w : Dv} (h : r.lt u v) (k : r.lt v w) : r.lt u w := by
  unfold Rk.lt at *
  obtain ⟨a, b, c, e⟩ := r.key3 u
  obtain ⟨a', b', c', e'⟩ := r.key3 v
  obtain ⟨a2, b2, c2, e2⟩ := r.key3 w
  rw [e, e', lt3] at h
  rw [e', e2, lt3] at k
  rw [e, e2, lt3]
  omega
theorem Rk.tri (r : Rk) (u v : Dv) : r.lt u v ∨ r.key u = r.key v ∨ r.lt v u := by
  unfold Rk.lt
  obtain ⟨a, b, c, e⟩ := r.key3 u
  obtain ⟨a', b', c', e'⟩ := r.key3 v
  rw [e, e', lt3, lt3]
  by_cases h : a = a'
  · by_cases h2 : b = b'
    · by_cases h3 : c = c'
      · exact .inr (.inl (by rw [h, h2, h3]))
      · omega
    · omega
  · omega
theorem idx_inj {ns : List Str} {x y : Str} (hx : x ∈ ns) (hy : y ∈ ns) (h : ns.idxOf x = ns.idxOf y) : x = y := by
  have h1 := List.getElem_idxOf (List.idxOf_lt_length_of_mem hx)
  have h2 := List.getElem_idxOf (List.idxOf_lt_length_of_mem hy)
  rw [← h1, ← h2]
  congr 1
theorem Rk.key_inj (r : Rk) {u v : Dv} (hu : u.n ∈ r.ns) (hv : v.n ∈ r.ns) (h : r.key u = r.key v) : u = v := by
  obtain ⟨n, i, j⟩ := u
  obtain ⟨n', i', j'⟩ := v
  have : (i + j = i' + j') ∧ r.first ⟨n, i, j⟩ = r.first ⟨n', i', j'⟩ ∧ r.ahead ⟨n, i, j⟩ = r.ahead ⟨n', i', j'⟩ := by
    unfold Rk.key at h
    cases ht : r.tot with
    | true =>
      rw [ht, if_pos rfl, if_pos rfl] at h
      simp at h
      exact h
    | false =>
      rw [ht, if_neg Bool.false_ne_true, if_neg Bool.false_ne_true] at h
      simp at h
      exact ⟨h.2.1, h.2.2, h.1⟩
  obtain ⟨h1, h2, h3⟩ := this
  have e : n = n' := idx_inj hu hv (by unfold Rk.ahead at h3; simp only at h3; omega)
  subst e
  unfold Rk.first at h2
  by_cases hx : r.ax = 2
  · rw [if_pos hx, if_pos hx] at h2
    simp only at h2
    have : i = i' := by omega
    rw [this, h2]
  · rw [if_neg hx, if_neg hx] at h2
    simp only at h2
    have : j = j' := by omega
    rw [this, h2]
theorem Rk.cmp_lt (r : Rk) (u v : Dv) : r.cmp u v = -1 ↔ r.lt u v := by
  unfold Rk.cmp cmpL Rk.lt
  obtain ⟨a, b, c, e⟩ := r.key3 u
  obtain ⟨a', b', c', e'⟩ := r.key3 v
  rw [e, e', lex3]
  by_cases h : [a, b, c] = [a', b', c']
  · rw [if_pos h, ← h, lt3]
    omega
  · rw [if_neg h]
    by_cases k : [a, b, c] < [a', b', c']
    · simp [k]
    · simp [k]
theorem Rk.cmp_eq (r : Rk) (u v : Dv) : r.cmp u v = 0 ↔ r.key u = r.key v := by
  unfold Rk.cmp cmpL
  by_cases h : r.key u = r.key v
  · simp [h]
  · rw [if_neg h]
    constructor
    · intro k
      split at k <;> omega
    · intro k
      exact absurd k h
theorem Rk.cmp_gt (r : Rk) (u v : Dv) : r.cmp u v = 1 ↔ r.lt v u := by
  have h := r.tri u v
  have h1 := r.cmp_lt u v
  have h2 := r.cmp_eq u v
  have h3 : r.cmp u v = -1 ∨ r.cmp u v = 0 ∨ r.cmp u v = 1 := by
    unfold Rk.cmp cmpL
    split
    · exact .inr (.inl rfl)
    · split
      · exact .inl rfl
      · exact .inr (.inr rfl)
  have n1 : r.lt u v → r.lt v u → False := fun a b => r.lt_irrefl u (r.lt_trans a b)
  have n2 : r.key u = r.key v → r.lt v u → False := fun a b => by
    unfold Rk.lt at b
    rw [a] at b
    exact r.lt_irrefl v b
  constructor
  · intro k
    rcases h with h | h | h
    · rw [h1.mpr h] at k
      omega
    · rw [h2.mpr h] at k
      omega
    · exact h
  · intro k
    rcases h3 with e | e | e
    · exact (n1 (h1.mp e) k).elim
    · exact (n2 (h2.mp e) k).elim
    · exact e
/-- from u on, once more by x, or by y -/
def Dv.up (u : Dv) (x : Str) : Dv := if x = "x" then ⟨u.n, u.i + 1, u.j⟩ else ⟨u.n, u.i, u.j + 1⟩
/-! ### sorted by it -/
def Rk.sort (r : Rk) (us : List Dv) : List Dv := us.mergeSort r.le
theorem Rk.le_tot (r : Rk) (u v : Dv) : (r.le u v || r.le v u) = true := by
  unfold Rk.le
  simp
  by_cases h : r.lt v u
  · right
    intro k
    exact r.lt_irrefl u (r.lt_trans k h)
  · exact .inl h
theorem Rk.le_tr (r : Rk) (u v w : Dv) (h : r.le u v = true) (k : r.le v w = true) : r.le u w = true := by
  unfold Rk.le at *
  simp at *
  intro z
  rcases r.tri u v with a | a | a
  · exact k (r.lt_trans z a)
  · apply k
    unfold Rk.lt at *
    rw [← a]
    exact z
  · exact h a
theorem Rk.sort_le (r : Rk) (us : List Dv) : (r.sort us).Pairwise (fun u v => r.le u v = true) := List.pairwise_mergeSort (r.le_tr) (r.le_tot) us
theorem Rk.sort_perm (r : Rk) (us : List Dv) : (r.sort us).Perm us := List.mergeSort_perm us r.le
/-- strictly rising -/
theorem Rk.sort_lt (r : Rk) {us : List Dv} (hu : ∀ u ∈ us, u.n ∈ r.ns) (nd : us.Nodup) : (r.sort us).Pairwise r.lt := by
  have nd2 : (r.sort us).Nodup := (r.sort_perm us).nodup_iff.mpr nd
  have m : ∀ u ∈ r.sort us, u.n ∈ r.ns := fun u h => hu u ((r.sort_perm us).mem_iff.mp h)
  have h := r.sort_le us
  rw [List.pairwise_iff_getElem] at *
  intro i j hi hj hij
  have a := h i j hi hj hij
  have b := List.pairwise_iff_getElem.mp nd2 i j hi hj hij
  unfold Rk.le at a
  simp at a
  rcases r.tri (r.sort us)[i] (r.sort us)[j] with z | z | z
  · exact z
  · exact (b (r.key_inj (m _ (List.getElem_mem hi)) (m _ (List.getElem_mem hj)) z)).elim
  · exact (a z).elim
/-! ### what sorted with keys makes of them -/
theorem zip_pairs {α β γ : Type} (f : β → γ) : ∀ {xs : List α} {us : List β}, xs.length = us.length → xs.zip (us.map f) = (xs.zip us).map fun p => (p.1, f p.2)
  | [], [], _ => rfl
  | _ :: _, _ :: _, h => congrArg (_ :: ·) (zip_pairs f (by simpa using h))
theorem AllP.zip {H : Hp} (f : Dv → Pr) : ∀ {xs : List V} {us : List Dv}, AllP (us.map f) xs H → ∀ p ∈ xs.zip us, (f p.2).P p.1 H
  | [], [], _, p, h => by simp at h
  | x :: xs, u :: us, a, p, h => by
    rcases List.mem_cons.mp h with rfl | h
    · exact a.1
    · exact AllP.zip f a.2 p h
theorem AllP.of {H : Hp} (f : Dv → Pr) : ∀ {ps : List (V × Dv)}, (∀ p ∈ ps, (f p.2).P p.1 H) → AllP ((ps.map (·.2)).map f) (ps.map (·.1)) H
  | [], _ => trivial
  | p :: ps, h => ⟨h p List.mem_cons_self, AllP.of f fun q hq => h q (List.mem_cons_of_mem _ hq)⟩
end My
namespace My
set_option autoImplicit false
open PySem PySem.W L2 Evl LamX
theorem AllP.ix {H : Hp} : ∀ {ps : List Pr} {vs : List V}, ps.length = vs.length → (∀ (i : Nat) (p : Pr) (v : V), ps[i]? = some p → vs[i]? = some v → p.P v H) → AllP ps vs H
  | [], [], _, _ => trivial
  | p :: ps, v :: vs, hl, h => ⟨h 0 p v rfl rfl, AllP.ix (by simpa using hl) fun i q u a b => h (i + 1) q u a b⟩
/-- tables of code: what of the heap they lean on -/
theorem exN_ex {B H H2 : Hp} (e : Ex B H) (n : NoTab B) (k : ExtN H H2) : Ex B H2 := fun b o h => k b o (e b o h) fun ps z => n b ps (by rw [← z]; exact h)
theorem exN_of {H H' : Hp} (e : Ex H H') : ExtN H H' := fun b o h _ => e b o h
theorem nt_upd {B : Hp} {a : Addr} {o : HO} (n : NoTab B) (ho : ∀ ps, o ≠ .tbl ps) : NoTab (upd B a o) := fun b ps q => by
  by_cases h : b = a
  · subst h
    rw [upd_same] at q
    exact ho ps (Option.some.inj q)
  · rw [upd_ne h] at q
    exact n b ps q
/-! ### a for over what is known -/
section
variable {te ta tb : TE} {t tr : TA} {tt : TT} {σ : L2.St} {B B' H : Hp} {p q : Pr} {ps : List Pr} {v : V} {K : PySem.W.Frag} {D : Ends}
theorem ps_forS {wi : TI} {n : Nat} {P : Nat → Pr} {g : TG} {tbd : TS} (a : Ex B H) (h : Src wi σ B n P)
    (k : ∀ B1 H1, Gr B H B1 H1 → ∃ Pv : Nat → L2.St → Hp → Prop, Pv 0 σ H1 ∧ (∀ i σ' H', i ≤ n → Pv i σ' H' → Ex B1 H') ∧
      (∀ i v σ' H', i < n → Pv i σ' H' → (P i).P v B1 → g v σ' H' fun σ2 H2 => tbd { D with nx := Pv (i + 1), ct := Pv (i + 1), bk := D.nx } σ2 H2) ∧ ∀ σ' H', Pv n σ' H' → D.nx σ' H') :
    tFor wi g tbd D σ H := h H a _ fun J B1 H1 G Y gr w hG hY => by
  obtain ⟨Pv, h0, hE, hs, hd⟩ := k B1 H1 gr
  refine for_it w Pv h0 (fun i σ' H' hi pv => hG H' (hE i σ' H' hi pv)) (fun i x σ' H' H2 hi pv y => ?_) hd
  obtain ⟨rfl, px⟩ := hY i H' x H2 hi (hE i σ' H' (Nat.le_of_lt hi) pv) y
  exact hs i x σ' H2 hi pv px
end
/-! ### dicts by derivatives -/
def addD (ds : List Dv) (u : Dv) : List Dv := if u ∈ ds then ds else ds ++ [u]
/-! ### all derivatives to an order -/
def Rk.most (r : Rk) (o i : Nat) : Nat := if (Str.ofString "y") ∈ r.axs then o - i else 0
def Rk.row (r : Rk) (o : Nat) (n : Str) (i : Nat) : List Dv := (List.range (r.most o i + 1)).map fun (j : Nat) => ⟨n, (i : Int), (j : Int)⟩
def Rk.rowsN (r : Rk) (o : Nat) (n : Str) (m : Nat) : List Dv := (List.range m).flatMap (r.row o n)
def Rk.all (r : Rk) (o : Nat) : List Dv := r.ns.flatMap fun n => r.rowsN o n (o + 1)
theorem Rk.mem_row {r : Rk} {o i : Nat} {n : Str} {u : Dv} (h : u ∈ r.row o n i) : u.n = n ∧ u.i = i ∧ 0 ≤ u.j ∧ u.j ≤ r.most o i := by
  unfold Rk.row at h
  obtain ⟨j, hj, rfl⟩ := List.mem_map.mp h
  have := List.mem_range.mp hj
  exact ⟨rfl, rfl, by simp, by simp; omega⟩
theorem Rk.mem_all {r : Rk} {o : Nat} {u : Dv} (h : u ∈ r.all o) : u.Of r := by
  unfold Rk.all Rk.rowsN at h
  obtain ⟨n, hn, h⟩ := List.mem_flatMap.mp h
  obtain ⟨i, hi, h⟩ := List.mem_flatMap.mp h
  obtain ⟨h1, h2, h3, h4⟩ := Rk.mem_row h
  refine ⟨by rw [h1]; exact hn, by rw [h2]; simp, h3, ?_⟩
  unfold Rk.most at h4
  by_cases hy : (Str.ofString "y") ∈ r.axs
  · exact .inr hy
  · rw [if_neg hy] at h4
    exact .inl (by simp at h4; omega)
theorem nd_flat {α β : Type} {f : α → List β} : ∀ {l : List α}, l.Nodup → (∀ a ∈ l, (f a).Nodup) → (∀ a ∈ l, ∀ b ∈ l, ∀ x, x ∈ f a → x ∈ f b → a = b) → (l.flatMap f).Nodup
  | [], _, _, _ => List.nodup_nil
  | a :: l, nd, h1, h2 => by
    rw [List.flatMap_cons, List.nodup_append]
    refine ⟨h1 a List.mem_cons_self, nd_flat (List.nodup_cons.mp nd).2 (fun b hb => h1 b (List.mem_cons_of_mem _ hb)) (fun b hb c hc => h2 b (List.mem_cons_of_mem _ hb) c (List.mem_cons_of_mem _ hc)), fun x hx y hy => ?_⟩
    rintro rfl
    obtain ⟨b, hb, hx2⟩ := List.mem_flatMap.mp hy
    have := h2 a List.mem_cons_self b (List.mem_cons_of_mem _ hb) x hx hx2
    subst this
    exact (List.nodup_cons.mp nd).1 hb
theorem Rk.all_nd {r : Rk} (o : Nat) (h : r.ns.Nodup) : (r.all o).Nodup := by
  unfold Rk.all
  refine nd_flat h (fun n _ => ?_) fun a _ b _ x hx hy => ?_
  · unfold Rk.rowsN
    refine nd_flat List.nodup_range (fun i _ => ?_) fun a _ b _ x hx hy => ?_
    · unfold Rk.row
      rw [List.nodup_iff_pairwise_ne, List.pairwise_map]
      refine List.Pairwise.imp ?_ (List.pairwise_lt_range)
      intro a b hab e
      simp at e
      omega
    · have := (Rk.mem_row hx).2.1
      have := (Rk.mem_row hy).2.1
      omega
  · unfold Rk.rowsN at hx hy
    obtain ⟨i, _, hx⟩ := List.mem_flatMap.mp hx
    obtain ⟨j, _, hy⟩ := List.mem_flatMap.mp hy
    rw [← (Rk.mem_row hx).1, (Rk.mem_row hy).1]
end My
namespace My
open PySem L2 Evl
end My
namespace My
set_option autoImplicit false
open PySem L2 Evl
end My
namespace My
set_option autoImplicit false
open PySem PySem.Spec PyProof.Rows L2
end My
namespace My
set_option autoImplicit false
open PySem PySem.W L2 Evl LamX
section
variable {te ta tb : TE} {t tr : TA} {tt : TT} {σ : L2.St} {B B' H : Hp} {p q : Pr} {ps : List Pr} {v : V} {K : PySem.W.Frag} {D : Ends}
theorem AllP.take {H : Hp} : ∀ {ps : List Pr} {vs : List V} (n : Nat), AllP ps vs H → AllP (ps.take n) (vs.take n) H
  | _, _, 0, _ => trivial
  | [], [], _ + 1, _ => trivial
  | _ :: _, _ :: _, n + 1, h => ⟨h.1, AllP.take n h.2⟩
end
theorem eqv_nil (ds : List PyData) : PyData.eqv (.list ds) (.list []) = ds.isEmpty := by
  cases ds <;> simp [PyData.eqv, PyData.eqvAll]
/-- which of a rising row is below the k-th -/
theorem Rk.below {r : Rk} {us : List Dv} (h : us.Pairwise r.lt) {i k : Nat} (hi : i < us.length) (hk : k < us.length) : decide (r.cmp us[i] us[k] < 0) = decide (i < k) := by
  rw [List.pairwise_iff_getElem] at h
  by_cases e : i < k
  · rw [decide_eq_true e, (r.cmp_lt _ _).mpr (h i k hi hk e)]
    rfl
  · rw [decide_eq_false e, decide_eq_false_iff_not]
    by_cases e2 : i = k
    · subst e2
      rw [(r.cmp_eq _ _).mpr rfl]
      decide
    · rw [(r.cmp_gt _ _).mpr (h k i hk hi (by omega))]
      decide
/-- an object at d, a dict, left out -/
theorem wo_at {d b : Addr} {H : Hp} {o : HO} {kvs : List (Key × V)} (hd : H d = some (.dK kvs)) (h : H b = some o) (n : ∀ kvs, o ≠ .dK kvs) : wo d H b = some o := by
  rw [wo_ne fun z => by
    subst z
    rw [hd] at h
    exact n kvs (Option.some.inj h).symm]
  exact h
/-- all but d and the tables of code -/
def ExtB (d : Addr) (H H' : Hp) : Prop := ∀ b o, b ≠ d → H b = some o → (∀ ps, o ≠ .tbl ps) → H' b = some o
theorem ExtB.of {d : Addr} {H H' : Hp} (h : ExtN H H') : ExtB d H H' := fun b o _ e n => h b o e n
theorem ExtB.trans {d : Addr} {H H1 H2 : Hp} (a : ExtB d H H1) (b : ExtB d H1 H2) : ExtB d H H2 := fun c o h e n => b c o h (a c o h e n) n
theorem ExtB.ex {d : Addr} {B H H' : Hp} (h : ExtB d H H') (e : Ex B H) (n : NoTab B) (hd : B d = none) : Ex B H' := fun b o k => h b o (ne_of_none k hd) (e b o k) fun ps z => n b ps (by rw [← z]; exact k)
theorem tabs_but {T : List (Addr × Str)} {d : Addr} {H H' : Hp} {kvs : List (Key × V)} (t : Tabs T H) (hd : H d = some (.dK kvs)) (s : ∀ b o, b ≠ d → H b = some o → H' b = some o) : Tabs T H' := by
  have e : ∀ b o, wo d H b = some o → H' b = some o := fun b o k => by
    obtain ⟨n, q⟩ := wo_some k
    exact s b o n q
  refine Tabs.ext (H := wo d H) (fun p hp => ?_) e
  obtain ⟨ps, h1, h2, h3⟩ := t p hp
  refine ⟨ps, (wo_at hd h1 (fun _ z => nomatch z)), h2, fun pos cv hc => ?_⟩
  obtain ⟨c, e1, e2⟩ := h3 pos cv hc
  exact ⟨c, e1, wo_at hd e2 fun kvs z => by unfold CodeO at z; cases z⟩
end My
namespace My
set_option autoImplicit false
open PySem PySem.W L2 Evl LamX
section
variable {te ta tb : TE} {t tr : TA} {tt : TT} {σ : L2.St} {B B' H : Hp} {p q : Pr} {ps : List Pr} {v : V} {K : PySem.W.Frag} {D : Ends}
/-- a pair unpacked -/
theorem ps_un2 {i j : Nat} (a : Ex B H) (h : EvP te σ B (TuP K [p, q])) (n : ∀ v w B1 H1, Gr B H B1 H1 → p.P v B1 → q.P w B1 → D.nx ((σ.set i (some v)).set j (some w)) H1) :
    tAsg te (gTup K 2 (gCons (gName i) (gCons (gName j) gNil))) D σ H := h H a _ fun v B1 H1 g x => by
  obtain ⟨l, xs, rfl, h2, h3⟩ := x
  match xs, h3 with
  | [v, w], h3 => exact ⟨_, _, rfl, ex_t g.c h2, rfl, _, _, rfl, _, _, rfl, rfl, n v w B1 H1 g h3.1 h3.2.1⟩
theorem ev_notR {a : Addr} {i : Nat} (h : σ[i]? = some (some (.ref a))) : Ev (tOp (fun x y H Q => y = V.non ∧ Q (.bl (!decide (x = V.non))) H) (tVar i) (tC .non)) σ B (.bl true) := fun H1 _ Q k =>
  ⟨.ref a, h, rfl, k H1 (Ex.refl H1)⟩
end
end My
namespace My
set_option autoImplicit false
open PySem PySem.W L2 Evl
/-! ### which one is above, told otherwise -/
/-! ### rising, one put in behind the other -/
/-- where a derivative is put -/
def Rk.spot (r : Rk) (us : List Dv) (a : Dv) : Nat := (us.filter fun b => decide (r.lt b a)).length
def Rk.put (r : Rk) (us : List Dv) (a : Dv) : List Dv := if a ∈ us then us else us.insertIdx (r.spot us a) a
theorem Rk.spot_le (r : Rk) (us : List Dv) (a : Dv) : r.spot us a ≤ us.length := List.length_filter_le _ _
theorem ins_eq {α : Type} (a : α) : ∀ (n : Nat) (l : List α), n ≤ l.length → l.insertIdx n a = l.take n ++ a :: l.drop n
  | 0, l, _ => by simp
  | n + 1, x :: l, h => by
    rw [List.insertIdx_succ_cons, ins_eq a n l (by simpa using h)]
    simp
theorem Rk.put_len (r : Rk) (us : List Dv) (a : Dv) : (r.put us a).length ≤ us.length + 1 := by
  unfold Rk.put
  split
  · omega
  · rw [ins_eq _ _ _ (r.spot_le us a), List.length_append, List.length_cons, List.length_take, List.length_drop]
    have := r.spot_le us a
    omega
/-- strictly rising rows of the same derivatives are the same -/
theorem Rk.rise_one (r : Rk) {us vs : List Dv} (h : us.Pairwise r.lt) (k : vs.Pairwise r.lt) (e : ∀ v, v ∈ us ↔ v ∈ vs) : us = vs := by
  have nd : ∀ {l : List Dv}, l.Pairwise r.lt → l.Nodup := fun {l} h => List.Pairwise.imp (fun {a b} z e => by
    subst e
    exact r.lt_irrefl _ z) h
  refine List.Perm.eq_of_pairwise (le := r.lt) (fun u v _ _ a b => (r.lt_irrefl u (r.lt_trans a b)).elim) h k ((List.perm_ext_iff_of_nodup (nd h) (nd k)).mpr e)
/-! ### all to an order, told otherwise -/
def Rk.line (r : Rk) (n : Str) (t : Nat) : List Dv := (List.range (if r.axs.length = 2 then t + 1 else 1)).map fun (j : Nat) => ⟨n, (t : Int) - j, (j : Int)⟩
theorem ax2 (r : Rk) : (r.axs.length = 2) ↔ (Str.ofString "y") ∈ r.axs := by
  have : ∀ a : Fin 3, ((axsOf a).length = 2) ↔ (Str.ofString "y") ∈ axsOf a := by decide +kernel
  exact this r.ax
/-- those of the order 0, rising -/
theorem Rk.zero (r : Rk) (hn : r.ns.Nodup) : r.sort (r.all 0) = r.ns.reverse.map fun n => ⟨n, 0, 0⟩ := by
  have e0 : r.all 0 = r.ns.map fun n => (⟨n, 0, 0⟩ : Dv) := by
    unfold Rk.all Rk.rowsN Rk.row Rk.most
    induction r.ns with
    | nil => rfl
    | cons n ns ih =>
      rw [List.flatMap_cons, ih, List.map_cons]
      split <;> simp [List.range_succ]
  refine r.rise_one (r.sort_lt (fun u hu => (Rk.mem_all hu).n) (r.all_nd 0 hn)) ?_ fun v => ?_
  · rw [List.pairwise_map, List.pairwise_reverse]
    rw [List.pairwise_iff_getElem]
    intro i j hi hj hij
    unfold Rk.lt Rk.key Rk.first Rk.ahead
    have ix : ∀ (k : Nat) (hk : k < r.ns.length), r.ns.idxOf r.ns[k] = k := fun k hk => by
      have h1 := List.idxOf_lt_length_of_mem (List.getElem_mem hk)
      have h2 := List.getElem_idxOf h1
      by_cases e : r.ns.idxOf r.ns[k] = k
      · exact e
      · exact ((List.nodup_iff_pairwise_ne.mp hn) |> fun hp => by
          rw [List.pairwise_iff_getElem] at hp
          rcases Nat.lt_or_gt_of_ne e with z | z
          · exact (hp _ _ h1 hk z h2).elim
          · exact (hp _ _ hk h1 z h2.symm).elim)
    have e1 := ix i hi
    have e2 := ix j hj
    simp only [e1, e2]
    cases r.tot
    · simp [lt3]
      omega
    · simp only [if_true, lt3]
      exact .inr ⟨trivial, .inr ⟨trivial, by omega⟩⟩
  · rw [(r.sort_perm _).mem_iff, e0]
    simp
end My
namespace Gd
set_option autoImplicit false
open PySem PySem.Spec PyProof.Rows L2 LamX My
/-- a def's promise, where no repr is under way -/
structure FnG (P : Program) (w : World) (K : PySem.W.Frag) (mg : Str → Option Value) (base : Heap) (k : Nat) (f : Addr) (fd : FuncData) (ps : List Str) (sp : Sp) : Prop where
  len : ∀ vs H Q E, sp vs H Q E → vs.length = ps.length
  run : ∀ (A : Around) (outer : List Env) (s : Shared) (H : Hp) (args : Args) (us : List Value) (vs : List V) (Q : VK) (E : XK), Room k A → A.guards = some [] → Env0 P w K mg base A outer s H → BindsTo s fd args (ps.zip us) → Vals vs us → sp vs H Q E →
    codeAny (model P w) A (.call (.ref f) args) (CR CX0 outer P w H s Q E) s
section
variable {P : Program} {w : World} {K : PySem.W.Frag} {mg : Str → Option Value} {base : Heap} {k : Nat} {f : Addr} {fd : FuncData} {ps : List Str} {sp : Sp}
theorem FnG.of (F : FnOk P w K mg base CX0 k f fd ps sp) : FnG P w K mg base k f fd ps sp := ⟨F.len, fun A outer s H args us vs Q E hr _ => F.run A outer s H args us vs Q E hr⟩
theorem fnG_of {name qual : Str} {params : Arguments} {body : List Stmt} {scope : Scope} {dV kV doc pm cdv ct oc : Value} {an od : Option Addr} {osl : Array (Option Value)} {N : List Str}
    (lk : K.lookup f = some ⟨oc, od, .func (PySem.W.fnOf name qual params body scope dV kV doc pm an cdv ct), osl⟩) (hcd : PySem.W.codeIn K cdv qual = true) (S : FnScope N ps scope) (len : ∀ vs H Q E, sp vs H Q E → vs.length = ps.length)
    (go : ∀ (A : Around) (outer : List Env) (s : Shared) (H : Hp) (vs : List V) (Q : VK) (E : XK), Room k (A.deeper (envOfC qual scope s.heap.objs.size f cdv)) → (A.deeper (envOfC qual scope s.heap.objs.size f cdv)).guards = some [] → sp vs H Q E →
      ∃ t, PSs (cxOf CX0 P w K mg base N qual scope f cdv A outer s H E) body t ∧ t { nx := fun _ H' => Q .non H', rt := Q } (start N vs) H) :
    FnG P w K mg base (k + 1) f (PySem.W.fnOf name qual params body scope dV kV doc pm an cdv ct) ps sp := by
  refine ⟨len, fun A outer s H args us vs Q E hr hg e0 hb r hsp => ?_⟩
  have old := fun (b : Addr) (o : Obj) (e : base.get? b = some o) => (e0.bs b o e).1
  have inK : K.In s.heap := e0.mod.kin.keeps old
  have local_ := fun (y : Str × Value) (hy : y ∈ ps.zip us) => (S.par y.1 (List.of_mem_zip hy).1).imp id fun q => (⟨q, PySem.W.cellsFrom_some _ _ _ (.inl q)⟩ : scope.names.lookup y.1 = some .cell ∧ ((cellsFrom (s.heap.objs.size + 1) scope.names []).lookup y.1).isSome = true)
  refine codeAny_call_function hr.depth (inK _ _ lk) rfl S.co S.gen rfl (PySem.W.codeRec_of inK hcd) (hb _ _ _ _ (wpAny_newFunctionEnv_cells S.kind local_ fun env he s1 x => ?_))
  subst he
  obtain ⟨t, ht, hq⟩ := go A outer s H vs Q E (hr.deeper _) hg hsp
  refine ⟨(e0.mod.nolimit.keeps old).keeps x.toInCall.keep, codeAny_func (wpAny_mono (ht.run [] s1 _ H _ (inv_start S hr.hd e0 (len _ _ _ _ hsp) r x) hq) (fun fl s' hs => ?_) fun e s' hs => hs)⟩
  cases fl with
  | ret u => exact let ⟨v, _, H', J, rv, q⟩ := hs; ⟨v, H', J.os, J.bare, J.base, J.hok, rv, q⟩
  | next => exact let ⟨_, H', J, q⟩ := hs; ⟨V.non, H', J.os, J.bare, J.base, J.hok, rfl, q⟩
  | brk => exact let ⟨_, _, _, q⟩ := hs; q.elim
  | cont => exact let ⟨_, _, _, q⟩ := hs; q.elim
/-- the rule for a def by its body -/
theorem okG {x qual : Str} {st : Stmt} {N : List Str} (F : Fun K x qual st f fd) (S : FnScope N ps (defScope st)) (len : ∀ vs H Q E, sp vs H Q E → vs.length = ps.length)
    (go : ∀ (cdv : Value) (A : Around) (outer : List Env) (s : Shared) (H : Hp) (vs : List V) (Q : VK) (E : XK), Room k (A.deeper (envOfC qual (defScope st) s.heap.objs.size f cdv)) → (A.deeper (envOfC qual (defScope st) s.heap.objs.size f cdv)).guards = some [] → sp vs H Q E →
      ∃ t, PSs (cxOf CX0 P w K mg base N qual (defScope st) f cdv A outer s H E).nox (defBody st) t ∧ t { nx := fun _ H' => Q .non H', rt := Q } (start N vs) H) : FnG P w K mg base (k + 1) f fd ps sp := by
  obtain ⟨oc, od, kV, doc, pm, an, cdv, ct, osl, rfl, lk, hcd⟩ := F.ex
  exact fnG_of lk hcd S len fun A outer s H vs Q E hr hg hsp => let ⟨t, h1, h2⟩ := go cdv A outer s H vs Q E hr hg hsp; ⟨t, h1.nox, h2⟩
/-- a def as it is called -/
structure CalG (P : Program) (w : World) (K : PySem.W.Frag) (mg : Str → Option Value) (base : Heap) (x : Str) (k : Nat) (ps : List Str) (sp : Sp) (f : Addr) (fd : FuncData) : Prop where
  G : FnG P w K mg base k f fd ps sp
  m : mg x = some (.ref f)
  k : PySem.W.keepIn K (.ref f) = true
  b : Binds K fd ps []
end
section
variable {X : Cx} {k : Nat} {f : Addr} {fd : FuncData} {ps : List Str} {sp : Sp} {dvs : List V} {ds : List Value} {E : XK} {x : Str} {p pos : Pos} {e : Expr} {es : List Expr} {t : TA}
theorem pe_callG (F : FnG X.prog X.w X.K X.mg X.base k f fd ps sp) (hr : Room k X.A) (hG : X.A.guards = some []) (hg : Gl X x) (hm : X.mg x = some (.ref f)) (hk : PySem.W.keepIn X.K (.ref f) = true) (hb : Binds X.K fd ps ds) (hd : Vals dvs ds) (hx : Passes CX0 X E) (ha : PA X (e :: es) t)
    (hdb : (x == ("__debug__" : Str)) = false := by decide) (he : starEach (e :: es) X.env = (false, eval e X.env) :: starEach es X.env := by rfl) (hpl : (backTo pos (starEach es X.env)).any (·.1) = false := by rfl) : PE X (.Call (.Name x p) (e :: es) [] pos) (tCall sp dvs E t) :=
  ⟨fun pins s σ H Q I h => wpAny_Call_Name_kw (ld_glob I hg hm (PySem.W.callWith_K (h₀ := X.base) I.ok.mod.kin hk (thn (ha.run pos pins s σ H _ I h) fun us s1 ⟨vs, H1, I1, r, q⟩ => ⟨I1.kIn, by
    have ra := r.append hd
    have hl : (us ++ ds).length = ps.length := ra.length.symm.trans (F.len _ _ _ _ q)
    refine wpAny_call (codeAny_mono (F.run X.A X.stack s1 H1 ⟨us, []⟩ (us ++ ds) (vs ++ dvs) Q E hr hG I1.env0 (hb s1 us I1.kIn hl) ra q) fun r s' hq => ?_)
    match r, hq with
    | .error e, hq => exact hx pins σ H1 s1 e s' I1 hq
    | .ok (.ret u), hq => exact I1.after hq⟩) he hpl) hdb)⟩
end
/-! ### repr of data -/
mutual
theorem dp_nd {K : PySem.W.Frag} {H : Hp} : ∀ {d : PyData} {v : V}, Dp K H v d → d.hasDict = false
  | _, _, .non => by simp only [PyData.hasDict]
  | _, _, .bl b => by simp only [PyData.hasDict]
  | _, _, .int i => by simp only [PyData.hasDict]
  | _, _, .str x => by simp only [PyData.hasDict]
  | _, _, .lst _ b => by simp only [PyData.hasDict]; exact dps_nd b
  | _, _, .tup _ b => by simp only [PyData.hasDict]; exact dps_nd b
theorem dps_nd {K : PySem.W.Frag} {H : Hp} : ∀ {ds : List PyData} {vs : List V}, DpAll K H vs ds → PyData.hasDictAll ds = false
  | _, _, .nil => by simp only [PyData.hasDictAll]
  | _, _, .cons a b => by simp only [PyData.hasDictAll, dp_nd a, dps_nd b, Bool.or_self]
end
end Gd
namespace Gd
set_option autoImplicit false
open PySem PySem.Spec PyProof.Rows L2 LamX My
/-- the abstract heap at the law's call: the script where it isn't written, the empty tables -/
def scrO (vs : List Value) : Obj := { cls := .type "list", data := .seq vs.toArray }
def tabO : Obj := { cls := .none, data := .fields #[] }
open Classical in
noncomputable def H0 (K : PySem.W.Frag) (a : Addr) (vs : List Value) (ns : List Int) (ts : List Addr) : Hp := fun b => if b ∈ ts then some (.tbl #[]) else if b = a ∧ K.lookup a = none then some (.frz (scrO vs) (.lst (ns.map V.int))) else none
theorem H0_t {K : PySem.W.Frag} {a : Addr} {vs : List Value} {ns : List Int} {ts : List Addr} {b : Addr} (h : b ∈ ts) : H0 K a vs ns ts b = some (.tbl #[]) := if_pos h
theorem H0_some {K : PySem.W.Frag} {a : Addr} {vs : List Value} {ns : List Int} {ts : List Addr} {b : Addr} {u : HO} (h : H0 K a vs ns ts b = some u) : (b ∈ ts ∧ u = .tbl #[]) ∨ (b = a ∧ K.lookup a = none ∧ u = .frz (scrO vs) (.lst (ns.map V.int))) := by
  unfold H0 at h
  split at h
  · rename_i q
    exact .inl ⟨q, (Option.some.inj h).symm⟩
  · split at h
    · rename_i q
      exact .inr ⟨q.1, q.2, (Option.some.inj h).symm⟩
    · cases h
section
variable {P : Program} {w : World} {K : PySem.W.Frag} {mg mb : Str → Option Value} {k : Nat} {fa a : Addr} {cs : List (Addr × Addr)} {fd : FuncData} {x : Str} {sp : Sp} {s1 : Shared} {vs : List Value} {ns : List Int}
theorem lawG (KX : K.In s1.heap) (hns : s1.heap.Ns mainGlobals mg) (hb : s1.heap.Ns builtinsNs mb) (hbb : ∀ x : Str, x ≠ "__name__" → mb x = bootBuiltins x) (hlim : s1.heap.NoLimit) (hgen : s1.gens = #[])
    (hT : ∀ p ∈ cs, s1.heap.get? p.2 = some tabO) (nT : ∀ p ∈ cs, K.lookup p.2 = none) (hC : ∀ p ∈ cs, PySem.W.CodeHd s1.heap p.1 p.2)
    (hbm : ∃ (bm : Addr) (ob : Obj), mg "__builtins__" = some (.ref bm) ∧ bm ≠ builtinsNs ∧ s1.heap.get? bm = some ob ∧ ob.cls = .type "module" ∧ ob.dict = some builtinsNs ∧ ob.data = .plain)
    (ha : s1.heap.get? a = some (scrO vs)) (hi : IntsAre vs ns) (hl : ns.length ≤ sizeLine) (hr : Room k callerA)
    (F : ∀ base : Heap, K.In base → base.Ns mainGlobals mg → (∀ p ∈ cs, TabB base mg p.1 p.2) → FnG P w K mg base k fa fd [x] sp) (hbind : ∀ (s : Shared) (u : Value), BindsTo s fd ⟨[u], []⟩ [(x, u)])
    (hsp : ∀ H : Hp, (∀ p ∈ cs, H p.2 = some (.tbl #[])) → SqL K H a (ns.map V.int) → sp [.ref a] H (fun v _ => v = .bl true) fun _ _ _ => False) :
    codeAny (model P w) callerA (.call (.ref fa) ⟨[.ref a], []⟩) (fun r s' => r = .ok (.ret (.bool true)) ∧ OldK s1.heap s'.heap ∧ s'.os = s1.os ∧ AllBare s'.gens) s1 := by
  let ts := cs.map (·.2)
  have tab : ∀ b ∈ ts, ∃ p ∈ cs, p.2 = b := fun b q => by
    obtain ⟨p, h1, h2⟩ := List.mem_map.mp q
    exact ⟨p, h1, h2⟩
  have inT : ∀ p ∈ cs, p.2 ∈ ts := fun p q => List.mem_map.mpr ⟨p, q, rfl⟩
  have tAt : ∀ b ∈ ts, s1.heap.get? b = some tabO := fun b q => by
    obtain ⟨p, h1, rfl⟩ := tab b q
    exact hT p h1
  have aT : a ∉ ts := fun q => by
    have := tAt a q
    rw [ha] at this
    exact nomatch congrArg Obj.data (Option.some.inj this)
  generalize hH : H0 K a vs ns ts = H
  have at1 : ∀ {b u}, H b = some u → (b ∈ ts ∧ u = .tbl #[]) ∨ (b = a ∧ K.lookup a = none ∧ u = .frz (scrO vs) (.lst (ns.map V.int))) := fun {b u} q => by
    rw [← hH] at q
    exact H0_some q
  have atT : ∀ p ∈ cs, H p.2 = some (.tbl #[]) := fun p q => by
    rw [← hH]
    exact H0_t (inT p q)
  -- what is neither a list of that kind nor a table is not tracked
  have free : ∀ {b : Addr} {o : Obj}, s1.heap.get? b = some o → (∀ us m, o.data ≠ .seq us m) → o.data ≠ .fields #[] → H b = none := fun {b o} e n1 n2 => by
    cases q : H b with
    | none => rfl
    | some u =>
      rcases at1 q with ⟨h1, _⟩ | ⟨h1, _⟩
      · have := tAt b h1
        rw [e] at this
        exact absurd (congrArg Obj.data (Option.some.inj this)) n2
      · rw [h1, ha] at e
        exact absurd (congrArg Obj.data (Option.some.inj e)).symm (n1 _ _)
  have ground : ∀ {b : Addr} {m : Str → Option Value}, s1.heap.Ns b m → (hidT s1.heap H).Ns b m := fun {b m} h => by
    obtain ⟨o, es, ep, e, d, r⟩ := h
    exact ⟨o, es, ep, hidT_get e (free e (fun us m z => by rw [d] at z; cases z) fun z => by rw [d] at z; cases z), d, r⟩
  have KB : K.In (hidT s1.heap H) := fun b o e => hidT_get (KX b o e) <| by
    cases q : H b with
    | none => rfl
    | some u =>
      rcases at1 q with ⟨h1, _⟩ | ⟨h1, h2, _⟩
      · obtain ⟨p, hp, rfl⟩ := tab b h1
        rw [nT p hp] at e
        cases e
      · rw [h1, h2] at e
        cases e
  have TB : ∀ p ∈ cs, TabB (hidT s1.heap H) mg p.1 p.2 := fun p hp => by
    have t1 := hT p hp
    have gne : mainGlobals ≠ p.2 := fun z => by
      obtain ⟨o, es, ep, e, hd, _⟩ := hns
      rw [z, t1] at e
      cases e
      cases hd
    refine ⟨?_, ?_, gne⟩
    · obtain ⟨o, us, fi, tf, fl, tg, inF, tx, tt, e1, r1, r2, r3, rest⟩ := hC p hp
      exact ⟨o, us, fi, tf, fl, tg, inF, tx, tt, hidT_get e1 (free e1 (fun us m z => by rw [r2] at z; cases z) fun z => by rw [r2] at z; cases z; simp at r3), r1, r2, r3, rest⟩
    · obtain ⟨bm, ob, b1, b2, b3, b4, b5, b6⟩ := hbm
      refine ⟨bm, ob, b1, b2, fun z => ?_, fun z => ?_, hidT_get b3 (free b3 (fun us m z => by rw [b6] at z; cases z) fun z => by rw [b6] at z; cases z), b4, b5, b6⟩
      · obtain ⟨o, es, ep, e, hd, _⟩ := hns
        rw [← z, b3] at e
        cases e
        rw [b6] at hd
        cases hd
      · rw [z, t1] at b3
        cases b3
        cases b6
  have rv := vals_ints hi
  have hvs := hi.length
  have sq : SqL K H a (ns.map V.int) := by
    cases q : K.lookup a with
    | none => exact .inl (.inr ⟨scrO vs, by rw [← hH]; exact (if_neg aT).trans (if_pos ⟨rfl, q⟩)⟩)
    | some o =>
      have e := KX a o q
      rw [ha] at e
      cases e
      exact .inr ⟨scrO vs, vs.toArray, _, q, rfl, rfl, rfl, by rw [List.size_toArray, hvs]; exact hl, by simpa using rv⟩
  have hok : HOk P w H s1.heap := fun b u q => by
    rcases at1 q with ⟨h1, rfl⟩ | ⟨rfl, _, rfl⟩
    · exact tAt b h1
    · exact ⟨ha, by rw [List.length_map]; exact hl, vs, _, rv, ha⟩
  have env : Env0 P w K mg (hidT s1.heap H) callerA [] s1 H := ⟨rfl, ⟨KB, ground hns, ⟨mb, ground hb, hbb⟩, (let ⟨mc, h1, h2⟩ := hlim; ⟨mc, ground h1, h2⟩)⟩, fun b o e => of_hidT e, Nat.le_of_eq (hidT_size _ _), trivial, fun b z => (nomatch z), hok, .of_eq hgen⟩
  refine codeAny_mono ((F _ KB (ground hns) TB).run callerA [] s1 H ⟨[.ref a], []⟩ [.ref a] [.ref a] _ _ hr rfl env (hbind s1 (.ref a)) (.cons rfl .nil) (hsp H atT sq)) fun r s' h => ?_
  match r, h with
  | .ok (.ret u), h =>
    obtain ⟨v, H', os, bare, un, hok', r', q⟩ := h
    obtain rfl : v = .bl true := q
    obtain rfl : u = Value.bool true := r'
    have more : ∀ b ∈ ts, ∃ m : Array Value, s'.heap.get? b = some { cls := .none, data := .fields m } := fun b hb => by
      obtain ⟨p, hp, rfl⟩ := tab b hb
      obtain ⟨m, z⟩ := un.tbls _ #[] (atT p hp)
      exact ⟨_, hok' _ _ z⟩
    have stay : ∀ b o, b ∉ ts → s1.heap.get? b = some o → s'.heap.get? b = some o := fun b o nb e => by
      cases q : H b with
      | none => exact un.keep b o e q (fun z => (nomatch z)) (fun z => (nomatch z))
      | some u =>
        rcases at1 q with ⟨h1, _⟩ | ⟨_, _, rfl⟩
        · exact absurd h1 nb
        · have e1 := (hok b _ q).1
          have e2 := (hok' b _ (un.frzs b _ _ q)).1
          rw [e1] at e
          cases e
          exact e2
    refine ⟨rfl, ⟨fun b o e => ?_, fun b o e => ?_⟩, os, bare⟩
    · by_cases hbt : b ∈ ts
      · obtain ⟨m, hm⟩ := more b hbt
        obtain ⟨p, hp, rfl⟩ := tab b hbt
        have t1 := hT p hp
        rw [t1] at e
        cases e
        exact .inr (.inl ⟨((hC p hp).tab t1).isCodeTable, rfl, #[], m, rfl, by rw [Array.empty_append]; exact hm⟩)
      · exact .inl (stay b o hbt e)
    · by_cases hbt : b ∈ ts
      · exact let ⟨m, hm⟩ := more b hbt; ⟨_, hm⟩
      · exact ⟨o, stay b o hbt e⟩
/-- what the end asks, at the head's heap -/
def LawAtG (l : PySem.W.OpenLaw) (w : World) (K : PySem.W.Frag) (k n : Nat) (x : Str) (mg : Str → Option Value) (fa : Addr) (h : Heap) : Prop :=
  ∃ (fd : FuncData) (cs : List (Addr × Addr)) (sp : Sp), (∀ p ∈ cs, h.get? p.2 = some tabO) ∧ (∀ p ∈ cs, K.lookup p.2 = none) ∧ (∀ p ∈ cs, PySem.W.CodeHd h p.1 p.2) ∧ (∀ (s : Shared) (u : Value), BindsTo s fd ⟨[u], []⟩ [(x, u)]) ∧
    (∀ (H : Hp) (a : Addr) (ns : List Int), ns.length ≤ n → (∀ z ∈ ns, Builtin.Int.intBits z ≤ 1048576) → (∀ p ∈ cs, H p.2 = some (.tbl #[])) → SqL K H a (ns.map V.int) → sp [.ref a] H (fun v _ => v = .bl true) fun _ _ _ => False) ∧
    ∀ base : Heap, K.In base → base.Ns mainGlobals mg → (∀ p ∈ cs, TabB base mg p.1 p.2) → FnG l.prog w K mg base k fa fd [x] sp
end
end Gd
namespace Gd
set_option autoImplicit false
open PySem PySem.Spec PyProof.Rows L2 LamX My Evl
/-! ### how long what repr tells is -/
theorem all_len {ds : List PyData} {m : Nat} (h : ∀ d ∈ ds, d.shown.length ≤ m) : ((PyData.shownAll ds).map (·.length)).sum ≤ ds.length * m ∧ (PyData.shownAll ds).length = ds.length := by
  induction ds with
  | nil => simp [PyData.shownAll]
  | cons d ds ih =>
    obtain ⟨h1, h2⟩ := ih fun e he => h e (List.mem_cons_of_mem _ he)
    simp only [PyData.shownAll, List.map_cons, List.sum_cons, List.length_cons, h2, Nat.add_mul]
    have := h d List.mem_cons_self
    refine ⟨by omega, trivial⟩
theorem shown_lst {ds : List PyData} {m : Nat} (h : ∀ d ∈ ds, d.shown.length ≤ m) : (PyData.list ds).shown.length ≤ ds.length * (m + 2) + 3 := by
  simp only [PyData.shown]
  have h1 := listText_len_le (PyData.shownAll ds)
  obtain ⟨h2, h3⟩ := all_len h
  rw [h3] at h1
  rw [Nat.mul_add]
  omega
theorem shown_tup {ds : List PyData} {m : Nat} (h : ∀ d ∈ ds, d.shown.length ≤ m) : (PyData.tuple ds).shown.length ≤ ds.length * (m + 2) + 3 := by
  simp only [PyData.shown]
  have h1 := tupleText_len_le (PyData.shownAll ds)
  obtain ⟨h2, h3⟩ := all_len h
  rw [h3] at h1
  rw [Nat.mul_add]
  omega
section
variable {te : TE} {σ : L2.St} {B : Hp} {K : PySem.W.Frag} {d : PyData}
end
end Gd
namespace Gd
set_option autoImplicit false
open PySem PySem.Spec PyProof.Rows L2 LamX My
section
variable {X : Cx} {k n : Nat} {f : Addr} {fd : FuncData} {ps ks : List Str} {sp : Sp} {E : XK} {x : Str} {p pos : Pos} {kws : List Keyword} {tk : TA} {g : List Value → List Value → List Value} {gV : List V → List V → List V}
end
section
variable {K : PySem.W.Frag} {x qual : Str} {st : Stmt} {f : Addr} {fd : FuncData} {ps ks : List Str} {n : Nat}
end
end Gd
namespace Gd
set_option autoImplicit false
open PySem PySem.Spec PyProof.Rows L2 My HT
section
variable {prog : Program} {w : World} {A : Around} {E : Value → Shared → Prop} {s : Shared}
theorem rev_adjust (n : Nat) : Builtin.Slice.sliceAdjust none none (-1) (n : Int) = ((n : Int) - 1, -1) := by
  unfold Builtin.Slice.sliceAdjust
  rfl
theorem rev_places (n : Nat) : Builtin.Slice.slicePlaces ((n : Int) - 1) (-1) (-1) = n := by
  unfold Builtin.Slice.slicePlaces
  rw [if_neg (show ¬ ((-1 : Int) > 0) by decide)]
  have : (n : Int) - 1 - -1 - 1 = (n : Int) - 1 := by omega
  rw [this, show (- -1 : Int) = 1 by decide, Int.ediv_one]
  split <;> omega
theorem fm_congr {α β : Type} {f g : α → Option β} : ∀ {l : List α}, (∀ x ∈ l, f x = g x) → l.filterMap f = l.filterMap g
  | [], _ => rfl
  | x :: l, h => by
    rw [List.filterMap_cons, List.filterMap_cons, h x List.mem_cons_self, fm_congr (l := l) fun y hy => h y (List.mem_cons_of_mem _ hy)]
theorem rev_pick (xs : Array Value) : ((List.range xs.size).filterMap fun (k : Nat) => xs[((xs.size : Int) - 1 + (k : Int) * -1).toNat]?).toArray = xs.toList.reverse.toArray := by
  congr 1
  have e : (List.range xs.size).filterMap (fun (k : Nat) => xs[((xs.size : Int) - 1 + (k : Int) * -1).toNat]?) = ((List.range xs.size).map fun k => xs.size - 1 - k).filterMap (xs[·]?) := by
    rw [List.filterMap_map]
    refine fm_congr fun k hk => ?_
    have := List.mem_range.mp hk
    show xs[_]? = xs[xs.size - 1 - k]?
    congr 1
    omega
  rw [e, PySem.W.krv_range, List.filterMap_reverse, PySem.W.krv_all]
theorem rev_applied {sl : Addr} {vl vu vs : Value} {n : Nat} {Q : Int × Int × Nat → Shared → Prop} (hs : s.heap.IsSliceOf sl vl vu vs) (pl : IsPart vl none) (pu : IsPart vu none) (ps : IsPart vs (some (-1)))
    (h : Q ((n : Int) - 1, -1, n) s) : wpAny (model prog w) A (Builtin.Slice.sliceApplied (.ref sl) (pure (n : Int))) Q E s := by
  obtain ⟨os, hos, hcs, hds⟩ := id hs
  unfold Builtin.Slice.sliceApplied Builtin.Slice.sliceFields
  refine wpAny_bind (wpAny_bind (wpAny_field hos hds (x := vl) rfl (wpAny_bind (wpAny_field hos hds (x := vu) rfl (wpAny_bind (wpAny_field hos hds (x := vs) rfl (wpAny_pure (wpAny_bind (slicePart_ ps ?_)))))))))
  have n0 : ¬ (((some (-1 : Int)).getD 1 == 0) = true) := by decide
  refine PySem.W.KFB.if_not (by decide) ?_
  refine wpAny_bind (slicePart_ pl (wpAny_bind (slicePart_ pu (wpAny_bind (wpAny_pure ?_)))))
  have e : (Builtin.Slice.sliceAdjust none none ((some (-1 : Int)).getD 1) (n : Int)) = ((n : Int) - 1, -1) := rev_adjust n
  rw [e]
  have p : Builtin.Slice.slicePlaces ((n : Int) - 1) (-1) ((some (-1 : Int)).getD 1) = n := rev_places n
  dsimp only
  rw [p]
  exact wpAny_pure h
theorem getItem_rev {t sl : Addr} {items : Array Value} {vl vu vs : Value} {Q : Value → Shared → Prop} (ht : IsTup s.heap t items) (hs : s.heap.IsSliceOf sl vl vu vs) (pl : IsPart vl none) (pu : IsPart vu none) (ps : IsPart vs (some (-1)))
    (h : Q (.ref s.heap.objs.size) { s with heap := s.heap.push { cls := .type "tuple", data := .seq items.toList.reverse.toArray } }) (hz : items.size ≤ sizeLine) : wpAny (model prog w) A (getItem (.ref t) (.ref sl)) Q E s := by
  have hok : sizeOk (.seq items.toList.reverse.toArray) := by
    show items.toList.reverse.toArray.size ≤ sizeLine
    simpa using hz
  have hcl : s.TypeIs (.ref sl) "slice" := let ⟨os, a, b, _⟩ := hs; ⟨os, a, b⟩
  unfold getItem
  try with_reducible refine wpAny_holding ?_
  first | refine wpAny_bind (wpAny_pure ?_) | skip
  refine wpAny_bind (wpAny_sequenceKey ht.typeIs (by decide) (wpAny_bind (wpAny_callSpecial?_slot (name := Str.ofString "__getitem__") ht.typeIs PyProof.Rows.slot_tuple_getitem (wpAny_call_entry PyProof.Rows.slot_tuple_getitem ht.typeIs entry_tuple_getitem ?_ (args_tuple_getitem _ _)))))
  show wpAny _ _ (Builtin.Tuple.tupleItemsOf (.ref t) >>= _) _ _ s
  refine wpAny_bind (tupleItemsOf_ ht (wpAny_bind (wpAny_typeOf hcl ?_)))
  rw [if_pos (by decide)]
  refine wpAny_bind (rev_applied hs pl pu ps ?_)
  dsimp only
  refine PySem.W.KFB.if_not (by simp) ?_
  rw [rev_pick]
  first
    | exact wpAny_bind (m := Builtin.Tuple.tupleExact _) (wpAny_newObj_type (wpAny_pure ⟨_, rfl, wpAny_pure h⟩) hok)
    | exact wpAny_bind (wpAny_bind (m := Builtin.Tuple.tupleExact _) (wpAny_newObj_type (wpAny_pure (wpAny_pure ⟨_, rfl, wpAny_pure h⟩)) hok))
    | exact wpAny_bind (wpAny_bind (m := Builtin.Tuple.tupleExact _) (wpAny_newObj_type (wpAny_pure ⟨_, rfl, wpAny_pure h⟩) hok))
end
/-! ### t[::-1] of a tuple -/
def tRevT (K : PySem.W.Frag) (te : TE) : TE := fun σ H Q => te σ H fun x H1 => ∃ a xs, x = .ref a ∧ SqT K H1 a xs ∧ ∀ p, H1 p = none → Q (.ref p) (upd H1 p (.tup xs.reverse))
theorem pe_revT {X : Cx} {e : Expr} {te : TE} {k : Nat} {p1 p2 p3 pos : Pos} (he : PE X e te) : PE X (.Subscript e (.Slice none none (some (.UnaryOp .USub (.Constant (.int 1) k p1) p2)) p3) pos) (tRevT X.K te) := by
  refine ⟨fun pins s σ H Q I h => Subscript_ (thn (he.run pins s σ H _ I h) fun v s1 ⟨x, H1, I1, r1, a, xs, ex, hx, q⟩ => ?_)⟩
  subst ex
  cases r1
  have st : PO X (some (.UnaryOp .USub (.Constant (.int 1) k p1) p2)) (tPart (tUn (rU fun i => .int (-i)) (tC (.int 1)))) := po_some (pe_un un_neg pe_int)
  refine wpAny_Slice (thn (po_none.run pins s1 σ H1 (fun o H2 => o = none ∧ H2 = H1) I1 ⟨rfl, rfl⟩) fun vl s2 ⟨l, H2, I2, pl, el, e2⟩ => ?_)
  subst el e2
  refine thn (po_none.run pins s2 σ H2 (fun o H3 => o = none ∧ H3 = H2) I2 ⟨rfl, rfl⟩) fun vu s3 ⟨u, H3, I3, pu, eu, e3⟩ => thn (st.run pins s3 σ H3 (fun o H4 => o = some (-1) ∧ H4 = H3) I3 ⟨1, rfl, -1, rfl, rfl, rfl⟩) fun vs s4 ⟨o, H4, I4, ps, eo, e4⟩ => ?_
  subst eu e3 eo e4
  have I5 : Inv X pins σ H4 { s4 with heap := s4.heap.push { cls := .type "slice", data := .fields #[vl, vu, vs] } } := I4.kept (t' := s4.toks) fun b ob q => Heap.get?_push_of_some _ q
  obtain ⟨its, r, ht, hz⟩ := I5.tuple hx
  have hlen := r.length
  show wpAny (model X.prog X.w) X.A (subscriptTail e (.Slice none none (some (.UnaryOp .USub (.Constant (.int 1) k p1) p2)) p3) (.ref a) (.ref s4.heap.objs.size)) (EP X pins σ Q) X.xe { s4 with heap := s4.heap.push { cls := .type "slice", data := .fields #[vl, vu, vs] } }
  refine tail_any (ops := [.ref a, .ref s4.heap.objs.size]) ht.typeIs (PyProof.Rows.slot_tuple_getitem.lookup) ?_ (by with_unfolding_all rfl)
  refine getItem_rev ht (Heap.IsSliceOf.new _ vl vu vs) pl pu ps ⟨.ref _, _, I5.laid (t' := s4.toks) (o := .tup xs.reverse) (fun b ob q => Heap.get?_push_of_some _ q) (Nat.le_refl _) ?_, rfl, q _ (I5.hok.fresh (Nat.le_refl _))⟩ (by rw [List.size_toArray]; omega)
  exact ⟨by rw [List.length_reverse]; exact hz, _, r.reverse, IsTup.new _ _⟩
end Gd
namespace Nd
set_option autoImplicit false
open PySem PySem.Spec PyProof.Rows L2 My
/-! ### data as keys -/
mutual
def nk : PyData → NestedKey
  | .none => .none
  | .bool b => .num (if b = true then 1 else 0)
  | .int i => .num i
  | .str x => .text x
  | .tuple ds => .tup (nkAll ds)
  | .list _ => .none
  | .dict _ => .none
def nkAll : List PyData → List NestedKey
  | [] => []
  | d :: ds => nk d :: nkAll ds
end
mutual
def keyish : PyData → Bool
  | .none => true
  | .bool _ => true
  | .int _ => true
  | .str _ => true
  | .tuple ds => keyishAll ds
  | .list _ => false
  | .dict _ => false
def keyishAll : List PyData → Bool
  | [] => true
  | d :: ds => keyish d && keyishAll ds
end
section
variable {X : Cx} {pins : List (Addr × Obj)} {σ : L2.St} {H : Hp} {s : Shared}
mutual
theorem dp_nk (I : Inv X pins σ H s) : ∀ {d : PyData} {v : V} {u : Value}, Dp X.K H v d → keyish d = true → RelV v u → NestedIs s.heap (nk d) u
  | _, _, u, .non, _, r => by
    obtain rfl : u = Value.none := r
    simp only [nk]
    exact .none
  | _, _, u, .bl b, _, r => by
    obtain rfl : u = Value.bool b := r
    simp only [nk]
    exact .bool rfl
  | _, _, u, .int i, _, r => by
    obtain ⟨t, rfl⟩ := r
    simp only [nk]
    exact .int i t
  | _, _, u, .str x, _, r => by
    obtain ⟨t, rfl⟩ := r
    simp only [nk]
    exact .text x t
  | _, _, u, .lst _ _, h, _ => by simp [keyish] at h
  | _, _, u, .tup (a := a) x y, h, r => by
    obtain rfl : u = Value.ref a := r
    obtain ⟨its, rv, ⟨o, h1, h2, n, h3⟩, _⟩ := I.tuple x
    simp only [nk]
    simp only [keyish] at h
    exact .tup h1 h2 h3 (by simpa using dps_nk I y h rv)
theorem dps_nk (I : Inv X pins σ H s) : ∀ {ds : List PyData} {vs : List V} {us : List Value}, DpAll X.K H vs ds → keyishAll ds = true → Vals vs us → NestedAll s.heap (nkAll ds) us
  | _, _, [], .nil, _, .nil => by
    simp only [nkAll]
    exact .nil
  | _, _, _ :: _, .cons a b, h, .cons r1 r2 => by
    simp only [keyishAll, Bool.and_eq_true] at h
    simp only [nkAll]
    exact .cons (dp_nk I a h.1 r1) (dps_nk I b h.2 r2)
end
end
/-! ### a dict by such keys -/
abbrev NV := NestedKey × Addr × V
def lay : List NV → List Value → List (NestedKey × Addr × Value)
  | [], _ => []
  | _ :: _, [] => []
  | x :: xs, u :: us => (x.1, x.2.1, u) :: lay xs us
theorem lay_keys : ∀ {xs : List NV} {us : List Value}, xs.length = us.length → (lay xs us).map (·.1) = xs.map (·.1)
  | [], [], _ => rfl
  | _ :: _, _ :: _, h => congrArg (_ :: ·) (lay_keys (by simpa using h))
theorem lay_len : ∀ {xs : List NV} {us : List Value}, xs.length = us.length → (lay xs us).length = xs.length
  | [], [], _ => rfl
  | _ :: _, _ :: _, h => congrArg Nat.succ (lay_len (by simpa using h))
theorem lay_mem : ∀ {xs : List NV} {us : List Value} {y : NestedKey × Addr × Value}, y ∈ lay xs us → ∃ x ∈ xs, x.1 = y.1 ∧ x.2.1 = y.2.1
  | [], us, y, h => by simp [lay] at h
  | x :: xs, [], y, h => by simp [lay] at h
  | x :: xs, u :: us, y, h => by
    rcases List.mem_cons.mp h with rfl | h
    · exact ⟨x, List.mem_cons_self, rfl, rfl⟩
    · obtain ⟨z, hz, e⟩ := lay_mem h
      exact ⟨z, List.mem_cons_of_mem _ hz, e⟩
theorem vlen {xs : List NV} {us : List Value} (r : Vals (xs.map (·.2.2)) us) : xs.length = us.length := by
  have := r.length
  rw [List.length_map] at this
  exact this
/-- what stands at a key -/
def look (xs : List NV) (k : NestedKey) : Option V := (xs.find? fun x => decide (x.1 = k)).map (·.2.2)
def hasN (xs : List NV) (k : NestedKey) : Bool := xs.any fun x => decide (x.1 = k)
def putN (xs : List NV) (k : NestedKey) (a : Addr) (v : V) : List NV := if hasN xs k then xs.map fun x => if x.1 = k then (x.1, x.2.1, v) else x else xs ++ [(k, a, v)]
theorem at_lay {k : NestedKey} : ∀ {xs : List NV} {us : List Value}, Vals (xs.map (·.2.2)) us → (atKey (lay xs us) k).isSome = hasN xs k ∧ (∀ v, look xs k = some v → ∃ b u, atKey (lay xs us) k = some (b, u) ∧ RelV v u) ∧ (look xs k = none → atKey (lay xs us) k = none)
  | [], [], _ => ⟨rfl, fun v h => by simp [look] at h, fun _ => rfl⟩
  | x :: xs, u :: us, r => by
    cases r with
    | cons r1 r2 =>
      obtain ⟨h1, h2, h3⟩ := at_lay (k := k) (xs := xs) (us := us) r2
      unfold atKey hasN look at *
      simp only [lay, List.find?_cons, List.any_cons]
      by_cases e : x.1 = k
      · simp only [e, decide_true, Bool.true_or]
        refine ⟨rfl, fun v hv => ?_, fun h => by simp at h⟩
        simp only [Option.map_some, Option.some.injEq] at hv
        subst hv
        exact ⟨_, _, rfl, r1⟩
      · simp only [e, decide_false, Bool.false_or]
        exact ⟨h1, h2, h3⟩
theorem lay_app {xs ys : List NV} : ∀ {us ws : List Value}, xs.length = us.length → lay (xs ++ ys) (us ++ ws) = lay xs us ++ lay ys ws := by
  induction xs with
  | nil =>
    intro us ws h
    match us, h with
    | [], _ => rfl
  | cons x xs ih =>
    intro us ws h
    match us, h with
    | u :: us, h => exact congrArg (_ :: ·) (ih (by simpa using h))
theorem lay_put {k : NestedKey} {v : V} {u : Value} (rv : RelV v u) : ∀ {xs : List NV} {us : List Value}, Vals (xs.map (·.2.2)) us → ∃ ws, Vals ((xs.map fun x => if x.1 = k then (x.1, x.2.1, v) else x).map (·.2.2)) ws ∧ (lay xs us).map (putAt k u) = lay (xs.map fun x => if x.1 = k then (x.1, x.2.1, v) else x) ws
  | [], [], _ => ⟨[], .nil, rfl⟩
  | x :: xs, w :: us, r => by
    cases r with
    | cons r1 r2 =>
      obtain ⟨ws, h1, h2⟩ := lay_put (k := k) rv (xs := xs) (us := us) r2
      by_cases e : x.1 = k
      · refine ⟨u :: ws, ?_, ?_⟩
        · simp only [List.map_cons, if_pos e]
          exact .cons rv h1
        · simp only [lay, List.map_cons, if_pos e, putAt, h2]
      · refine ⟨w :: ws, ?_, ?_⟩
        · simp only [List.map_cons, if_neg e]
          exact .cons r1 h1
        · simp only [lay, List.map_cons, if_neg e, putAt, h2]
def DNf (P : Program) (w : World) (d : Addr) (xs : List NV) : Heap → Prop := fun h => (d == sysModules) = false ∧ xs.length ≤ sizeLine ∧ ∃ (us : List Value) (o : Obj) (es : Array DictEntry) (ep : Nat), Vals (xs.map (·.2.2)) us ∧ h.get? d = some o ∧ o.ExactDict ∧ o.data = .dict es ep ∧ es.toList = (lay xs us).map (entryOfKey (nestedKind P w)) ∧ (xs.map (·.1)).Nodup
/-- a dict by nested keys, in the order of insertion -/
def DN (P : Program) (w : World) (d : Addr) (xs : List NV) : HO := .ext (DNf P w d xs)
theorem dn_ok {P : Program} {w : World} {H : Hp} {h : Heap} {d : Addr} {xs : List NV} (R : DNf P w d xs h) : ObjOk P w H h d (DN P w d xs) :=
  ⟨R, (let ⟨_, _, _, o, _, _, _, e, _⟩ := R; ⟨o, e⟩), fun h1 h2 ⟨z1, z2, us, o, es, ep, a, b, c⟩ k => ⟨z1, z2, us, o, es, ep, a, k o b, c⟩⟩
/-- the object at a is such a key -/
def KeyAt (K : PySem.W.Frag) (H : Hp) (a : Addr) (k : NestedKey) : Prop := ∃ d, Dp K H (.ref a) d ∧ keyish d = true ∧ nk d = k ∧ k.depth ≤ 8
def KeysOk (K : PySem.W.Frag) (H : Hp) (xs : List NV) : Prop := ∀ x ∈ xs, KeyAt K H x.2.1 x.1
theorem KeyAt.ex {K : PySem.W.Frag} {H H' : Hp} {a : Addr} {k : NestedKey} (h : KeyAt K H a k) (e : Evl.Ex H H') : KeyAt K H' a k := let ⟨d, x, y⟩ := h; ⟨d, dp_m e x, y⟩
theorem KeysOk.ex {K : PySem.W.Frag} {H H' : Hp} {xs : List NV} (h : KeysOk K H xs) (e : Evl.Ex H H') : KeysOk K H' xs := fun x hx => (h x hx).ex e
section
variable {X : Cx} {pins : List (Addr × Obj)} {σ : L2.St} {H : Hp} {s : Shared} {d a : Addr} {xs : List NV} {k : NestedKey}
theorem key_is (I : Inv X pins σ H s) (h : KeyAt X.K H a k) : (nestedKind X.prog X.w).is s.heap k a := by
  obtain ⟨e, h1, h2, rfl, h4⟩ := h
  exact ⟨dp_nk I h1 h2 rfl, h4⟩
theorem dn_of (I : Inv X pins σ H s) (h : H d = some (DN X.prog X.w d xs)) (hk : KeysOk X.K H xs) : (d == sysModules) = false ∧ xs.length ≤ sizeLine ∧ ∃ us, Vals (xs.map (·.2.2)) us ∧ s.heap.DictOfH (nestedKind X.prog X.w) d (lay xs us) := by
  obtain ⟨z1, z2, us, o, es, ep, r, h1, h2, h3, h4, h5⟩ := (I.hok d _ h).1
  refine ⟨z1, z2, us, r, o, es, ep, h1, h2, h3, h4, fun y hy => ?_, by rw [lay_keys (vlen r)]; exact h5⟩
  obtain ⟨x, hx, e1, e2⟩ := lay_mem hy
  have := key_is I (hk x hx)
  rw [e1, e2] at this
  exact this
theorem dn_to {P : Program} {w : World} {h : Heap} {us : List Value} (z1 : (d == sysModules) = false) (z2 : xs.length ≤ sizeLine) (r : Vals (xs.map (·.2.2)) us) (m : h.DictOfH (nestedKind P w) d (lay xs us)) : DNf P w d xs h := by
  obtain ⟨o, es, ep, h1, h2, h3, h4, _, h5⟩ := m
  exact ⟨z1, z2, us, o, es, ep, r, h1, h2, h3, h4, by rw [← lay_keys (vlen r)]; exact h5⟩
/-- {} -/
def tDNewN (P : Program) (w : World) : TE := fun _ H Q => ∀ p, H p = none → Q (.ref p) (upd H p (DN P w p []))
theorem pe_dnewN {pos : Pos} : PE X (.Dict [] [] pos) (tDNewN X.prog X.w) := ⟨fun pins s σ H Q I h =>
  wpAny_Dict_empty ⟨.ref s.heap.objs.size, _, I.laid (a := s.heap.objs.size) (o := DN X.prog X.w s.heap.objs.size []) (t' := s.toks) (fun _ _ q => Heap.get?_push_of_some _ q) (Nat.le_refl _)
    (dn_ok (dn_to (us := []) (beq_eq_false_iff_ne.mpr (Nat.ne_of_gt I.big)) (by decide) .nil (Heap.DictOfH.new s.heap))), rfl, h _ (I.hok.fresh (Nat.le_refl _))⟩⟩
end
end Nd
namespace Nd
set_option autoImplicit false
open PySem PySem.Spec PyProof.Rows L2 My Evl
section
variable {X : Cx}
/-- < and <= of data that are alike -/
def rLtD (K : PySem.W.Frag) : R2 := fun x y H Q => ∃ d e, Dp K H x d ∧ Dp K H y e ∧ PySem.W.alike d e = true ∧ d ≠ .none ∧ min d.depth e.depth ≤ 50 ∧ Q (.bl (PySem.W.dataLt d e)) H
def rLeD (K : PySem.W.Frag) : R2 := fun x y H Q => ∃ d e, Dp K H x d ∧ Dp K H y e ∧ PySem.W.alike d e = true ∧ d ≠ .none ∧ min d.depth e.depth ≤ 50 ∧ Q (.bl (!PySem.W.dataLt e d)) H
theorem op_ltD (hu : X.A.units + 65 < cLine) : OpR X (compareOp .Lt) (rLtD X.K) := by
  intro pins s σ H x y v u Q I rx ry ⟨d, e, hd, he, al, hn, hm, q⟩
  obtain ⟨as, r1⟩ := Dp.reads I d x v hd rx
  obtain ⟨bs, r2⟩ := Dp.reads I e y u he ry
  exact PySem.W.lt_data r1 r2 al hn (by omega) ⟨.bl _, H, I, rfl, q⟩
theorem op_leD (hu : X.A.units + 65 < cLine) : OpR X (compareOp .LtE) (rLeD X.K) := by
  intro pins s σ H x y v u Q I rx ry ⟨d, e, hd, he, al, hn, hm, q⟩
  obtain ⟨as, r1⟩ := Dp.reads I d x v hd rx
  obtain ⟨bs, r2⟩ := Dp.reads I e y u he ry
  exact PySem.W.le_data r1 r2 al hn (by omega) ⟨.bl _, H, I, rfl, q⟩
end
section
variable {te ta tb : TE} {σ : L2.St} {B : Hp} {K : PySem.W.Frag} {d e : PyData}
theorem ev_ltD (ha : EvP ta σ B (IsD K d)) (hb : EvP tb σ B (IsD K e)) (al : PySem.W.alike d e = true) (hn : d ≠ .none) (hm : min d.depth e.depth ≤ 50) : Ev (tOp (rLtD K) ta tb) σ B (.bl (PySem.W.dataLt d e)) := fun H1 a Q k =>
  ha H1 a _ fun v B2 H2 g b => hb H2 (g.b.trans g.c) _ fun w B3 H3 g3 b3 => ⟨d, e, dp_m (g.c.trans g3.a) b, dp_m g3.c b3, al, hn, hm, k H3 (g.a.trans g3.a)⟩
theorem ev_leD (ha : EvP ta σ B (IsD K d)) (hb : EvP tb σ B (IsD K e)) (al : PySem.W.alike d e = true) (hn : d ≠ .none) (hm : min d.depth e.depth ≤ 50) : Ev (tOp (rLeD K) ta tb) σ B (.bl (!PySem.W.dataLt e d)) := fun H1 a Q k =>
  ha H1 a _ fun v B2 H2 g b => hb H2 (g.b.trans g.c) _ fun w B3 H3 g3 b3 => ⟨d, e, dp_m (g.c.trans g3.a) b, dp_m g3.c b3, al, hn, hm, k H3 (g.a.trans g3.a)⟩
end
end Nd
namespace Nd
set_option autoImplicit false
open PySem PySem.Spec PyProof.Rows L2 My Evl
/-! ### enumerate of a tuple -/
/-- an enumerate object over the iterator n, nothing drawn yet -/
abbrev enO (n : Addr) : Obj := { cls := .type "enumerate", data := .fields #[.none, .bool false, .ref n, rawInt 0, .none, .none] }
set_option maxHeartbeats 1000000 in
theorem en_new {v : Value} {o : Obj} {G : Heap → Prop} (B : Begins v o G) :
    Meets (Builtin.«enumerate.__new__» ⟨[.type "enumerate", v], []⟩) (fun _ R s => G s.heap ∧ R (.ok (.ret (.ref (s.heap.push o).objs.size))) { s with heap := (s.heap.push o).push (enO s.heap.objs.size) }) := .of_wp fun prog w A R s h => by
  obtain ⟨hp, gg, dd, tt, oo⟩ := s
  obtain ⟨h1, h2⟩ := h
  have sb := sub_enumerate
  have q1 : ∀ {A' : Around} {E Q : Value → Shared → Prop}, Q (.ref hp.objs.size) ⟨hp.push o, gg, dd, tt, oo⟩ → wpAny (model prog w) A' (pyIter v) Q E ⟨hp, gg, dd, tt, oo⟩ := fun q => B.iter prog w _ _ ⟨hp, gg, dd, tt, oo⟩ _ h1 q
  wp_walk using q1
  refine wpAny_stack_any fun st => wpAny_pure ?_
  split
  · rename_i c _ _ _ _ _
    cases (c == Value.type "enumerate") <;> (wp_walk using q1; exact ⟨_, rfl, h2⟩)
  · wp_walk using q1
    exact ⟨_, rfl, h2⟩
theorem en_call {P : Program} {w : World} {A : Around} {E : Value → Shared → Prop} {s : Shared} {v : Value} {o : Obj} {G : Heap → Prop} {Q : Value → Shared → Prop} (B : Begins v o G) (h1 : G s.heap)
    (h : ∀ h', IsEnum h' (s.heap.objs.size + 1) s.heap.objs.size 0 .none → h'.get? s.heap.objs.size = some o → (∀ b o, s.heap.get? b = some o → h'.get? b = some o) → Q (.ref (s.heap.objs.size + 1)) { s with heap := h' }) :
    wpAny (model P w) A (call (.type "enumerate") [v]) Q E s := by
  refine callType_new F.called_enumerate (by decide) (F.typeCall_enumerate_1 _) (F.newCall_enumerate_1 _) (fun x => F.args_object_init_2 x _) F.entry_enumerate_new (en_new B) ⟨h1, ?_⟩
  have z : (s.heap.push o).objs.size = s.heap.objs.size + 1 := Heap.size_push ..
  show _ ∧ _
  rw [z]
  have e : IsEnum ((s.heap.push o).push (enO s.heap.objs.size)) (s.heap.objs.size + 1) s.heap.objs.size 0 .none := by
    have := Heap.get?_push_size (s.heap.push o) (o := enO s.heap.objs.size) rfl
    rw [z] at this
    exact this
  exact ⟨⟨_, e, rfl⟩, h _ e (Heap.get?_push_of_some _ (Heap.get?_push_size _ B.free)) fun b o x => Heap.get?_push_of_some _ (Heap.get?_push_of_some _ x)⟩
/-- the tuple at a, each item in a new pair -/
def IteT (K : PySem.W.Frag) (a : Addr) : It :=
  ⟨fun i H => ∃ (xs : List V) (x : V), SqT K H a xs ∧ xs[i]? = some x,
   fun i H v H' => ∃ T x, v = .ref T ∧ H T = none ∧ H' = upd H T (.tup [.int (i : Nat), x]) ∧ ∀ xs, SqT K H a xs → xs[i]? = some x,
   fun i H => ∃ xs : List V, SqT K H a xs ∧ xs.length = i⟩
theorem tup_ne_it {h : Heap} {a it : Addr} {its : Array Value} {i : Nat} (p : h.IsTuple a its) (k : h.IsTupleIter it a i) : a ≠ it := by
  rintro rfl
  obtain ⟨o, h1, h2, _⟩ := p
  obtain ⟨o', k1, k2, _⟩ := k
  rw [h1] at k1
  cases k1
  rw [h2] at k2
  exact absurd k2 (by decide)
theorem tup_ne_en {h : Heap} {a e it : Addr} {its : Array Value} {i : Int} {old : Value} (p : h.IsTuple a its) (k : IsEnum h e it i old) : e ≠ a := by
  rintro rfl
  obtain ⟨o, h1, h2, _⟩ := p
  have k : h.get? e = some _ := k
  rw [h1] at k
  cases k
  have h2 : Value.type "enumerate" = Value.type "tuple" := h2
  injection h2 with z
  exact absurd z (by decide)
theorem turn_enT {P : Program} {w : World} {K : PySem.W.Frag} {elts : List Expr} {kk : Nat} {tpos : Pos} (a e it : Addr) :
    Turn P w K (.Tuple elts kk tpos) (IteT K a) [e, it] e (fun i h => (∃ old, IsEnum h e it ((i : Nat) : Int) old) ∧ h.IsTupleIter it a i ∧ e ≠ it) where
  mem := by simp
  obj := fun i h st b hb => by
    obtain ⟨⟨old, he⟩, ⟨o, ho, hc, hd⟩, _⟩ := st
    rcases (by simpa using hb : b = e ∨ b = it) with rfl | rfl
    · exact ⟨_, he, fun v q => nomatch q⟩
    · exact ⟨o, ho, fun v q => by rw [hd] at q; cases q⟩
  keep := fun i h h' st k => by
    obtain ⟨⟨old, he⟩, hi, hne⟩ := st
    exact ⟨⟨old, k e (by simp) _ he⟩, hi.at fun o q => k it (by simp) o q, hne⟩
  item := by
    intro X hP hw hK hc i pins s σ H E I hf st hg
    subst hP hw hK
    obtain ⟨⟨old, he⟩, hit, hne⟩ := st
    obtain ⟨xs, x, hq, hx⟩ := hg
    obtain ⟨its, rv, p, hz⟩ := I.tuple hq
    obtain ⟨u, hu, ru⟩ := rv.get hx
    have hel : e < s.heap.objs.size := Heap.lt_size he
    have hil : it < s.heap.objs.size := by
      obtain ⟨_, q, _⟩ := hit
      exact Heap.lt_size q
    have hit0 := hit
    refine wpAny_pyNext_enum_itemD (Draws.tuple (by exact I.ok.hd hc) it a (tup_ne_it p hit) its.toArray) he ⟨hit, p⟩ (i := i) (by
      have := (List.getElem?_eq_some_iff.mp hu).1
      simpa using this) hne (by simp [hne, tup_ne_en p he]) fun y h' tk hy ho hst' hT hsz hk => ?_
    obtain rfl : u = y := by
      have hy : its.toArray[i]? = some y := hy
      rw [List.getElem?_toArray, hu] at hy
      exact Option.some.inj hy
    refine ⟨_, rfl, wpAny_letOwnedTupleGo_enum (s := { s with heap := h', toks := tk + 1 }) ho fun h'' he' sb => ?_⟩
    have hT2 : h''.get? s.heap.objs.size = some { cls := .type "tuple", data := .seq #[.int i tk, u] } := (sb.2 _ (Nat.ne_of_gt hel)).trans hT
    have new : ObjOk X.prog X.w (upd H s.heap.objs.size (.tup [.int (i : Nat), x])) h'' s.heap.objs.size (.tup [.int (i : Nat), x]) :=
      ⟨by show 2 ≤ sizeLine; decide, [.int i tk, u], .cons ⟨_, rfl⟩ (.cons ru .nil), ⟨_, hT2, rfl, _, rfl⟩⟩
    have I1 : Inv X pins σ (upd H s.heap.objs.size (.tup [.int (i : Nat), x])) { s with heap := h'', toks := tk + 1 } :=
      I.turnedNew (ch := [e, it]) (fun b ob hb q => by
        have b1 : b ≠ e := fun z => hb (by simp [z])
        have b2 : b ≠ it := fun z => hb (by simp [z])
        exact (sb.2 b b1).trans (hk b ob b1 b2 q)) hf (Nat.le_refl _) new
    refine ⟨.ref s.heap.objs.size, _, I1, rfl, ⟨_, x, rfl, I.hok.fresh (Nat.le_refl _), rfl, fun ys hy => by rw [I.tuple_inj hy hq]; exact hx⟩, ⟨⟨u, ?_⟩, hst'.1.at fun o q => (sb.2 it (Ne.symm hne)).trans q, hne⟩, fun b hb => ?_⟩
    · rw [show ((i + 1 : Nat) : Int) = (i : Int) + 1 by omega]
      exact he'
    · have hb' : b < s.heap.objs.size := by
        rcases (by simpa using hb : b = e ∨ b = it) with rfl | rfl
        · exact hel
        · exact hil
      rw [upd_ne (Nat.ne_of_lt hb')]
      exact (hf b hb).1
  done := by
    intro X hP hw hK hc i pins s σ H E I hf st hg
    subst hP hw hK
    obtain ⟨⟨old, he⟩, hit, hne⟩ := st
    obtain ⟨xs, hq, rfl⟩ := hg
    obtain ⟨its, rv, p, hz⟩ := I.tuple hq
    obtain ⟨f0, f1, f2, f3, f4, f5⟩ := hf it (by simp)
    have hl := rv.length
    refine wpAny_pyNext_enum_endD (Draws.tuple (by exact I.ok.hd hc) it a (tup_ne_it p hit) its.toArray) he ⟨by rw [show its.toArray.size = xs.length by simp [hl]]; exact hit, p⟩ fun h' eb => ⟨rfl, I.turned (t' := s.toks) (fun b o hb q => eb b o hb q) f0 f1 f3 f4 f5⟩
  self := fun A i s Q E st h => by
    obtain ⟨⟨_, he⟩, _⟩ := st
    exact wpAny_pyIter_enum he h
def iEnumT (K : PySem.W.Frag) (ta : TA) : TI := fun σ H R => ta σ H fun vs H1 => ∃ a xs, vs = [.ref a] ∧ SqT K H1 a xs ∧ R (IteT K a) H1
theorem pi_enumT {X : Cx} {e : Expr} {ta : TA} {p pos tpos : Pos} {elts : List Expr} {kk : Nat} (hg : Gl X "enumerate") (hm : X.mg "enumerate" = none) (ha : PA X [e] ta) (hs : starEach [e] X.env = [(false, eval e X.env)] := by rfl) :
    PI X (.Tuple elts kk tpos) (.Call (.Name "enumerate" p) [e] [] pos) (iEnumT X.K ta) := by
  refine ⟨fun pins s σ H R I h => ?_⟩
  refine Call_ (ld_blt I hg hm boot_enumerate (PyProof.Rows.callWith_type1 (thn (ha.run pos pins s σ H _ I h) fun us s1 ⟨vs, H1, I1, r1, q1⟩ => ?_) hs rfl))
  obtain ⟨a, xs, rfl, hq, q⟩ := q1
  cases r1 with
  | cons r rr =>
    cases rr
    cases r
    obtain ⟨its, rv, p', hz⟩ := I1.tuple hq
    refine en_call (begins_tuple a its.toArray) p' fun h' he ho hk => wpAny_pyIter_enum he ?_
    have I2 : Inv X pins σ H1 { s1 with heap := h' } := I1.kept (t' := s1.toks) hk
    refine ⟨s1.heap.objs.size + 1, [s1.heap.objs.size + 1, s1.heap.objs.size], _, _, H1, rfl, I2, turn_enT a (s1.heap.objs.size + 1) s1.heap.objs.size, ⟨⟨.none, he⟩, ⟨_, ho, rfl, rfl⟩, Nat.succ_ne_self _⟩, fun b hb => ?_, q⟩
    have hle : s1.heap.objs.size ≤ b := by
      rcases (by simpa using hb : b = s1.heap.objs.size + 1 ∨ b = s1.heap.objs.size) with z | z
      · rw [z]
        exact Nat.le_succ _
      · rw [z]
        exact Nat.le_refl _
    exact I1.fpOk hle (I1.hok.fresh hle)
theorem walk_enT {K : PySem.W.Frag} {a : Addr} {xs : List V} : Walk (IteT K a) xs.length (fun H => SqT K H a xs) (YPair (fun i => some (.int (i : Nat))) (fun i => xs[i]?)) := by
  refine ⟨fun i _ hi q => ⟨xs, xs[i], q, by simp [hi]⟩, fun _ q => ⟨xs, q, rfl⟩, fun i H v H' _ q y => ?_⟩
  obtain ⟨T, x, h1, h2, h3, h4⟩ := y
  exact ⟨T, .int (i : Nat), x, h1, h2, h3, rfl, h4 xs q⟩
/-- n pairs of a number and a thing of which P i is known -/
def SrcE (wi : TI) (σ : L2.St) (B : Hp) (n : Nat) (P : Nat → Pr) : Prop := ∀ H1, Ex B H1 → ∀ R : It → Hp → Prop, (∀ (J : It) (B' H2 : Hp) (G : Hp → Prop) (Y : Nat → Hp → V → Hp → Prop), Gr B H1 B' H2 → Walk J n G Y → (∀ H, Ex B' H → G H) →
  (∀ i H v H', i < n → Ex B' H → Y i H v H' → ∃ T x, v = .ref T ∧ H T = none ∧ H' = upd H T (.tup [.int (i : Nat), x]) ∧ (P i).P x B') → R J H2) → wi σ H1 R
section
variable {te : TE} {σ : L2.St} {B H : Hp} {ps : List Pr} {K : PySem.W.Frag} {D : Ends} {ta : TA}
theorem pair_of {xs : List V} {B' : Hp} (al : AllP ps xs B') {i : Nat} {H : Hp} {v : V} {H' : Hp} (y : YPair (fun i => some (.int (i : Nat))) (fun i => xs[i]?) i H v H') :
    ∃ T x, v = .ref T ∧ H T = none ∧ H' = upd H T (.tup [.int (i : Nat), x]) ∧ (ps.getD i (IsV .non)).P x B' := by
  obtain ⟨T, y1, x, h1, h2, h3, h4, h5⟩ := y
  obtain rfl : V.int (i : Nat) = y1 := Option.some.inj h4
  obtain ⟨p, hp, k2⟩ := al.get h5
  refine ⟨T, x, h1, h2, h3, ?_⟩
  rw [List.getD_eq_getElem?_getD, hp]
  exact k2
theorem one_of {p : Pr} {vs : List V} {B' : Hp} (h : AllP [p] vs B') : ∃ v, vs = [v] ∧ p.P v B' := by
  match vs, h with
  | [v], h => exact ⟨v, rfl, h.1⟩
theorem src_enT (h : EvPs ta σ B [TuP K ps]) : SrcE (iEnumT K ta) σ B ps.length (fun i => ps.getD i (IsV .non)) := fun H1 a R k => h H1 a _ fun vs B2 H2 g b => by
  obtain ⟨v, rfl, l, xs, rfl, hx, al⟩ := one_of b
  exact ⟨l, xs, rfl, ex_t g.c hx, k _ B2 H2 _ _ g (by rw [← al.len]; exact walk_enT) (fun H e => ex_t e hx) fun i H v H' _ e z => pair_of al z⟩
theorem ps_forE {wi : TI} {n : Nat} {P : Nat → Pr} {g : TG} {tbd : TS} (a : Ex B H) (h : SrcE wi σ B n P)
    (k : ∀ B1 H1, Gr B H B1 H1 → ∃ Pv : Nat → L2.St → Hp → Prop, Pv 0 σ H1 ∧ (∀ i σ' H', i ≤ n → Pv i σ' H' → Ex B1 H') ∧
      (∀ i v T σ' H', i < n → Pv i σ' H' → (P i).P v B1 → H' T = none → g (.ref T) σ' (upd H' T (.tup [.int (i : Nat), v])) fun σ2 H2 => tbd { D with nx := Pv (i + 1), ct := Pv (i + 1), bk := D.nx } σ2 H2) ∧ ∀ σ' H', Pv n σ' H' → D.nx σ' H') :
    tFor wi g tbd D σ H := h H a _ fun J B1 H1 G Y gr w hG hY => by
  obtain ⟨Pv, h0, hE, hs, hd⟩ := k B1 H1 gr
  refine for_it w Pv h0 (fun i σ' H' hi pv => hG H' (hE i σ' H' hi pv)) (fun i x σ' H' H2 hi pv y => ?_) hd
  obtain ⟨T, v, rfl, hT, rfl, px⟩ := hY i H' x H2 hi (hE i σ' H' (Nat.le_of_lt hi) pv) y
  exact hs i v T σ' H' hi pv px hT
end
end Nd
namespace Nd
set_option autoImplicit false
open PySem PySem.W L2 My Evl
/-! ### monomials, fractions, polynomials, chains -/
abbrev Mo := List (Dv × Int)
abbrev Fr := Int × Int
abbrev Po := List (Mo × Fr)
def pwD (x : Dv × Int) : PyData := .tuple [x.1.D, .int x.2]
def moD (m : Mo) : PyData := .tuple (m.map pwD)
def frD (f : Fr) : PyData := .tuple [.int f.1, .int f.2]
def tmD (t : Mo × Fr) : PyData := .tuple [moD t.1, frD t.2]
def poD (p : Po) : PyData := .tuple (p.map tmD)
def pwP (K : PySem.W.Frag) (x : Dv × Int) : Pr := TuP K [DvP x.1, IsV (.int x.2)]
def moP (K : PySem.W.Frag) (m : Mo) : Pr := TuP K (m.map (pwP K))
def frP (K : PySem.W.Frag) (f : Fr) : Pr := TuP K [IsV (.int f.1), IsV (.int f.2)]
def tmP (K : PySem.W.Frag) (t : Mo × Fr) : Pr := TuP K [moP K t.1, frP K t.2]
def poP (K : PySem.W.Frag) (p : Po) : Pr := TuP K (p.map (tmP K))
section
variable {K : PySem.W.Frag}
theorem to_dv (u : Dv) : To K (DvP u) u.D := fun _ _ h => dv_d h
theorem to_pw (x : Dv × Int) : To K (pwP K x) (pwD x) := to_tup (.cons (to_dv x.1) (.cons to_int .nil))
theorem to_mo (m : Mo) : To K (moP K m) (moD m) := to_tup (toAll_map m fun x => to_pw x)
theorem to_fr (f : Fr) : To K (frP K f) (frD f) := to_tup (.cons to_int (.cons to_int .nil))
theorem to_tm (t : Mo × Fr) : To K (tmP K t) (tmD t) := to_tup (.cons (to_mo t.1) (.cons (to_fr t.2) .nil))
theorem to_po (p : Po) : To K (poP K p) (poD p) := to_tup (toAll_map p fun x => to_tm x)
end
/-! ### which are good -/
/-- each is less than what follows it, as Python compares -/
def Ups {α : Type} (f : α → PyData) (l : List α) : Prop := ∀ i (h : i + 1 < l.length), dataLt (f (l[i]'(Nat.lt_of_succ_lt h))) (f l[i + 1]) = true
structure MoOk (r : Rk) (m : Mo) : Prop where
  of : ∀ x ∈ m, x.1.Of r ∧ 0 < x.2
  up : Ups (fun x => x.1.D) m
structure FrOk (f : Fr) : Prop where
  bot : 0 < f.2
  low : Nat.gcd f.1.natAbs f.2.natAbs = 1
structure PoOk (r : Rk) (p : Po) : Prop where
  of : ∀ t ∈ p, MoOk r t.1 ∧ FrOk t.2 ∧ t.2.1 ≠ 0
  up : Ups (fun t => moD t.1) p
theorem alike_dv (u v : Dv) : alike u.D v.D = true := by simp [Dv.D, alike, alikeAll]
theorem alike_pw (x y : Dv × Int) : alike (pwD x) (pwD y) = true := by
  unfold pwD
  rw [alike, alikeAll, alikeAll, alikeAll, alike_dv]
  simp [alike]
theorem alike_map {α : Type} {f : α → PyData} (h : ∀ x y, alike (f x) (f y) = true) : ∀ l m : List α, alikeAll (l.map f) (m.map f) = true
  | [], _ => by rw [List.map_nil, alikeAll]
  | _ :: _, [] => by rw [List.map_nil, List.map_cons, alikeAll]
  | x :: l, y :: m => by rw [List.map_cons, List.map_cons, alikeAll, h x y, alike_map h l m, Bool.and_self]
theorem alike_mo (m n : Mo) : alike (moD m) (moD n) = true := by
  unfold moD
  rw [alike]
  exact alike_map alike_pw m n
theorem deep_dv (u : Dv) : u.D.depth = 1 := by simp [Dv.D, PyData.depth, PyData.depthAll]
theorem deep_pw (x : Dv × Int) : (pwD x).depth = 2 := by simp [pwD, PyData.depth, PyData.depthAll, deep_dv]
theorem deep_map {α : Type} {f : α → PyData} {n : Nat} (h : ∀ x, (f x).depth ≤ n) : ∀ l : List α, PyData.depthAll (l.map f) ≤ n
  | [] => by rw [List.map_nil, PyData.depthAll]; exact Nat.zero_le _
  | x :: l => by
    rw [List.map_cons, PyData.depthAll]
    exact Nat.max_le.mpr ⟨h x, deep_map h l⟩
theorem deep_mo (m : Mo) : (moD m).depth ≤ 3 := by
  unfold moD
  rw [PyData.depth]
  have := deep_map (f := pwD) (n := 2) (fun x => Nat.le_of_eq (deep_pw x)) m
  omega
section
variable {te ta tb : TE} {σ : L2.St} {B H : Hp} {ps : List Pr} {K : PySem.W.Frag}
theorem ev_gcd {i j : Int} (ha : Ev ta σ B (.int i)) (hb : Ev tb σ B (.int j)) : Ev (tCB rGcd (tCons ta (tCons tb tNil))) σ B (.int ((Nat.gcd i.natAbs j.natAbs : Nat) : Int)) := fun H1 e Q q =>
  ha H1 e _ fun H2 e2 => hb H2 (e.trans e2) _ fun H3 e3 => ⟨i, j, rfl, q H3 (e2.trans e3)⟩
theorem src_tu (h : EvP te σ B (TuP K ps)) : Src (iTup K te) σ B ps.length (fun i => ps.getD i (IsV .non)) := fun H1 a R k => h H1 a _ fun v B2 H2 g b => by
  obtain ⟨l, xs, rfl, hx, al⟩ := b
  refine ⟨l, rfl, ⟨xs, ex_t g.c hx⟩, k _ B2 H2 _ _ g (by rw [← al.len]; exact walk_tup) (fun H e => ex_t e hx) fun i H v H' _ e (z : H' = H ∧ _) => ⟨z.1, ?_⟩⟩
  have z2 : xs[i]? = some v := z.2
  obtain ⟨p, hp, k2⟩ := al.get z2
  show (ps.getD i (IsV .non)).P v B2
  rw [List.getD_eq_getElem?_getD, hp]
  exact k2
theorem getD_map {α : Type} {f : α → Pr} {l : List α} {i : Nat} (h : i < l.length) : (l.map f).getD i (IsV .non) = f l[i] := by
  rw [List.getD_eq_getElem?_getD, List.getElem?_map, List.getElem?_eq_getElem h]
  rfl
end
/-! ### promises of defs -/
end Nd
namespace Nd
set_option autoImplicit false
open PySem PySem.Spec PySem.W PySem.Calls PyProof.Rows L2 My Evl
theorem each_zip {R : Value → PyData → Prop} : ∀ {vs : List Value} {ks : List PyData} {xs : List V}, EachIs R vs ks → ks.length = xs.length → EachIs (fun v (p : V × PyData) => R v p.2) vs (xs.zip ks)
  | _, _, [], .nil, _ => .nil
  | _, _, [], .cons _ _, h => by simp at h
  | _, _, _ :: _, .nil, h => by simp at h
  | _, _, _ :: _, .cons a b, h => .cons a (each_zip b (by simpa using h))
section
variable {X : Cx} {pins : List (Addr × Obj)} {σ : L2.St} {H : Hp} {s : Shared} {A : Around} {E : Value → Shared → Prop}
/-- sorted(d) of a dict by tuples -/
theorem sorted_dict0 {d : Addr} {ks : List PyData} {as : List Addr} {Q : VK} (I : Inv X pins σ H s) (hh : A.in1.handled = none) {o : Obj} {es : Array DictEntry} {ep : Nat} (lo : (d == sysModules) = false)
    (ho : s.heap.get? d = some o) (ex : o.ExactDict) (hd : o.data = .dict es ep) (hes : es.toList.map (·.key) = as.map Value.ref) (hz : as.length ≤ sizeLine)
    (hl : ks.length = as.length) (hal : AllAlike ks) (hsk : Sortable ks) (hu : ∀ d, d ∈ ks → A.units + 2 + d.depth < cLine) (dp : DpAll X.K H (as.map V.ref) ks)
    (q : ∀ a, H a = none → Q (.ref a) (upd H a (.lst (byKey (as.map V.ref) ks)))) :
    wpAny (model X.prog X.w) A (call (.builtin "sorted") [.ref d]) (EP X pins σ Q) E s := by
  have hsz : es.size = as.length := by simpa using congrArg List.length hes
  refine call_function_entry_kw kind_sorted plain_sorted entry_sorted (args_sorted1 _) ?_
  unfold Builtin.«sorted»
  refine wpAny_bind (m := checkCount "sorted" 1 1 _) (wpAny_pure ?_)
  refine wpAny_bind (kdu_collect (A := A.in1) (KdlSrc.rawDict (es := es) (ep := ep) lo) hh ⟨o, ho, ex, hd⟩ (by omega) fun h1 tk acc hk hacc => ?_)
  have hA : acc.toList = as.map Value.ref := by
    apply List.ext_getElem?
    intro i
    by_cases hi : i < as.length
    · have hi2 : i < acc.size := by rw [hacc.1]; omega
      obtain ⟨hi3, e⟩ := hacc.2 i acc[i] (by rw [Array.getElem?_eq_getElem hi2])
      have e2 : (es.toList.map (·.key))[i]? = some es[i].key := by
        rw [List.getElem?_map, List.getElem?_eq_getElem (by simpa using hi3)]
        simp
      rw [← hes, e2, ← e]
      simp [hi2]
    · rw [List.getElem?_eq_none (by rw [Array.length_toList, hacc.1]; omega), List.getElem?_eq_none (by rw [List.length_map]; omega)]
  rw [hA]
  refine wpAny_bind (wpAny_newList ?_ (by rw [List.length_map]; exact hz))
  have I1 := I.kept (t' := tk) (h' := h1) hk
  have I2 := I1.kept (t' := tk) (h' := h1.push (seqObj "list" (as.map Value.ref).toArray 0)) (fun c o e => Heap.get?_push_of_some _ e)
  have at1 : (h1.push (seqObj "list" (as.map Value.ref).toArray 0)).get? h1.objs.size = some (seqObj "list" (as.map Value.ref).toArray 0) := Heap.get?_push_size _ rfl
  have hl' : ks.length = (as.map V.ref).length := by rw [List.length_map]; exact hl
  have vl : (byKey (as.map V.ref) ks).length ≤ sizeLine := by
    show (((as.map V.ref).zip ks).mergeSort (dataLe false (·.2)) |>.map (·.1)).length ≤ _
    rw [List.length_map, List.length_mergeSort, List.length_zip, List.length_map]
    omega
  have ev : EachIs (fun u d => ∃ bs, Reads (sortingHeap (h1.push (seqObj "list" (as.map Value.ref).toArray 0)) h1.objs.size (as.map Value.ref)) u d bs) (as.map Value.ref) ks :=
    (dps_each I1 (My.vals_refs as) dp).mono fun u d ⟨bs, r⟩ => ⟨bs, Reads.keeps (fun b o e => sortingHeap_old (Nat.ne_of_lt (Heap.lt_size e)) (Heap.get?_push_of_some _ e)) r⟩
  have ez := zip_snd hl'
  have er := each_zip ev hl'
  have out := sortVals_data (enc := fun p : V × PyData => p.2) false (vals_each (h := s.heap) (My.vals_refs as) hl') er (by rw [ez]; exact hal)
  obtain ⟨c, at3⟩ := sortedHeap_at (vs := as.map Value.ref) (out := (sortVals (dataKind (sortingHeap (h1.push (seqObj "list" (as.map Value.ref).toArray 0)) h1.objs.size (as.map Value.ref)) (((as.map V.ref).zip ks).map fun p => p.2)) false (as.map Value.ref) (as.map Value.ref)).toArray) at1
  refine wpAny_bind (wpAny_holding (wpAny_call_entry_kw slot_list_sort ⟨_, at1, rfl⟩ entry_list_sort ?_ (args_list_sort _)))
  refine list_sort_vals (s := { s with heap := h1.push (seqObj "list" (as.map Value.ref).toArray 0), toks := tk }) (κ := dataKind (sortingHeap (h1.push (seqObj "list" (as.map Value.ref).toArray 0)) h1.objs.size (as.map Value.ref)) (((as.map V.ref).zip ks).map fun p => p.2)) at1 ?_ (by rw [List.length_map]; exact hz) ?_
  · rw [ez]
    exact SortsAt.data (s := { s with heap := sortingHeap (h1.push (seqObj "list" (as.map Value.ref).toArray 0)) h1.objs.size (as.map Value.ref), toks := tk }) ev hal hsk hu
  · refine ⟨_, rfl, wpAny_pure ⟨_, rfl, .ref h1.objs.size, _, free2 (b := h1.objs.size + 1) (t' := tk) I2 (Fre.of I1 (Nat.le_refl _)) (Fre.of I1 (Nat.le_succ h1.objs.size)) (I1.hok.fresh (Nat.le_refl _)) (I1.hok.fresh (Nat.le_succ _)) (fun x o n1 n2 e => (sortedHeap_old n1 (Heap.lt_size e)).trans e) ⟨vl, _, c, each_vals out, at3⟩, rfl, q _ (I1.hok.fresh (Nat.le_refl _))⟩⟩
end
end Nd
namespace Nd
set_option autoImplicit false
open PySem PySem.W L2 My Evl
/-! ### derivatives in order, as Python compares -/
def dvs (p : Po) : List Dv := p.flatMap fun t => t.1.map (·.1)
/-! ### derived of -/
section
variable {te ta tb : TE} {σ : L2.St} {B H : Hp} {ps : List Pr} {K : PySem.W.Frag} {t : TA}
end
end Nd
namespace Nd
set_option autoImplicit false
open PySem PySem.Spec PyProof.Rows L2 My Evl
theorem lay_store {xs : List NV} {us : List Value} {k : NestedKey} {a : Addr} {v : V} {u : Value} (r : Vals (xs.map (·.2.2)) us) (rv : RelV v u) :
    ∃ ws, Vals ((putN xs k a v).map (·.2.2)) ws ∧ storedH (lay xs us) k a u = lay (putN xs k a v) ws := by
  obtain ⟨h1, _, _⟩ := at_lay (k := k) r
  unfold storedH putN
  cases hh : hasN xs k with
  | true =>
    rw [hh] at h1
    obtain ⟨y, hy⟩ := Option.isSome_iff_exists.mp h1
    obtain ⟨ws, w1, w2⟩ := lay_put (k := k) rv r
    rw [if_pos rfl]
    exact ⟨ws, w1, by rw [← w2]; simp [hy]⟩
  | false =>
    rw [hh] at h1
    have hy : atKey (lay xs us) k = none := by simpa using h1
    rw [if_neg Bool.false_ne_true]
    refine ⟨us ++ [u], ?_, ?_⟩
    · rw [List.map_append]
      exact My.vals_app r (.cons rv .nil)
    · rw [lay_app (vlen r)]
      simp [hy, lay]
section
variable {X : Cx} {pins : List (Addr × Obj)} {σ : L2.St} {H : Hp} {s : Shared}
/-- d[y] = v, d a dict by nested keys -/
def sNPut (P : Program) (w : World) (K : PySem.W.Frag) (td ty tv : TE) : TS := fun D σ H => tv σ H fun v H1 => td σ H1 fun x H2 => ty σ H2 fun y H3 => ∃ (d a : Addr) (xs : List NV) (k : NestedKey), x = .ref d ∧ y = .ref a ∧ H3 d = some (DN P w d xs) ∧
  KeysOk K H3 xs ∧ KeyAt K H3 a k ∧ xs.length < 100000 ∧ D.nx σ (upd H3 d (DN P w d (putN xs k a v)))
theorem put_len {xs : List NV} {k : NestedKey} {a : Addr} {v : V} : (putN xs k a v).length ≤ xs.length + 1 := by
  unfold putN
  split
  · rw [List.length_map]
    exact Nat.le_succ _
  · rw [List.length_append]
    exact Nat.le_refl _
theorem ps_dputN {o i value : Expr} {td ty tv : TE} {pos pos' : Pos} (hu : X.A.units + 9 < cLine) (ho : PE X o td) (hi : PE X i ty) (hv : PE X value tv) (hs : swapsWith value (some (.Subscript o i pos')) pos.line X.env = pure false) :
    PS X (.Assign [.Subscript o i pos'] value pos) (sNPut X.prog X.w X.K td ty tv) := by
  refine ⟨fun pins s σ H D I h => ?_⟩
  refine wpAny_Assign_Subscript (thn (hv.run pins s σ H _ I h) fun r s1 ⟨v, H1, I1, rv, q1⟩ => thn (ho.run pins s1 σ H1 _ I1 q1) fun u s2 ⟨x, H2, I2, rx, q2⟩ => thn (hi.run pins s2 σ H2 _ I2 q2) fun iv s3 ⟨y, H3, I3, ry, d, a, xs, k, ex, ey, hd, hk, hkey, hz, q3⟩ => ?_) hs
  subst ex ey
  obtain rfl : u = Value.ref d := rx
  obtain rfl : iv = Value.ref a := ry
  obtain ⟨z1, z2, us, rr, m⟩ := dn_of I3 hd hk
  have big : (100000 : Nat) ≤ sizeLine := by decide
  refine wpAny_setItem_heap (knd := nestedKind X.prog X.w) (hsz := by rw [lay_len (vlen rr)]; omega) (by show X.A.units + 1 + 8 < cLine; omega) (key_is I3 hkey) m fun h' m' sb => ?_
  obtain ⟨ws, w1, w2⟩ := lay_store (k := k) (a := a) rr rv
  rw [w2] at m'
  have he : ∃ q, h'.get? d = some q := by
    obtain ⟨q, _, _, hq, _⟩ := m'
    exact ⟨q, hq⟩
  have := put_len (xs := xs) (k := k) (a := a) (v := v)
  exact ⟨σ, _, I3.write (e := d) (by rw [hd]; trivial) (.inl rfl) (fun b o hb e => (sb.2 b hb).trans e) he (dn_ok (dn_to z1 (by omega) w1 m')), q3⟩
/-- sorted(e), e a dict by nested keys -/
def tSortN (P : Program) (w : World) (K : PySem.W.Frag) (te : TE) : TE := fun σ H Q => te σ H fun v H1 => ∃ (d : Addr) (xs : List NV) (ks : List PyData), v = .ref d ∧ H1 d = some (DN P w d xs) ∧ ks.length = xs.length ∧ PySem.W.AllAlike ks ∧ PySem.W.Sortable ks ∧ (∀ e, e ∈ ks → e.depth ≤ 50) ∧
  DpAll K H1 (xs.map fun x => V.ref x.2.1) ks ∧ ∀ a, H1 a = none → Q (.ref a) (upd H1 a (.lst (byKey (xs.map fun x => V.ref x.2.1) ks)))
theorem lay_ref {P : Program} {w : World} : ∀ {xs : List NV} {us : List Value}, xs.length = us.length → ((lay xs us).map (entryOfKey (nestedKind P w))).map (·.key) = (xs.map (·.2.1)).map Value.ref
  | [], [], _ => rfl
  | _ :: _, _ :: _, h => congrArg (_ :: ·) (lay_ref (by simpa using h))
theorem pe_sortN {te : TE} {e : Expr} {p pos : Pos} {k : Nat} (hr : Room k X.A) (hg : Gl X "sorted") (hm : X.mg "sorted" = none) (he : PE X e te)
    (na : starEach [e] X.env = (false, eval e X.env) :: starEach [] X.env := by rfl) : PE X (.Call (.Name "sorted" p) [e] [] pos) (tSortN X.prog X.w X.K te) := by
  refine ⟨fun pins s σ H Q I h => ?_⟩
  refine PyProof.Rows.Call_ (ld_blt I hg hm (u := .builtin "sorted") (by decide +kernel) ?_)
  refine PyProof.Rows.callWith_builtin1 (PyProof.Rows.args_cons (thn (he.run pins s σ H _ I h) fun u s1 ⟨v, H1, I1, r1, q1⟩ => PyProof.Rows.args_nil ?_) na) na rfl
  obtain ⟨d, xs, ks, rfl, hd, a1, a2, a3, a4, a5, a6⟩ := q1
  obtain rfl : u = Value.ref d := r1
  have un := hr.un
  obtain ⟨z1, z2, us, o, es, ep, rr, e1, e2, e3, e4, e5⟩ := (I1.hok d _ hd).1
  have em : (xs.map fun x => V.ref x.2.1) = (xs.map (·.2.1)).map V.ref := by rw [List.map_map]; rfl
  rw [em] at a5
  simp only [em] at a6
  exact sorted_dict0 (E := X.xe) I1 (show X.A.in1.handled = none from hr.hd) z1 e1 e2 e3 (as := xs.map (·.2.1)) (by rw [e4, lay_ref (vlen rr)]) (by rw [List.length_map]; exact z2) (by rw [a1, List.length_map]) a2 a3 (fun d hd => by
    have := a4 d hd
    omega) a5 a6
end
/-! ### derivatives as keys -/
theorem nk_dv (u : Dv) : nk u.D = .tup [.text u.n, .num u.i, .num u.j] := by simp [Dv.D, nk, nkAll]
theorem nk_inj {u v : Dv} (h : nk u.D = nk v.D) : u = v := by
  rw [nk_dv, nk_dv] at h
  injection h with h
  injection h with h1 h
  injection h with h2 h
  injection h with h3 _
  injection h1 with h1
  injection h2 with h2
  injection h3 with h3
  cases u
  cases v
  simp_all
structure KeyL (us : List Dv) (xs : List NV) (B : Hp) : Prop where
  keys : xs.map (·.1) = us.map fun u => nk u.D
  refs : AllP (us.map DvP) (xs.map fun x => V.ref x.2.1) B
theorem KeyL.has {us : List Dv} {xs : List NV} {B : Hp} (h : KeyL us xs B) (u : Dv) : hasN xs (nk u.D) = decide (u ∈ us) := by
  have e : hasN xs (nk u.D) = (xs.map (·.1)).any fun k => decide (k = nk u.D) := by
    unfold hasN
    rw [List.any_map]
    rfl
  rw [e, h.keys, List.any_map]
  by_cases hm : u ∈ us
  · rw [decide_eq_true hm, List.any_eq_true]
    exact ⟨u, hm, by simp⟩
  · rw [decide_eq_false hm, List.any_eq_false]
    intro v hv
    simp only [Function.comp, decide_eq_true_eq]
    intro z
    exact hm (nk_inj z ▸ hv)
theorem KeyL.put {us : List Dv} {xs : List NV} {B : Hp} {u : Dv} {a : Addr} {v : V} (h : KeyL us xs B) (ha : (DvP u).P (.ref a) B) : KeyL (addD us u) (putN xs (nk u.D) a v) B := by
  unfold addD putN
  rw [h.has u]
  by_cases hm : u ∈ us
  · rw [if_pos hm, decide_eq_true hm, if_pos rfl]
    refine ⟨?_, ?_⟩
    · rw [← h.keys, List.map_map]
      refine List.map_congr_left fun x _ => ?_
      show (if x.1 = nk u.D then (x.1, x.2.1, v) else x).1 = x.1
      split <;> rfl
    · have : ((xs.map fun x => if x.1 = nk u.D then (x.1, x.2.1, v) else x).map fun x => V.ref x.2.1) = xs.map fun x => V.ref x.2.1 := by
        rw [List.map_map]
        refine List.map_congr_left fun x _ => ?_
        show V.ref (if x.1 = nk u.D then (x.1, x.2.1, v) else x).2.1 = V.ref x.2.1
        split <;> rfl
      rw [this]
      exact h.refs
  · rw [if_neg hm, decide_eq_false hm, if_neg Bool.false_ne_true]
    refine ⟨?_, ?_⟩
    · rw [List.map_append, List.map_append, h.keys]
      rfl
    · rw [List.map_append, List.map_append]
      exact h.refs.app ⟨ha, trivial⟩
theorem deep_nk (u : Dv) : (nk u.D).depth ≤ 8 := by
  rw [nk_dv]
  simp [NestedKey.depth, NestedKey.depthAll]
theorem key_dv {K : PySem.W.Frag} {H : Hp} {u : Dv} {a : Addr} (h : (DvP u).P (.ref a) H) : KeyAt K H a (nk u.D) := ⟨u.D, dv_d h, by simp [Dv.D, keyish, keyishAll], rfl, deep_nk u⟩
theorem KeyL.ok {K : PySem.W.Frag} {us : List Dv} {xs : List NV} {B H : Hp} (h : KeyL us xs B) (e : Evl.Ex B H) : KeysOk K H xs := fun x hx => by
  obtain ⟨i, hi, rfl⟩ := List.mem_iff_getElem.mp hx
  have hl : xs.length = us.length := by simpa using congrArg List.length h.keys
  have h1 := h.refs.m e
  obtain ⟨p, hp, k⟩ := h1.get (i := i) (v := V.ref xs[i].2.1) (by rw [List.getElem?_map, List.getElem?_eq_getElem hi]; rfl)
  rw [List.getElem?_map, List.getElem?_eq_getElem (by omega : i < us.length)] at hp
  obtain rfl : DvP us[i] = p := Option.some.inj hp
  have hk : xs[i].1 = nk us[i].D := by
    have := congrArg (fun l => l[i]?) h.keys
    simp only [List.getElem?_map, List.getElem?_eq_getElem hi, List.getElem?_eq_getElem (by omega : i < us.length)] at this
    exact Option.some.inj this
  rw [hk]
  exact key_dv k
theorem KeyL.len {us : List Dv} {xs : List NV} {B : Hp} (h : KeyL us xs B) : xs.length = us.length := by simpa using congrArg List.length h.keys
end Nd
namespace Nd
set_option autoImplicit false
open PySem PySem.W L2 My Evl
/-! ### a list under way: made at H0, filled by append and extend -/
structure AccAt (B H0 : Hp) (d : Addr) (ps : List Pr) (Bi H : Hp) : Prop where
  g : Gr B H0 Bi (wo d H)
  at_ : ∃ xs, H d = some (.lst xs) ∧ AllP ps xs Bi
section
variable {B H0 Bi B2 H H2 : Hp} {d : Addr} {ps qs : List Pr} {p : Pr} {K : PySem.W.Frag} {σ : L2.St} {D : Ends} {te : TE} {i : Nat}
theorem AccAt.ex (A : AccAt B H0 d ps Bi H) : Ex Bi H := A.g.c.trans wo_ex
theorem AccAt.on (A : AccAt B H0 d ps Bi H) : H d ≠ none := by
  obtain ⟨xs, h, _⟩ := A.at_
  rw [h]
  exact fun z => nomatch z
theorem AccAt.step (A : AccAt B H0 d ps Bi H) (k : Gr Bi H B2 H2) : AccAt B H0 d ps B2 H2 := by
  obtain ⟨xs, h, al⟩ := A.at_
  exact ⟨A.g.side A.on k, xs, k.a _ _ h, al.m k.b⟩
theorem AccAt.fin (A : AccAt B H0 d ps Bi H) (h0 : H0 d = none) : ∃ B', Gr B H0 B' H ∧ (LsP ps).P (.ref d) B' := by
  obtain ⟨xs, hd, al⟩ := A.at_
  have hB : Bi d = none := wo_none A.g.c
  refine ⟨upd Bi d (.lst xs), ⟨A.g.a.trans wo_ex, A.g.b.trans (Ex.new hB), fun b o e => ?_, fun x hb hh => ?_, fun z b qs q => ?_⟩, d, xs, rfl, upd_same, al.m (Ex.new hB)⟩
  · by_cases n : b = d
    · subst n
      rw [upd_same] at e
      rw [hd]
      exact e
    · rw [upd_ne n] at e
      exact A.g.c.trans wo_ex _ _ e
  · have n : x ≠ d := fun z => hh (by rw [z]; exact h0)
    rw [upd_ne n]
    exact A.g.d x hb hh
  · by_cases n : b = d
    · subst n
      rw [upd_same] at q
      cases q
    · rw [upd_ne n] at q
      exact A.g.e z b qs q
/-- told.append(e) -/
theorem ps_app (hs : σ[i]? = some (some (.ref d))) (A : AccAt B H0 d ps Bi H) (he : EvP te σ Bi p) (hl : ps.length < 100000) (k : ∀ B2 H2, Ex Bi B2 → AccAt B H0 d (ps ++ [p]) B2 H2 → D.nx σ H2) :
    tDrop (tBM K "list" rAppend (tVar i) (tCons te tNil)) D σ H := by
  obtain ⟨xs, hd, al⟩ := A.at_
  refine ⟨.ref d, hs, ?_, ?_⟩
  · exact .inl ⟨rfl, xs, sq_of hd⟩
  refine he H A.ex _ fun v B2 H2 g pv => ?_
  have hd2 := g.a _ _ hd
  have := al.len
  refine ⟨d, xs, v, rfl, rfl, hd2, sz_lt (by omega), k B2 _ g.b ⟨?_, xs ++ [v], upd_same, (al.m g.b).app ⟨pv, trivial⟩⟩⟩
  rw [wo_upd]
  exact A.g.side A.on g
end
section
variable {B H0 Bi H : Hp} {d : Addr} {ps qs : List Pr} {K : PySem.W.Frag} {σ : L2.St} {D : Ends} {te : TE} {i : Nat}
end
/-- tuple(list) -/
theorem p_tupOf {te : TE} {σ : L2.St} {B : Hp} {ps : List Pr} {K : PySem.W.Frag} (h : EvP te σ B (LqP K ps)) :
    EvP (tCB (fun xs H Q => ∃ p ys, xs = [.ref p] ∧ ((SqL K H p ys ∧ ∀ l, H l = none → Q (.ref l) (upd H l (.tup ys))) ∨ (SqT K H p ys ∧ Q (.ref p) H))) (tCons te tNil)) σ B (TuP K ps) := fun H1 a Q k => h H1 a _ fun v B2 H2 g x => by
  obtain ⟨l, xs, rfl, hl, al⟩ := x
  exact ⟨l, xs, rfl, .inl ⟨ex_l g.c hl, fun m hm => k _ _ _ (g.trans (Gr.new (.tup xs) g.c hm)) ⟨m, xs, rfl, st_of upd_same, al.m (Ex.new (fresh_back g.c hm))⟩⟩⟩
section
variable {te : TE} {σ : L2.St} {B : Hp} {K : PySem.W.Frag} {x : Int} {xs : List Int}
end
end Nd
namespace Nd
set_option autoImplicit false
open PySem PySem.W L2 My Evl
/-! ### comprehensions of two fors -/
end Nd
namespace Nd
set_option autoImplicit false
open PySem PySem.W L2 My Evl LamX NdefX
/-- a def that makes a lambda: its code object is known -/
structure FunC (K : PySem.W.Frag) (x qual : Str) (st : Stmt) (c f : Addr) (fd : FuncData) : Prop where
  ex : ∃ (oc : Value) (od : Option Addr) (kV doc pm : Value) (an : Option Addr) (ct : Value) (osl : Array (Option Value)),
    fd = PySem.W.fnOf x qual (defArgs st) (defBody st) (defScope st) .none kV doc pm an (.ref c) ct ∧ K.lookup f = some ⟨oc, od, .func fd, osl⟩ ∧ PySem.W.codeIn K (.ref c) qual = true
theorem FunC.ok {P : Program} {w : World} {K : PySem.W.Frag} {mg : Str → Option Value} {base : Heap} {x qual : Str} {st : Stmt} {c f : Addr} {fd : FuncData} {N ps : List Str} {k : Nat} {sp : Sp} (F : FunC K x qual st c f fd) (S : FnScope N ps (defScope st)) (len : ∀ vs H Q E, sp vs H Q E → vs.length = ps.length)
    (hbody : ∀ (A : Around) (outer : List Env) (s : Shared) (H : Hp) (vs : List V) (Q : VK) (E : XK), Room k (A.deeper (PyProof.Rows.envOfC qual (defScope st) s.heap.objs.size f (.ref c))) → sp vs H Q E →
      ∃ t, PSs (cxOf CX0 P w K mg base N qual (defScope st) f (.ref c) A outer s H E).nox (defBody st) t ∧ t { nx := fun _ H' => Q .non H', rt := Q } (L2.start N vs) H) : FnOk P w K mg base CX0 (k + 1) f fd ps sp := by
  obtain ⟨oc, od, kV, doc, pm, an, ct, osl, e, lk, hcd⟩ := F.ex
  subst e
  exact fn_of lk hcd S len fun A outer s H vs Q E hr hsp => by
    obtain ⟨t, h1, h2⟩ := hbody A outer s H vs Q E hr hsp
    exact ⟨t, h1.nox, h2⟩
/-- what is known in B of a heap H with tables T -/
structure Kn (T : List (Addr × Str)) (B H : Hp) : Prop where
  e : Ex B H
  n : NoTab B
  t : Tabs T H
theorem Kn.next {T : List (Addr × Str)} {B H H2 : Hp} (k : Kn T B H) (e : ExtN H H2) (t : Tabs T H2) : Kn T B H2 := ⟨exN_ex k.e k.n e, k.n, t⟩
theorem Kn.gr {T : List (Addr × Str)} {B H B2 H2 : Hp} (k : Kn T B H) (g : Gr B H B2 H2) : Kn T B2 H2 := ⟨g.c, g.e k.n, k.t.ext g.a⟩
theorem Kn.ex {T : List (Addr × Str)} {B H H2 : Hp} (k : Kn T B H) (e : Ex H H2) : Kn T B H2 := ⟨k.e.trans e, k.n, k.t.ext e⟩
/-- all stays but the tables; what is known of B' leans on nothing else that stood in H -/
structure GT (T : List (Addr × Str)) (B H B' H' : Hp) : Prop where
  a : ExtN H H'
  b : Ex B B'
  c : Ex B' H'
  f : ∀ x o, B x = none → H x = some o → (∀ ps, o ≠ .tbl ps) → B' x = none
  e : NoTab B → NoTab B'
  t : Tabs T H → Tabs T H'
section
variable {T : List (Addr × Str)} {B H B1 H1 B2 H2 : Hp}
theorem GT.trans (g : GT T B H B1 H1) (k : GT T B1 H1 B2 H2) : GT T B H B2 H2 :=
  ⟨g.a.trans k.a, g.b.trans k.b, k.c, fun x o hb hh n => k.f x o (g.f x o hb hh n) (g.a x o hh n) n, fun z => k.e (g.e z), fun z => k.t (g.t z)⟩
theorem GT.gr (g : Gr B H B1 H1) : GT T B H B1 H1 := ⟨exN_of g.a, g.b, g.c, fun x o hb hh _ => g.d x hb (by rw [hh]; exact fun z => nomatch z), g.e, fun z => z.ext g.a⟩
theorem Kn.gt (k : Kn T B H) (g : GT T B H B1 H1) : Kn T B1 H1 := ⟨g.c, g.e k.n, g.t k.t⟩
end
/-- a display of a tuple, its object known as it stands -/
def tTupF (t : TA) : TE := fun σ H Q => t σ H fun xs H1 => xs.length ≤ sizeLine ∧ ∀ p o, H1 p = none → o.dict = none → Q (.ref p) (upd H1 p (.frz o (.tup xs)))
theorem pe_tupF {X : Cx} {es : List Expr} {t : TA} {pos : Pos} {kk : Nat} (h : PA X es t) : PE X (.Tuple es kk pos) (tTupF t) := by
  refine ⟨fun pins s σ H Q I hq => ?_⟩
  refine PySem.wpAny_Tuple_spliced (thn (h.run pos pins s σ H _ I hq) fun us s1 ⟨xs, H1, I1, r, z, q⟩ => ⟨by rw [← r.length]; exact z, ?_⟩)
  have hf : H1 s1.heap.objs.size = none := I1.hok.fresh (Nat.le_refl _)
  refine ⟨.ref s1.heap.objs.size, upd H1 s1.heap.objs.size (.frz { cls := .type "tuple", data := .seq us.toArray } (.tup xs)), I1.laid (t' := s1.toks) (fun b u e => Heap.get?_push_of_some _ e) (Nat.le_refl _) ?_, rfl, q _ _ hf rfl⟩
  exact ⟨Heap.get?_push_size _ rfl, z, us, r, PyProof.Rows.IsTup.new _ _⟩
end Nd
namespace Nd
set_option autoImplicit false
open PySem PySem.Spec PySem.W PySem.Calls PyProof.Rows L2 My Evl
section
variable {X : Cx}
theorem lay_at : ∀ {xs : List NV} {us : List Value} {i : Nat} {y : NestedKey × Addr × Value}, (lay xs us)[i]? = some y → ∃ x u, xs[i]? = some x ∧ us[i]? = some u ∧ y = (x.1, x.2.1, u)
  | [], us, i, y, h => by simp [lay] at h
  | x :: xs, [], i, y, h => by simp [lay] at h
  | x :: xs, u :: us, 0, y, h => ⟨x, u, rfl, rfl, (Option.some.inj h).symm⟩
  | x :: xs, u :: us, i + 1, y, h => by
    obtain ⟨a, b, c, d, e⟩ := lay_at (xs := xs) (us := us) (i := i) (y := y) h
    exact ⟨a, b, c, d, e⟩
end
end Nd
namespace Nd
set_option autoImplicit false
open PySem PySem.W L2 My Evl PyProof.Rows
/-! ### sorting by data -/
theorem AllP.zipG {α : Type} {H : Hp} (f : α → Pr) : ∀ {xs : List V} {us : List α}, AllP (us.map f) xs H → ∀ p ∈ xs.zip us, (f p.2).P p.1 H
  | [], [], _, p, hp => by simp at hp
  | x :: xs, u :: us, h, p, hp => by
    rw [List.zip_cons_cons] at hp
    rcases List.mem_cons.mp hp with rfl | hp
    · exact h.1
    · exact AllP.zipG f h.2 p hp
theorem AllP.ofG {α : Type} {H : Hp} (f : α → Pr) : ∀ {ps : List (V × α)}, (∀ p ∈ ps, (f p.2).P p.1 H) → AllP ((ps.map (·.2)).map f) (ps.map (·.1)) H
  | [], _ => trivial
  | p :: ps, h => ⟨h p List.mem_cons_self, AllP.ofG f fun q hq => h q (List.mem_cons_of_mem _ hq)⟩
theorem dlt_tr {x y z : PyData} (h : dataLt x z = true) : dataLt x y = true ∨ dataLt y z = true := lex_negTrans _ _ _ h
theorem dlt_as {x y : PyData} (h : dataLt x y = true) : dataLt y x = false := by
  cases e : dataLt y x with
  | false => rfl
  | true =>
    have := lex_trans _ _ _ h e
    rw [lex_irrefl] at this
    cases this
/-! ### monomials as data -/
theorem eqv_dv0 (u v : Dv) : PyData.eqv u.D v.D = decide (u = v) := by
  obtain ⟨n, i, j⟩ := u
  obtain ⟨n', i', j'⟩ := v
  unfold Dv.D
  rw [PyData.eqv, Bool.eq_iff_iff]
  simp [PyData.eqvAll, PyData.eqv]
theorem eqv_pw (x y : Dv × Int) : PyData.eqv (pwD x) (pwD y) = decide (x = y) := by
  obtain ⟨u, i⟩ := x
  obtain ⟨v, j⟩ := y
  unfold pwD
  rw [PyData.eqv, PyData.eqvAll, PyData.eqvAll, PyData.eqvAll, eqv_dv0, PyData.eqv, Bool.eq_iff_iff]
  simp
theorem eqv_pws : ∀ m n : Mo, PyData.eqvAll (m.map pwD) (n.map pwD) = decide (m = n)
  | [], [] => by simp [PyData.eqvAll]
  | [], y :: n => by simp [PyData.eqvAll]
  | x :: m, [] => by simp [PyData.eqvAll]
  | x :: m, y :: n => by
    rw [List.map_cons, List.map_cons, PyData.eqvAll, eqv_pw, eqv_pws m n, Bool.eq_iff_iff]
    simp
theorem eqv_mo (m n : Mo) : PyData.eqv (moD m) (moD n) = decide (m = n) := by
  unfold moD
  rw [PyData.eqv]
  exact eqv_pws m n
theorem dlt_ne {x y : PyData} (h : alike x y = true) (e : PyData.eqv x y = false) : dataLt x y = true ∨ dataLt y x = true := by
  cases a : dataLt x y with
  | true => exact .inl rfl
  | false =>
    cases b : dataLt y x with
    | true => exact .inr rfl
    | false =>
      exfalso
      have t : keyToks x = keyToks y := lex_total _ _ a b
      have := (toks_eqv x y h).2 e [.inl 0] [.inl 1]
      rw [t, lex_pre, lex_irrefl] at this
      revert this
      decide
/-! ### monomials as keys -/
theorem nk_pw (x : Dv × Int) : nk (pwD x) = .tup [nk x.1.D, .num x.2] := by simp [pwD, nk, nkAll]
theorem nkAll_inj : ∀ {m n : Mo}, nkAll (m.map pwD) = nkAll (n.map pwD) → m = n
  | [], [], _ => rfl
  | [], _ :: _, h => by simp [nkAll] at h
  | _ :: _, [], h => by simp [nkAll] at h
  | x :: m, y :: n, h => by
    rw [List.map_cons, List.map_cons, nkAll, nkAll] at h
    injection h with h1 h2
    rw [nk_pw, nk_pw] at h1
    injection h1 with h1
    injection h1 with h3 h4
    injection h4 with h4 _
    injection h4 with h4
    obtain ⟨u, i⟩ := x
    obtain ⟨v, j⟩ := y
    have := nk_inj h3
    simp_all
    exact nkAll_inj h2
theorem nkm_inj {m n : Mo} (h : nk (moD m) = nk (moD n)) : m = n := by
  unfold moD at h
  rw [nk, nk] at h
  injection h with h
  exact nkAll_inj h
theorem keyish_mo (m : Mo) : keyish (moD m) = true := by
  unfold moD
  rw [keyish]
  induction m with
  | nil => rfl
  | cons x m ih =>
    rw [List.map_cons, keyishAll, ih]
    simp [pwD, keyish, keyishAll, Dv.D]
theorem deep_nkm (m : Mo) : (nk (moD m)).depth ≤ 8 := by
  have : ∀ m : Mo, NestedKey.depthAll (nkAll (m.map pwD)) ≤ 5 := by
    intro m
    induction m with
    | nil => simp [nkAll, NestedKey.depthAll]
    | cons x m ih =>
      rw [List.map_cons, nkAll, NestedKey.depthAll, nk_pw, nk_dv]
      simp [NestedKey.depth, NestedKey.depthAll]
      omega
  unfold moD
  rw [nk, NestedKey.depth]
  have := this m
  omega
/-- what a dict from monomials to fractions holds, as the dict has it -/
def KM (K : PySem.W.Frag) : Po → List NV → Hp → Prop
  | [], [], _ => True
  | z :: zs, x :: xs, B => (x.1 = nk (moD z.1) ∧ (moP K z.1).P (.ref x.2.1) B ∧ (frP K z.2).P x.2.2 B) ∧ KM K zs xs B
  | [], _ :: _, _ => False
  | _ :: _, [], _ => False
def putZ (zs : Po) (m : Mo) (f : Fr) : Po := if m ∈ zs.map (·.1) then zs.map fun z => if z.1 = m then (z.1, f) else z else zs ++ [(m, f)]
section
variable {K : PySem.W.Frag} {B B' H : Hp}
theorem KM.m (e : Ex B B') : ∀ {zs : Po} {xs : List NV}, KM K zs xs B → KM K zs xs B'
  | [], [], _ => trivial
  | _ :: _, _ :: _, h => ⟨⟨h.1.1, (moP K _).m e h.1.2.1, (frP K _).m e h.1.2.2⟩, KM.m e h.2⟩
theorem KM.len : ∀ {zs : Po} {xs : List NV}, KM K zs xs B → xs.length = zs.length
  | [], [], _ => rfl
  | _ :: _, _ :: _, h => congrArg Nat.succ (KM.len h.2)
theorem KM.at : ∀ {zs : Po} {xs : List NV} {i : Nat} {x : NV}, KM K zs xs B → xs[i]? = some x → ∃ z, zs[i]? = some z ∧ x.1 = nk (moD z.1) ∧ (moP K z.1).P (.ref x.2.1) B ∧ (frP K z.2).P x.2.2 B
  | [], [], i, x, _, h => by simp at h
  | z :: _, y :: _, 0, x, h, e => by
    obtain rfl := Option.some.inj e
    exact ⟨z, rfl, h.1⟩
  | _ :: _, _ :: _, i + 1, x, h, e => KM.at (i := i) h.2 e
theorem KM.has (m : Mo) : ∀ {zs : Po} {xs : List NV}, KM K zs xs B → hasN xs (nk (moD m)) = decide (m ∈ zs.map (·.1))
  | [], [], _ => by simp [hasN]
  | z :: zs, x :: xs, h => by
    have ih := KM.has m h.2
    unfold hasN at *
    rw [List.any_cons, ih, h.1.1, List.map_cons, Bool.eq_iff_iff]
    simp only [Bool.or_eq_true, decide_eq_true_eq, List.mem_cons]
    constructor
    · rintro (a | a)
      · exact .inl (nkm_inj a).symm
      · exact .inr a
    · rintro (a | a)
      · exact .inl (by rw [a])
      · exact .inr a
theorem KM.app : ∀ {zs ys : Po} {xs us : List NV}, KM K zs xs B → KM K ys us B → KM K (zs ++ ys) (xs ++ us) B
  | [], _, [], _, _, h => h
  | _ :: _, _, _ :: _, _, a, h => ⟨a.1, KM.app a.2 h⟩
theorem KM.set {m : Mo} {f : Fr} {v : V} (hf : (frP K f).P v B) : ∀ {zs : Po} {xs : List NV}, KM K zs xs B → KM K (zs.map fun z => if z.1 = m then (z.1, f) else z) (xs.map fun x => if x.1 = nk (moD m) then (x.1, x.2.1, v) else x) B
  | [], [], _ => trivial
  | z :: zs, x :: xs, h => by
    refine ⟨?_, KM.set hf h.2⟩
    dsimp only
    by_cases e : z.1 = m
    · rw [if_pos e, if_pos (by rw [h.1.1, e])]
      exact ⟨h.1.1, h.1.2.1, hf⟩
    · rw [if_neg e, if_neg (fun k => e (nkm_inj (h.1.1.symm.trans k)))]
      exact h.1
theorem KM.put {m : Mo} {f : Fr} {a : Addr} {v : V} {zs : Po} {xs : List NV} (h : KM K zs xs B) (ha : (moP K m).P (.ref a) B) (hf : (frP K f).P v B) : KM K (putZ zs m f) (putN xs (nk (moD m)) a v) B := by
  unfold putZ putN
  rw [h.has m]
  by_cases e : m ∈ zs.map (·.1)
  · rw [if_pos e, decide_eq_true e, if_pos rfl]
    exact h.set hf
  · rw [if_neg e, decide_eq_false e, if_neg Bool.false_ne_true]
    exact h.app ⟨⟨rfl, ha, hf⟩, trivial⟩
theorem key_mo {m : Mo} {a : Addr} (h : (moP K m).P (.ref a) H) : KeyAt K H a (nk (moD m)) := ⟨moD m, to_mo m _ _ h, keyish_mo m, rfl, deep_nkm m⟩
theorem KM.ok {zs : Po} {xs : List NV} (h : KM K zs xs B) (e : Ex B H) : KeysOk K H xs := fun x hx => by
  obtain ⟨i, hi⟩ := List.mem_iff_getElem?.mp hx
  obtain ⟨z, _, h1, h2, _⟩ := (h.m e).at hi
  rw [h1]
  exact key_mo h2
end
end Nd
namespace Nd
set_option autoImplicit false
open PySem PySem.W L2 My Evl
/-! ### two lists under way -/
structure A2 (B H0 : Hp) (a b : Addr) (ps qs : List Pr) (C H : Hp) : Prop where
  g : Gr B H0 C (wo a (wo b H))
  fa : ∃ xs, H a = some (.lst xs) ∧ AllP ps xs C
  fb : ∃ ys, H b = some (.lst ys) ∧ AllP qs ys C
  ne : a ≠ b
section
variable {B H0 C H C2 H2 : Hp} {a b r : Addr} {ps qs ps' qs' : List Pr} {p : Pr} {xs ys zs : List V} {y : V}
theorem A2.ex (A : A2 B H0 a b ps qs C H) : Ex C H := (A.g.c.trans wo_ex).trans wo_ex
theorem A2.new (e : Ex B H) (ha : H a = none) (hb : upd H a (.lst []) b = none) : A2 B H a b [] [] B (upd (upd H a (.lst [])) b (.lst [])) := by
  have ne : a ≠ b := ne_of_none upd_same hb
  refine ⟨?_, ⟨[], by rw [upd_ne ne]; exact upd_same, trivial⟩, ⟨[], upd_same, trivial⟩, ne⟩
  rw [wo_new hb, wo_new ha]
  exact Gr.refl e
theorem A2.na (A : A2 B H0 a b ps qs C H) : C a = none ∧ C b = none := ⟨wo_none A.g.c, wo_none (A.g.c.trans wo_ex)⟩
theorem A2.step (A : A2 B H0 a b ps qs C H) (k : Gr C H C2 H2) : A2 B H0 a b ps qs C2 H2 := by
  obtain ⟨xs, hx, ax⟩ := A.fa
  obtain ⟨ys, hy, ay⟩ := A.fb
  have k1 : Gr C (wo b H) C2 (wo b H2) := (Gr.refl (A.g.c.trans wo_ex)).side (by rw [hy]; exact fun z => nomatch z) k
  have k2 : Gr B H0 C2 (wo a (wo b H2)) := A.g.side (by rw [wo_ne A.ne, hx]; exact fun z => nomatch z) k1
  exact ⟨k2, ⟨xs, k.a _ _ hx, ax.m k.b⟩, ⟨ys, k.a _ _ hy, ay.m k.b⟩, A.ne⟩
theorem A2.wide (A : A2 B H0 a b ps qs C H) (e : Ex H H2) : A2 B H0 a b ps qs C H2 := A.step (Gr.wide A.ex e)
theorem A2.fin (A : A2 B H0 a b ps qs C H) (ha : H0 a = none) (hb : H0 b = none) : ∃ C', Gr B H0 C' H ∧ (LsP ps).P (.ref a) C' ∧ (LsP qs).P (.ref b) C' := by
  obtain ⟨xs, hx, ax⟩ := A.fa
  obtain ⟨ys, hy, ay⟩ := A.fb
  obtain ⟨na, nb⟩ := A.na
  have e1 : Ex C (upd C a (.lst xs)) := Ex.new na
  have nb2 : (upd C a (.lst xs)) b = none := by rw [upd_ne A.ne.symm]; exact nb
  have e2 : Ex (upd C a (.lst xs)) (upd (upd C a (.lst xs)) b (.lst ys)) := Ex.new nb2
  refine ⟨upd (upd C a (.lst xs)) b (.lst ys), ⟨(A.g.a.trans wo_ex).trans wo_ex, A.g.b.trans (e1.trans e2), fun x o e => ?_, fun x h1 h2 => ?_, fun z x qs' q => ?_⟩, ⟨a, xs, rfl, e2 _ _ upd_same, ax.m (e1.trans e2)⟩, ⟨b, ys, rfl, upd_same, ay.m (e1.trans e2)⟩⟩
  · by_cases n : x = b
    · subst n
      rw [upd_same] at e
      rw [hy]
      exact e
    · rw [upd_ne n] at e
      by_cases m : x = a
      · subst m
        rw [upd_same] at e
        rw [hx]
        exact e
      · rw [upd_ne m] at e
        exact A.ex x o e
  · rw [upd_ne (fun z => h2 (by rw [z]; exact hb)), upd_ne (fun z => h2 (by rw [z]; exact ha))]
    exact A.g.d x h1 h2
  · by_cases n : x = b
    · subst n
      rw [upd_same] at q
      cases q
    · rw [upd_ne n] at q
      by_cases m : x = a
      · subst m
        rw [upd_same] at q
        cases q
      · rw [upd_ne m] at q
        exact A.g.e z x qs' q
end
/-! ### x is True -/
section
variable {X : Cx}
end
end Nd
namespace L2
set_option autoImplicit false
open PySem PySem.Spec PyProof.Rows
/-! ### exceptions that were raised, as values -/
section
variable {X : Cx} {pins : List (Addr × Obj)} {σ : St} {H : Hp} {s : Shared}
/-- an exception that stands in the heap is known from now on -/
theorem Inv.track {a C : Addr} {d : Option Addr} {oe : Obj} {vs : Array Value} (I : Inv X pins σ H s) (ea : s.heap.get? a = some oe) (z : Zc (.ref C) d oe) (f : oe.data = .fields vs) (na : H a = none) (n0 : X.s_0.heap.get? a = none) (nl : a ≠ X.env.locals) (np : ∀ p ∈ X.pn ++ pins, p.1 ≠ a) : Inv X pins σ (upd H a (exw a C d)) s := by
  have far : ∀ b u, H b = some u → b ≠ a := fun b u e q => by
    rw [q, na] at e
    cases e
  have old : ∀ b o, X.s_0.heap.get? b = some o → b ≠ a := fun b o e q => by
    rw [q, n0] at e
    cases e
  have U : Un X.fs X.ex X.H_0 (upd H a (exw a C d)) X.s_0.heap s.heap :=
    { keep := I.base.keep
      slot := I.base.slot
      free := fun b o e n hx => by
        rw [upd_ne (old b o e)]
        exact I.base.free b o e n hx
      there := I.base.there
      tups := fun b xs e => by
        have t := I.base.tups b xs e
        rw [upd_ne (far b _ t)]
        exact t
      frzs := fun b o u e => by
        have t := I.base.frzs b o u e
        rw [upd_ne (far b _ t)]
        exact t
      tbls := fun b ps e => by
        obtain ⟨m, t⟩ := I.base.tbls b ps e
        exact ⟨m, by rw [upd_ne (far b _ t)]; exact t⟩ }
  refine ⟨I.ok, I.os, I.bare, U, I.loc, I.cell, by rw [upd_ne nl.symm]; exact I.free, fun x c e => ?_, fun p hp => ?_, I.hok.laidN (fun _ _ e => e) na (exw_ok ea z f), I.len⟩
  · rw [upd_ne]
    · exact I.freeC x c e
    · intro q
      obtain ⟨v, o, h1, h2⟩ := I.cell x c e
      rw [q, ea] at h1
      cases h1
      rw [f] at h2
      cases h2
  · obtain ⟨h1, h2, h3, h4, h5⟩ := I.pin p hp
    exact ⟨h1, by rw [upd_ne (np p hp)]; exact h2, h3, h4, h5⟩
end
/-- what the clause «except x as n: m = n» wishes of an exception of the body -/
def wKeep (K : PySem.W.Frag) (c : Value) (N i j : Nat) (Wout : WX) (D : Ends) : WX := fun cls d σ H =>
  ∃ b, PySem.W.exmOne K cls c = some b ∧ (b = true → ∃ C, cls = .ref C ∧ (σ.length = N → ∀ a, H a = none → D.nx (((σ.set i (some (.ref a))).set j (some (.ref a))).set i none) (upd H a (exw a C d)))) ∧ (b = false → Wout cls d σ H)
section
variable {X : Cx} {x n m : Str} {c : Value} {i j : Nat} {body : List Stmt} {np pos pos' q1 q2 q3 : Pos} {tb : WX → TS} {Wout : WX}
/-- try: .. except x as n: m = n -/
theorem ps_try_keep (hst : X.stack = X.env :: X.outer) (hfm : X.env.frame = some X.env.locals) (hex : X.ex = []) (hN : X.N.Nodup) (hi : X.N[i]? = some n) (hj : X.N[j]? = some m) (hln : X.env.kindOf n = some .local) (hlm : X.env.kindOf m = some .local) (hc : Names X x c) (tk : Takes X Wout)
    (hii : ∀ σ : St, σ.length = X.N.length → (σ.set i (some (V.ref 0)))[i]? = some (some (V.ref 0))) (hdn : (n == ("__debug__" : Str)) = false := by decide) (hcn : (n == ("__classdict__" : Str)) = false := by decide)
    (hsw : swapsWith (.Name n q2) (some (.Name m q1)) q3.line X.env = pure false)
    (hb : ∀ (W : WX) (pn : List (Addr × Obj)) (xe : Value → Shared → Prop), Takes (X.tr pn xe) W → PassesOwn (model X.prog X.w) X.A X.env xe → PSs (X.tr pn xe) body (tb W)) :
    PS X (.Try body [.ExceptHandler (some (.Name x np)) (some n) [.Assign [.Name m q1] (.Name n q2) q3] pos'] [] [] pos) (fun D σ H => tb (wKeep X.K c X.N.length i j Wout D) D σ H) := by
  refine ⟨fun pins s σ H D I h => ?_⟩
  have ok := I.ok
  have frames : X.A.frames = some (X.env :: X.outer) := ok.frames.trans (congrArg some hst)
  refine wpAny_Try_except (wpAny_mono ((hb (wKeep X.K c X.N.length i j Wout D) (X.pn ++ pins) _ (fun u s' air => ?_) PassesOwn.looking).run [] s σ H D (I.toTry _) h) (fun fl s1 done => ?_) fun _ _ z => z)
  · obtain ⟨a, B, sI, pinsI, σ', H', cls, d, rfl, JI, ground, up, sky, na, os, ag, b, asked, yes, no⟩ := air
    have J : Inv X pins σ' H' sI := JI.ofTry ok
    show wpAny (model X.prog X.w) X.A (noteFrame (.ref a) X.env) _ _ _
    refine Sky.land Zc.steady frames hfm (by rw [← hst]; exact sky) fun h3 fly up3 => ?_
    have J3 : Inv X pins σ' H' { s' with heap := h3 } := J.landed ground fly.1 (up.trans up3) os ag
    obtain ⟨o3, v3, e3, z3, d3⟩ := fly.there
    have noFrame : a ∉ frs (X.env :: X.outer) := fun mem => by
      obtain ⟨_, o', e', ns⟩ := fly.2.2.1.mem mem
      rw [e3] at e'
      cases e'
      exact ns _ d3
    have nL : a ≠ X.env.locals := fun z => noFrame (List.mem_filterMap.mpr ⟨X.env, List.mem_cons_self, hfm.trans (congrArg some z.symm)⟩)
    have nF : a ∉ X.fs := fun mem => by
      obtain ⟨e, he, q⟩ := List.mem_filterMap.mp mem
      exact noFrame (List.mem_filterMap.mpr ⟨e, List.mem_cons_of_mem _ he, q⟩)
    -- it is new
    have notI : sI.heap.get? a = none := by
      cases e : sI.heap.get? a with
      | none => rfl
      | some o =>
        have g := ground a o e (by rw [hst]; exact noFrame)
        rw [fly.2.1] at g
        cases g
    have not0 : X.s_0.heap.get? a = none := by
      cases e : X.s_0.heap.get? a with
      | none => rfl
      | some o =>
        obtain ⟨o', g⟩ := J.base.there a o e (by rw [hex]; exact List.not_mem_nil)
        rw [notI] at g
        cases g
    have notP : ∀ p ∈ X.pn ++ pins, p.1 ≠ a := fun p hp z => by
      have g := (J.pin p hp).1
      rw [z, notI] at g
      cases g
    have S3 := J3.suite e3 d3 na nL nF
    refine wpAny_handleBy_cons (codeAny_handlers_test ?_) (fun q => nomatch q)
    have looksT : PySem.W.Looks (model X.prog X.w) h3 (typeOf (.ref a)) cls := fun A Q E s k q => wpAny_typeOf_ref (k _ _ e3) (by rw [z3.1]; exact q)
    have looksM := PySem.W.exm_one (M := model X.prog X.w) J3.kIn looksT asked
    have nameOf : ∀ {Q : Value → Shared → Prop} {E : Value → Shared → Prop}, Q c { s' with heap := h3 } → wpAny (model X.prog X.w) (X.A.mark (some (.ref a))) (eval (.Name x np) X.env) Q E { s' with heap := h3 } := fun {Q E} q => by
      obtain ⟨hg, hdbg, hm | ⟨hm, hv, hnn⟩⟩ := hc
      · exact ld_glob (X := X.suite a ((a, o3) :: (X.pn ++ pins))) S3 hg hm q hdbg
      · exact ld_blt (X := X.suite a ((a, o3) :: (X.pn ++ pins))) S3 hg hm hv q hnn hdbg
    refine nameOf (looksM.here ?_)
    cases b with
    | true =>
      obtain ⟨C, rfl, yes2⟩ := yes rfl
      refine codeAny_handlers_suite_as (HandSPX.lands_againZ fly fun h4 fly4 up4 => ?_)
      have J4 : Inv X pins σ' H' { s' with heap := h4 } := J.landed ground fly4.1 ((up.trans up3).trans up4) os ag
      obtain ⟨o4, v4, e4, z4, d4⟩ := fly4.there
      have S4 := J4.suite e4 d4 na nL nF
      refine store_ok (X := X.suite a ((a, o4) :: (X.pn ++ pins))) (v := .ref a) S4 hN hi (.inl hln) rfl (fun s5 S5 => ?_) (.inr hln)
      let D5 : Ends := { nx := fun σ6 H6 => σ6 = (σ'.set i (some (.ref a))).set j (some (.ref a)) ∧ H6 = H', rt := fun _ _ => False }
      have suite : PSs (X.suite a ((a, o4) :: (X.pn ++ pins))) [.Assign [.Name m q1] (.Name n q2) q3] _ :=
        pss_one (ps_set (X := X.suite a ((a, o4) :: (X.pn ++ pins))) (i := j) hN hj (.inl hlm) (pe_var (X := X.suite a ((a, o4) :: (X.pn ++ pins))) (i := i) hi (.inl hln) hdn hcn) hsw (.inr hlm))
      have at_i : (σ'.set i (some (V.ref a)))[i]? = some (some (V.ref a)) := by
        have l := hii σ' J.len
        have lt : i < σ'.length := by
          by_cases q : i < σ'.length
          · exact q
          · rw [List.getElem?_eq_none (by rw [List.length_set]; omega)] at l
            cases l
        rw [List.getElem?_set_self lt]
      refine wpAny_mono (suite.run [] s5 _ H' D5 S5 ⟨.ref a, at_i, rfl, rfl⟩) (fun fl s6 done => ?_) fun _ _ z => False.elim z
      cases fl with
      | next =>
        obtain ⟨σ6, H6, S6, r1, r2⟩ := done
        subst r1 r2
        obtain ⟨p1, p2, _⟩ := S6.pin (a, o4) (List.mem_append_left _ List.mem_cons_self)
        have J6 := (S6.unsuite ok).track p1 z4 d4 p2 not0 nL notP
        exact gone_ok J6 hN hi hln fun s7 J7 => ⟨_, _, J7, yes2 J.len a na⟩
      | brk =>
        obtain ⟨_, _, _, z⟩ := done
        exact False.elim z
      | cont =>
        obtain ⟨_, _, _, z⟩ := done
        exact False.elim z
      | ret u =>
        obtain ⟨_, _, _, _, _, z⟩ := done
        exact False.elim z
    | false =>
      show wpAny _ X.A (handleBy (.ref a) X.env []) _ _ _
      refine wpAny_handleBy_nil ?_
      obtain ⟨_, _, _, oe, vs, T, oT, ts', he, hz, hd, hT, _⟩ := id fly
      unfold PySem.passOn
      refine wpAny_bind (wpAny_field he hd hT ?_)
      rw [if_neg (show ¬ ((Value.ref T == Value.none) = true) from by simp)]
      have last : wpAny (model X.prog X.w) X.A (setFlight (.ref a) X.env.frame) (fun _ s4 => wpAny (model X.prog X.w) X.A (throw (.ref a) : Sem Flow) (SP X pins D) X.xe s4) X.xe { s' with heap := h3 } := by
        rw [hfm]
        exact HandSPX.setFlight_upZ fly fun h4 held up4 => wpAny_throw (tk _ _ ⟨a, B, sI, pins, σ', H', cls, d, rfl, J, ground, (up.trans up3).trans up4, .inr (.inr (by rw [hst]; exact held)), na, os, ag, no rfl⟩)
      first
        | exact wpAny_bind (wpAny_pure (wpAny_bind last))
        | exact wpAny_bind last
  · cases fl with
    | next =>
      obtain ⟨σ', H', J', q⟩ := done
      exact wpAny_execs_nil ⟨σ', H', J'.ofTry ok, q⟩
    | brk =>
      obtain ⟨σ', H', J', q⟩ := done
      exact ⟨σ', H', J'.ofTry ok, q⟩
    | cont =>
      obtain ⟨σ', H', J', q⟩ := done
      exact ⟨σ', H', J'.ofTry ok, q⟩
    | ret u =>
      obtain ⟨v, σ', H', J', r, q⟩ := done
      exact ⟨v, σ', H', J'.ofTry ok, r, q⟩
end
end L2
namespace L2
set_option autoImplicit false
open PySem PySem.Spec PyProof.Rows
section
variable {X : Cx} {e : Expr} {te : TE}
/-- what gives a new own exception makes one that is raised -/
theorem pmk_val (hx : X.ex = []) (he : PE X e te) : PMk X e (fun σ H Q => te σ H fun x H1 => ∃ (a C : Addr) (d : Option Addr), x = .ref a ∧ H1 a = some (exo a C d) ∧ Fr0 X.H_0 a ∧ Raises X (.ref C) ∧ Q (.ref C) d (delH H1 a)) := by
  intro pins s σ H Q I h
  refine wpAny_mono (he.run pins s σ H _ I h) (fun u s1 done => ?_) fun _ _ z => z
  obtain ⟨v, H1, I1, r1, a, C, d, rfl, ha, h0, hr, q⟩ := done
  obtain rfl : u = Value.ref a := r1
  obtain ⟨t1, ho⟩ := exo_at I1.hok ha
  obtain ⟨G, gs, ga, J⟩ := I1.untrack (φ := fun h => ∃ t1 : Addr, h.get? a = some ({ cls := .ref C, dict := d, data := .fields #[.ref t1, .none, .none, .none, .bool false, .none] } : Obj)) ha h0 hx
  exact ⟨a, _, _, { s1 with heap := G }, delH H1 a, .ref C, d, rfl, J, gs, ga, ho, ⟨rfl, rfl⟩, rfl, rfl, delH_same, rfl, I1.bare, hr, q⟩
end
end L2
namespace Nd
set_option autoImplicit false
open PySem PySem.W L2 My Evl LamX
/-- how a def may end: what is known of what it tells, or the class and the fields of what it raises -/
inductive Out
  | ret (p : Pr)
  | exc (C : Addr) (fs : List (Str × Pr))
/-- of the dict of an exception with such fields -/
def ExcD (fs : List (Str × Pr)) (d : Option Addr) (B : Hp) : Prop := match fs with
  | [] => d = none
  | f :: r => ∃ (dx : Addr) (vs : List (Str × V)), d = some dx ∧ B dx = some (exd dx vs) ∧ vs.map Prod.fst = (f :: r).map Prod.fst ∧ AllP ((f :: r).map Prod.snd) (vs.map Prod.snd) B
theorem ExcD.m {fs : List (Str × Pr)} {d : Option Addr} {B B' : Hp} (e : Ex B B') (h : ExcD fs d B) : ExcD fs d B' := by
  match fs, h with
  | [], h => exact h
  | _ :: _, ⟨dx, vs, h1, h2, h3, h4⟩ => exact ⟨dx, vs, h1, e _ _ h2, h3, h4.m e⟩
def OutOk (o : Out) (B H : Hp) (Q : VK) (E : XK) : Prop := match o with
  | .ret p => ∀ v B' H', Gr B H B' H' → p.P v B' → Q v H'
  | .exc C fs => ∀ d B' H', Gr B H B' H' → ExcD fs d B' → E (.ref C) d H'
def OutT (T : List (Addr × Str)) (o : Out) (B H : Hp) (Q : VK) (E : XK) : Prop := match o with
  | .ret p => ∀ v B' H', GT T B H B' H' → p.P v B' → Q v H'
  | .exc C fs => ∀ d B' H', GT T B H B' H' → ExcD fs d B' → E (.ref C) d H'
/-- what a def promises that may raise | that may raise, and fills tables -/
def spO (R : List Pr → Out → Prop) : Sp := fun vs H Q E => ∃ B ps o, Ex B H ∧ AllP ps vs B ∧ R ps o ∧ OutOk o B H Q E
theorem spO_len {R : List Pr → Out → Prop} {n : Nat} (h : ∀ ps o, R ps o → ps.length = n) : ∀ vs H Q E, spO R vs H Q E → vs.length = n := fun vs H Q E ⟨B, ps, p, _, a, b, _⟩ => by rw [a.len]; exact h _ _ b
section
variable {T : List (Addr × Str)} {R : List Pr → Out → Prop} {t : TA} {σ : L2.St} {B H : Hp} {ps : List Pr} {o : Out} {Q : VK} {E : L2.St → XK} {D : Ends}
/-- such a call -/
theorem o_call (e : Ex B H) (h : EvPs t σ B ps) (hr : R ps o) (q : OutOk o B H Q (E σ)) : tCallS (spO R) E t σ H Q :=
  h H e _ fun vs B2 H2 g b => ⟨B2, ps, o, g.c, b, hr, by
    cases o with
    | ret p => exact fun v B3 H3 g3 hp => q v B3 H3 (g.trans g3) hp
    | exc C fs => exact fun d B3 H3 g3 hd => q d B3 H3 (g.trans g3) hd⟩
theorem OutOk.to {o : Out} {B H B2 H2 : Hp} {Q : VK} {E : XK} (g : Gr B H B2 H2) (q : OutOk o B H Q E) : OutOk o B2 H2 Q E := by
  cases o with
  | ret p => exact fun v B3 H3 g3 hp => q v B3 H3 (g.trans g3) hp
  | exc C fs => exact fun d B3 H3 g3 hd => q d B3 H3 (g.trans g3) hd
theorem OutT.to {o : Out} {B H B2 H2 : Hp} {Q : VK} {E : XK} (g : GT T B H B2 H2) (q : OutT T o B H Q E) : OutT T o B2 H2 Q E := by
  cases o with
  | ret p => exact fun v B3 H3 g3 hp => q v B3 H3 (g.trans g3) hp
  | exc C fs => exact fun d B3 H3 g3 hd => q d B3 H3 (g.trans g3) hd
/-- of no tables -/
theorem OutT.ok {o : Out} {B H : Hp} {Q : VK} {E : XK} (q : OutT T o B H Q E) : OutOk o B H Q E := by
  cases o with
  | ret p => exact fun v B3 H3 g3 hp => q v B3 H3 (GT.gr g3) hp
  | exc C fs => exact fun d B3 H3 g3 hd => q d B3 H3 (GT.gr g3) hd
end
/-- a class whose instances are raised -/
structure RC (K : PySem.W.Frag) (C : Addr) : Prop where
  b : PySem.W.subIn K (.ref C) (.type "BaseException") = some true
  t : PySem.W.typeIn K (.ref C) = some (.type "type")
theorem RC.r {X : Cx} {C : Addr} (h : RC X.K C) : Raises X (.ref C) := raises_own h.b h.t
section
variable {X : Cx} {t tk : TA} {σ : L2.St} {B H H0 : Hp} {p : Pr} {C : Addr} {f : Str} {n m : Nat} {gV : List V → List V → List V} {Q : XK}
/-- raise C(..), C with an __init__ of one field -/
theorem x_raise1 {ps zs : List Pr} (rc : Raises X (.ref C)) (e : Ex B H) (h0 : Ex H0 H) (h : EvPs t σ B ps) (hk : EvPs tk σ B zs) (hn : ps.length = n) (hm : zs.length = m) (hg : ∀ (a : Addr) (vs ws : List V) (B1 : Hp), AllP ps vs B1 → AllP zs ws B1 → ∃ v, gV (.ref a :: vs) ws = [.ref a, v] ∧ p.P v B1)
    (q : ∀ d B' H', Gr B H B' H' → ExcD [(f, p)] d B' → Q (.ref C) d H') :
    tXNewN C n m (spI1 C f) gV t tk σ H fun x H1 => ∃ (a C' : Addr) (d : Option Addr), x = .ref a ∧ H1 a = some (exo a C' d) ∧ Fr0 H0 a ∧ Raises X (.ref C') ∧ Q (.ref C') d (delH H1 a) :=
  h H e _ fun vs B2 H2 g2 b2 => hk H2 (g2.b.trans g2.c) _ fun ws B3 H3 g3 b3 => ⟨by rw [b2.len, hn], by rw [b3.len, hm], fun a ha => by
    have gj := g2.join g3
    obtain ⟨v, ev, pv⟩ := hg a vs ws (both B2 B3) (b2.m both_l) (b3.m (both_r (g2.c.trans g3.a) g3.c))
    refine ⟨a, v, ev, upd_same, fun dx hd ne => ⟨rfl, a, C, some dx, rfl, upd_same, fr0_none ?_, rc, ?_⟩⟩
    · cases z : H0 a with
      | none => rfl
      | some o =>
        have := gj.a _ _ (h0 _ _ z)
        rw [ha] at this
        cases this
    · have hdx : H3 dx = none := by
        rw [← upd_ne (H := H3) (o := exo a C none) ne]
        exact hd
      have same : delH (upd (upd (upd H3 a (exo a C none)) dx (exd dx [(f, v)])) a (exo a C (some dx))) a = upd H3 dx (exd dx [(f, v)]) := funext fun b => by
        by_cases n1 : b = a
        · subst n1
          rw [delH_same, upd_ne ne.symm, ha]
        · rw [delH_ne n1, upd_ne n1]
          by_cases n2 : b = dx
          · subst n2
            rw [upd_same, upd_same]
          · rw [upd_ne n2, upd_ne n1, upd_ne n2]
      rw [same]
      have gn := Gr.new (.ext fun h => ∃ mA, h.Ns1 dx mA ∧ ∀ g, RelO ([(f, v)].lookup g) (mA g)) gj.c hdx
      exact q (some dx) _ _ (gj.trans gn) ⟨dx, [(f, v)], rfl, upd_same, rfl, p.m gn.b pv, trivial⟩⟩
end
end Nd
namespace Nd
open PySem PySem.W L2 My Evl LamX
set_option autoImplicit false
def testsOf (cx : Nat → Addr) : List Value := [.ref (cx 0), .ref (cx 1), .ref (cx 2), .ref (cx 3), .ref (cx 4), .ref (cx 5), .ref (cx 6), .ref (cx 12), .ref (cx 13), .ref (cx 14), .ref (cx 7), .ref (cx 8), .ref (cx 9), .ref (cx 15), .ref (cx 10), .ref (cx 11), .ref (cx 16), .type "ValueError", .ref (cx 17), .type "LookupError", .ref (cx 18), .type "RuntimeError"]
def nmOf : List Str := ["row", "polynomial", "ranking", "chain", "data", "jet", "paper", "twice", "place", "great", "unknown", "equation", "case", "nothing", "contradicted", "knotted", "ours", "value", "miss", "lookup", "end", "runtime"]
def kb : Nat → List Bool
  | 0 => [true, false, false, false, false, false, false, false, false, false, false, false, false, false, false, false, true, true, false, false, false, false]
  | 1 => [false, true, false, false, false, false, false, false, false, false, false, false, false, false, false, false, true, true, false, false, false, false]
  | 2 => [false, false, true, false, false, false, false, false, false, false, false, false, false, false, false, false, true, true, false, false, false, false]
  | 3 => [false, false, false, true, false, false, false, false, false, false, false, false, false, false, false, false, true, true, false, false, false, false]
  | 4 => [false, false, false, false, true, false, false, false, false, false, false, false, false, false, false, false, true, true, false, false, false, false]
  | 5 => [false, false, false, false, false, true, false, false, false, false, false, false, false, false, false, false, true, true, false, false, false, false]
  | 6 => [false, false, false, false, false, false, true, false, false, false, false, false, false, false, false, false, true, true, false, false, false, false]
  | 7 => [false, false, false, false, false, false, false, false, false, false, true, false, false, false, false, false, false, false, true, true, false, false]
  | 8 => [false, false, false, false, false, false, false, false, false, false, false, true, false, false, false, false, false, false, true, true, false, false]
  | 9 => [false, false, false, false, false, false, false, false, false, false, false, false, true, false, false, false, false, false, true, true, false, false]
  | 10 => [false, false, false, false, false, false, false, false, false, false, false, false, false, false, true, false, false, false, false, false, true, true]
  | 11 => [false, false, false, false, false, false, false, false, false, false, false, false, false, false, false, true, false, false, false, false, true, true]
  | 12 => [false, false, false, false, false, false, false, true, false, false, false, false, false, false, false, false, true, true, false, false, false, false]
  | 13 => [false, false, false, false, false, false, false, false, true, false, false, false, false, false, false, false, true, true, false, false, false, false]
  | 14 => [false, false, false, false, false, false, false, false, false, true, false, false, false, false, false, false, true, true, false, false, false, false]
  | 15 => [false, false, false, false, false, false, false, false, false, false, false, false, false, true, false, false, false, false, true, true, false, false]
  | _ => []
def bmI : Nat → List Value
  | 0 => [.type "ValueError", .type "Exception", .type "BaseException", .type "object"]
  | 1 => [.type "ValueError", .type "Exception", .type "BaseException", .type "object"]
  | 2 => [.type "ValueError", .type "Exception", .type "BaseException", .type "object"]
  | 3 => [.type "ValueError", .type "Exception", .type "BaseException", .type "object"]
  | 4 => [.type "ValueError", .type "Exception", .type "BaseException", .type "object"]
  | 5 => [.type "ValueError", .type "Exception", .type "BaseException", .type "object"]
  | 6 => [.type "ValueError", .type "Exception", .type "BaseException", .type "object"]
  | 7 => [.type "LookupError", .type "Exception", .type "BaseException", .type "object"]
  | 8 => [.type "LookupError", .type "Exception", .type "BaseException", .type "object"]
  | 9 => [.type "LookupError", .type "Exception", .type "BaseException", .type "object"]
  | 10 => [.type "RuntimeError", .type "Exception", .type "BaseException", .type "object"]
  | 11 => [.type "RuntimeError", .type "Exception", .type "BaseException", .type "object"]
  | 12 => [.type "ValueError", .type "Exception", .type "BaseException", .type "object"]
  | 13 => [.type "ValueError", .type "Exception", .type "BaseException", .type "object"]
  | 14 => [.type "ValueError", .type "Exception", .type "BaseException", .type "object"]
  | 15 => [.type "LookupError", .type "Exception", .type "BaseException", .type "object"]
  | _ => []
def nwI : Nat → String
  | 0 => "ValueError.__new__"
  | 1 => "ValueError.__new__"
  | 2 => "ValueError.__new__"
  | 3 => "ValueError.__new__"
  | 4 => "ValueError.__new__"
  | 5 => "ValueError.__new__"
  | 6 => "ValueError.__new__"
  | 7 => "LookupError.__new__"
  | 8 => "LookupError.__new__"
  | 9 => "LookupError.__new__"
  | 10 => "RuntimeError.__new__"
  | 11 => "RuntimeError.__new__"
  | 12 => "ValueError.__new__"
  | 13 => "ValueError.__new__"
  | 14 => "ValueError.__new__"
  | 15 => "LookupError.__new__"
  | _ => ""
/-- the module's classes: where they stand, what is known of them -/
structure XT (K : PySem.W.Frag) (mg : Str → Option Value) (cx : Nat → Addr) : Prop where
  xc : ∀ i, i < 16 → XC K (cx i) (bmI i) (nwI i)
  qc : ∀ i, i < 16 → 12 ≤ i → PySem.W.excIn K (cx i) (bmI i) (nwI i) = true
  f_0_row : PySem.W.findIn K (.ref (cx 0)) "row" = some none
  f_0_word : PySem.W.findIn K (.ref (cx 0)) "word" = some none
  f_1_number : PySem.W.findIn K (.ref (cx 1)) "number" = some none
  f_2_place : PySem.W.findIn K (.ref (cx 2)) "place" = some none
  f_3_place : PySem.W.findIn K (.ref (cx 3)) "place" = some none
  f_4_place : PySem.W.findIn K (.ref (cx 4)) "place" = some none
  f_5_place : PySem.W.findIn K (.ref (cx 5)) "place" = some none
  f_6_place : PySem.W.findIn K (.ref (cx 6)) "place" = some none
  f_7_name : PySem.W.findIn K (.ref (cx 7)) "name" = some none
  f_8_number : PySem.W.findIn K (.ref (cx 8)) "number" = some none
  f_9_number : PySem.W.findIn K (.ref (cx 9)) "number" = some none
  f_10_number : PySem.W.findIn K (.ref (cx 10)) "number" = some none
  f_11_number : PySem.W.findIn K (.ref (cx 11)) "number" = some none
  kt : ∀ i, i < 16 → (testsOf cx).map (PySem.W.kitOne K (.ref (cx i))) = (kb i).map some
  g_BadRow : mg "BadRow" = some (.ref (cx 0))
  g_BadPolynomial : mg "BadPolynomial" = some (.ref (cx 1))
  g_BadRanking : mg "BadRanking" = some (.ref (cx 2))
  g_BadChain : mg "BadChain" = some (.ref (cx 3))
  g_BadData : mg "BadData" = some (.ref (cx 4))
  g_BadJet : mg "BadJet" = some (.ref (cx 5))
  g_BadPaper : mg "BadPaper" = some (.ref (cx 6))
  g_NoUnknown : mg "NoUnknown" = some (.ref (cx 7))
  g_NoEquation : mg "NoEquation" = some (.ref (cx 8))
  g_NoCase : mg "NoCase" = some (.ref (cx 9))
  g_Contradicted : mg "Contradicted" = some (.ref (cx 10))
  g_Knotted : mg "Knotted" = some (.ref (cx 11))
  g_Twice : mg "Twice" = some (.ref (cx 12))
  g_OutOfPlace : mg "OutOfPlace" = some (.ref (cx 13))
  g_TooGreat : mg "TooGreat" = some (.ref (cx 14))
  g_Nothing : mg "Nothing" = some (.ref (cx 15))
  g_ChainError : mg "ChainError" = some (.ref (cx 16))
  g_MissError : mg "MissError" = some (.ref (cx 17))
  g_CaseError : mg "CaseError" = some (.ref (cx 18))
  n_isinstance : mg "isinstance" = none
  n_ValueError : mg "ValueError" = none
  n_LookupError : mg "LookupError" = none
  n_RuntimeError : mg "RuntimeError" = none
theorem kb_len {i : Nat} (hi : i < 16) : (kb i).length = 22 := (by decide : ∀ i, i < 16 → (kb i).length = 22) i hi
theorem XT.k {K : PySem.W.Frag} {mg : Str → Option Value} {cx : Nat → Addr} (T : XT K mg cx) {i : Nat} (hi : i < 16) (j : Nat) (hj : j < 22) : PySem.W.kitOne K (.ref (cx i)) ((testsOf cx).getD j .none) = some ((kb i).getD j false) := by
  have h := congrArg (fun l => l[j]?) (T.kt i hi)
  have l1 : j < (testsOf cx).length := hj
  have l2 : j < (kb i).length := by rw [kb_len hi]; exact hj
  simp only [List.getElem?_map, List.getElem?_eq_getElem l1, List.getElem?_eq_getElem l2, Option.map_some] at h
  rw [List.getD_eq_getElem?_getD, List.getD_eq_getElem?_getD, List.getElem?_eq_getElem l1, List.getElem?_eq_getElem l2]
  exact Option.some.inj h
/-- what is told of the kinds of the i-th -/
def kinds (i : Nat) : List Str := ((List.range 22).filter fun j => (kb i).getD j false).map fun j => nmOf.getD j Str.empty
def txts (l : List Str) : Pr := LsP (l.map fun x => IsV (.str x))
def spKinds (cx : Nat → Addr) : Sp := fun vs H Q _ => ∃ (i : Nat) (v : V) (B : Hp), i < 16 ∧ vs = [v] ∧ Ex B H ∧ (XK (cx i)).P v B ∧ ∀ u B' H', Gr B H B' H' → (txts (kinds i)).P u B' → Q u H'
section
variable {P : Program} {w : World} {K : PySem.W.Frag} {mg : Str → Option Value} {base : Heap}
def tPair (K : PySem.W.Frag) (nm : Str) (c : V) : TE := tTup (tCons (tC (.str nm)) (tCons (tCB (rXIs K) (tCons (tVar 0) (tCons (tC c) tNil))) tNil))
def prPair (K : PySem.W.Frag) (i j : Nat) : Pr := TuP K [IsV (.str (nmOf.getD j Str.empty)), IsV (.bl ((kb i).getD j false))]
theorem p_pair {cx : Nat → Addr} (T : XT K mg cx) {i : Nat} (hi : i < 16) (j : Nat) (hj : j < 22) {c : V} {σ : L2.St} {H : Hp} {v : V} (h0 : σ[0]? = some (some v)) (hv : (XK (cx i)).P v H) (hc : ∀ u, RelV c u → u = (testsOf cx).getD j .none) :
    EvP (tPair K (nmOf.getD j Str.empty) c) σ H (prPair K i j) :=
  p_tup (q_cons p_c (q_cons (p_xis (T.xc i hi) (p_var h0 hv) p_c hc (T.k hi j hj)) q_nil)) (by show 2 ≤ 100000; decide)
end
/-- what is known of an exception with such fields -/
def excP (C : Addr) (fs : List (Str × Pr)) : Pr := match fs with
  | [] => X0 C
  | f :: r => XF C (f :: r)
theorem exc_k {C : Addr} {fs : List (Str × Pr)} {v : V} {H : Hp} (h : (excP C fs).P v H) : (XK C).P v H := by
  match fs, h with
  | [], h => exact xk_0 h
  | _ :: _, h => exact xk_f h
/-- a caught exception that is kept: from B within H -/
theorem exc_grow {B H : Hp} {a C : Addr} {d : Option Addr} {fs : List (Str × Pr)} (e : Ex B H) (na : H a = none) (hd : ExcD fs d B) : ∃ B', Gr B H B' (upd H a (exw a C d)) ∧ (excP C fs).P (.ref a) B' := by
  have g : Gr B H (upd B a (exw a C d)) (upd H a (exw a C d)) := Gr.new (exw a C d) e na
  refine ⟨_, g, ?_⟩
  cases fs with
  | nil =>
    obtain rfl : d = none := hd
    exact ⟨a, rfl, .inr upd_same⟩
  | cons f r =>
    obtain ⟨dx, vs, rfl, h2, h3, h4⟩ := hd
    exact ⟨a, dx, vs, rfl, .inr upd_same, g.b _ _ h2, h3, h4.m g.b⟩
theorem told_eq : ∀ i, i < 16 → PyData.eqv (.list ((kinds i).map .str)) (.list [.str "ranking", .str "ours", .str "value"]) = decide (i = 2) ∧ PyData.eqv (.list ((kinds i).map .str)) (.list [.str "chain", .str "ours", .str "value"]) = decide (i = 3) ∧ PyData.eqv (.list ((kinds i).map .str)) (.list [.str "polynomial", .str "ours", .str "value"]) = decide (i = 1) ∧ SeqAt.shaped (.list ((kinds i).map .str)) = true := by decide +kernel
end Nd
namespace Nd
set_option autoImplicit false
open PySem PySem.W L2 My Evl LamX
/-! ### which data are good, as the program asks -/
def it (k : Nat) : PyData → PyData
  | .tuple xs => xs.getD k .none
  | _ => .none
def tupN (n : Nat) : PyData → Bool
  | .tuple xs => xs.length == n
  | _ => false
def isTu : PyData → Bool
  | .tuple _ => true
  | _ => false
def intOf : PyData → Int
  | .int i => i
  | _ => 0
def wholeB : PyData → Bool
  | .int _ => true
  | _ => false
def nameB : PyData → Bool
  | .str x => isNmB x
  | _ => false
def dvB (d : PyData) : Bool := tupN 3 d && (nameB (it 0 d) && (wholeB (it 1 d) && (wholeB (it 2 d) && (decide (0 ≤ intOf (it 1 d)) && decide (0 ≤ intOf (it 2 d))))))
def pwB (d : PyData) : Bool := tupN 2 d && (dvB (it 0 d) && (wholeB (it 1 d) && decide (0 < intOf (it 1 d))))
def frB (d : PyData) : Bool := tupN 2 d && (wholeB (it 0 d) && (wholeB (it 1 d) && (decide (0 < intOf (it 1 d)) && decide (Nat.gcd (intOf (it 0 d)).natAbs (intOf (it 1 d)).natAbs = 1))))
def chainB (f : PyData → Bool) : Option PyData → List PyData → Bool
  | _, [] => true
  | ah, x :: r => f x && ((ah.all fun a => dataLt a (it 0 x)) && chainB f (some (it 0 x)) r)
def chainAt (f : PyData → Bool) : Nat → Option PyData → List PyData → Option Nat
  | _, _, [] => none
  | n, ah, x :: r => if (f x && (ah.all fun a => dataLt a (it 0 x))) = true then chainAt f (n + 1) (some (it 0 x)) r else some n
def moB : PyData → Bool
  | .tuple xs => chainB pwB none xs
  | _ => false
def tmB (d : PyData) : Bool := tupN 2 d && (moB (it 0 d) && (frB (it 1 d) && !decide (intOf (it 0 (it 1 d)) = 0)))
def poAt : PyData → Option (Option Nat)
  | .tuple xs => (chainAt tmB 0 none xs).map some
  | _ => some none
def poB (d : PyData) : Bool := (poAt d).isNone
theorem tupN_ex {n : Nat} {d : PyData} (h : tupN n d = true) : ∃ xs, d = .tuple xs ∧ xs.length = n := by
  cases d <;> simp only [tupN] at h <;> try exact absurd h (by decide)
  exact ⟨_, rfl, by simpa using h⟩
theorem tpl2 {d : PyData} (h : tupN 2 d = true) : d = .tuple [it 0 d, it 1 d] := by
  obtain ⟨xs, rfl, hl⟩ := tupN_ex h
  match xs, hl with
  | [a, b], _ => rfl
theorem tpl3 {d : PyData} (h : tupN 3 d = true) : d = .tuple [it 0 d, it 1 d, it 2 d] := by
  obtain ⟨xs, rfl, hl⟩ := tupN_ex h
  match xs, hl with
  | [a, b, c], _ => rfl
theorem wholeB_ex {d : PyData} (h : wholeB d = true) : d = .int (intOf d) := by
  cases d <;> simp only [wholeB] at h <;> try exact absurd h (by decide)
  rfl
theorem nameB_ex {d : PyData} (h : nameB d = true) : ∃ x, d = .str x ∧ IsNm x := by
  cases d <;> simp only [nameB] at h <;> try exact absurd h (by decide)
  exact ⟨_, rfl, h⟩
theorem dvB_ex {d : PyData} (h : dvB d = true) : ∃ u : Dv, d = u.D ∧ IsNm u.n ∧ 0 ≤ u.i ∧ 0 ≤ u.j := by
  unfold dvB at h
  simp only [Bool.and_eq_true, decide_eq_true_eq] at h
  obtain ⟨h0, h1, h2, h3, h4, h5⟩ := h
  obtain ⟨x, hx, hn⟩ := nameB_ex h1
  exact ⟨⟨x, intOf (it 1 d), intOf (it 2 d)⟩, by rw [tpl3 h0, hx, wholeB_ex h2, wholeB_ex h3]; rfl, hn, h4, h5⟩
theorem dvB_of {u : Dv} (hn : IsNm u.n) (hi : 0 ≤ u.i) (hj : 0 ≤ u.j) : dvB u.D = true := by
  show (true && (isNmB u.n && (true && (true && (decide (0 ≤ u.i) && decide (0 ≤ u.j)))))) = true
  rw [show isNmB u.n = true from hn]
  simp [hi, hj]
theorem pwB_ex {d : PyData} (h : pwB d = true) : ∃ x : Dv × Int, d = pwD x ∧ dvB x.1.D = true ∧ 0 < x.2 := by
  unfold pwB at h
  simp only [Bool.and_eq_true, decide_eq_true_eq] at h
  obtain ⟨h0, h1, h2, h3⟩ := h
  obtain ⟨u, hu, _⟩ := dvB_ex h1
  exact ⟨(u, intOf (it 1 d)), by rw [tpl2 h0, hu, wholeB_ex h2]; rfl, by rw [← hu]; exact h1, h3⟩
theorem pwB_of {x : Dv × Int} (h : dvB x.1.D = true) (hp : 0 < x.2) : pwB (pwD x) = true := by
  show (true && (dvB x.1.D && (true && decide (0 < x.2)))) = true
  rw [h]
  simp [hp]
theorem frB_of {f : Fr} (h : FrOk f) : frB (frD f) = true := by
  show (true && (true && (true && (decide (0 < f.2) && decide (Nat.gcd f.1.natAbs f.2.natAbs = 1))))) = true
  simp [h.bot, h.low]
theorem frB_ex {d : PyData} (h : frB d = true) : ∃ f : Fr, d = frD f ∧ FrOk f := by
  unfold frB at h
  simp only [Bool.and_eq_true, decide_eq_true_eq] at h
  obtain ⟨h0, h1, h2, h3, h4⟩ := h
  exact ⟨(intOf (it 0 d), intOf (it 1 d)), by rw [tpl2 h0, wholeB_ex h1, wholeB_ex h2]; rfl, ⟨h3, h4⟩⟩
theorem chainB_all {f : PyData → Bool} : ∀ {xs : List PyData} {ah : Option PyData}, chainB f ah xs = true → ∀ x ∈ xs, f x = true
  | [], _, _, x, hx => absurd hx List.not_mem_nil
  | y :: r, ah, h, x, hx => by
    unfold chainB at h
    simp only [Bool.and_eq_true] at h
    rcases List.mem_cons.mp hx with rfl | hx
    · exact h.1
    · exact chainB_all h.2.2 x hx
theorem list_ex {α : Type} {g : α → PyData} : ∀ {xs : List PyData}, (∀ x ∈ xs, ∃ y, x = g y) → ∃ l : List α, xs = l.map g
  | [], _ => ⟨[], rfl⟩
  | x :: r, h => by
    obtain ⟨y, rfl⟩ := h x List.mem_cons_self
    obtain ⟨l, rfl⟩ := list_ex fun z hz => h z (List.mem_cons_of_mem _ hz)
    exact ⟨y :: l, rfl⟩
theorem moB_ex {d : PyData} (h : moB d = true) : ∃ m : Mo, d = moD m := by
  cases d <;> simp only [moB] at h <;> try exact absurd h (by decide)
  obtain ⟨l, rfl⟩ := list_ex (g := pwD) fun x hx => (pwB_ex (chainB_all h x hx)).imp fun _ k => k.1
  exact ⟨l, rfl⟩
theorem ups_tail {α : Type} {f : α → PyData} {x : α} {l : List α} (h : Ups f (x :: l)) : Ups f l := fun i hi => h (i + 1) (by simpa using hi)
theorem chainB_map {α : Type} {f : PyData → Bool} {g k : α → PyData} (hk : ∀ x, it 0 (g x) = k x) : ∀ {l : List α} {ah : Option PyData}, (∀ x ∈ l, f (g x) = true) → Ups k l → (∀ a x, ah = some a → l.head? = some x → dataLt a (k x) = true) → chainB f ah (l.map g) = true
  | [], _, _, _, _ => by rw [List.map_nil, chainB]
  | x :: l, ah, h, up, hh => by
    rw [List.map_cons, chainB, h x List.mem_cons_self, hk]
    have h1 : (ah.all fun a => dataLt a (k x)) = true := by
      cases ah with
      | none => rfl
      | some a => exact hh a x rfl rfl
    rw [h1, chainB_map hk (fun y hy => h y (List.mem_cons_of_mem _ hy)) (ups_tail up)]
    · rfl
    · rintro a y rfl' hy
      cases rfl'
      cases l with
      | nil => cases hy
      | cons z l =>
        cases hy
        exact up 0 (by simp)
theorem chainAt_iff {f : PyData → Bool} : ∀ {xs : List PyData} {ah : Option PyData} {n : Nat}, (chainAt f n ah xs).isNone = chainB f ah xs
  | [], _, _ => by rw [chainAt, chainB]; rfl
  | x :: r, ah, n => by
    rw [chainAt, chainB]
    cases h : f x && (ah.all fun a => dataLt a (it 0 x)) with
    | true =>
      rw [if_pos rfl, chainAt_iff, ← Bool.and_assoc, h, Bool.true_and]
    | false =>
      rw [if_neg Bool.false_ne_true, ← Bool.and_assoc, h, Bool.false_and]
      rfl
theorem poB_tu (xs : List PyData) : poB (.tuple xs) = chainB tmB none xs := by
  rw [← chainAt_iff (n := 0)]
  show (Option.map some (chainAt tmB 0 none xs)).isNone = _
  cases chainAt tmB 0 none xs <;> rfl
theorem of_B {r : Rk} {u : Dv} (h : r.Ok) (k : u.Of r) : dvB u.D = true := dvB_of (h.nm _ k.n) k.i k.j
theorem moB_of {r : Rk} {m : Mo} (h : r.Ok) (k : MoOk r m) : moB (moD m) = true :=
  chainB_map (g := pwD) (k := fun x => x.1.D) (fun _ => rfl) (fun x hx => pwB_of (of_B h (k.of x hx).1) (k.of x hx).2) k.up fun _ _ e _ => nomatch e
theorem tmB_of {r : Rk} {t : Mo × Fr} (h : r.Ok) (k : MoOk r t.1 ∧ FrOk t.2 ∧ t.2.1 ≠ 0) : tmB (tmD t) = true := by
  show (true && (moB (moD t.1) && (frB (frD t.2) && !decide (t.2.1 = 0)))) = true
  rw [moB_of h k.1, frB_of k.2.1, decide_eq_false k.2.2]
  rfl
theorem poB_of {r : Rk} {p : Po} (h : r.Ok) (k : PoOk r p) : poB (poD p) = true := by
  unfold poD
  rw [poB_tu]
  exact chainB_map (g := tmD) (k := fun t => moD t.1) (fun _ => rfl) (fun t ht => tmB_of h (k.of t ht)) k.up fun _ _ e _ => nomatch e
mutual
/-- no text in it is long -/
def smB : PyData → Bool
  | .str x => decide (x.length ≤ 100000)
  | .tuple xs => smAll xs
  | .list xs => smAll xs
  | _ => true
def smAll : List PyData → Bool
  | [] => true
  | x :: r => smB x && smAll r
end
theorem smAll_mem : ∀ {xs : List PyData}, smAll xs = true → ∀ x ∈ xs, smB x = true
  | [], _, x, hx => absurd hx List.not_mem_nil
  | y :: r, h, x, hx => by
    unfold smAll at h
    rw [Bool.and_eq_true] at h
    rcases List.mem_cons.mp hx with rfl | hx
    · exact h.1
    · exact smAll_mem h.2 x hx
theorem smd_tu {xs : List PyData} (h : smB (.tuple xs) = true) : ∀ x ∈ xs, smB x = true := by
  unfold smB at h
  exact smAll_mem h
theorem smd_non : smB .none = true := by rw [smB] <;> (intro _ z; cases z)
theorem smd_int {i : Int} : smB (.int i) = true := by rw [smB] <;> (intro _ z; cases z)
theorem smd_bl {b : Bool} : smB (.bool b) = true := by rw [smB] <;> (intro _ z; cases z)
theorem smd_str {x : Str} (h : x.length ≤ 100000) : smB (.str x) = true := by rw [smB]; exact decide_eq_true h
theorem smd_it {d : PyData} (h : smB d = true) (k : Nat) : smB (it k d) = true := by
  cases d with
  | tuple xs =>
    show smB (xs.getD k .none) = true
    rw [List.getD_eq_getElem?_getD]
    cases e : xs[k]? with
    | none => exact smd_non
    | some x => exact smd_tu h x (List.mem_of_getElem? e)
  | _ => exact smd_non
theorem low_let {c : Nat} : decide (c ∈ (Str.ofString "abcdefghijklmnopqrstuvwxyz").cps.toList) = (decide (97 ≤ c) && decide (c ≤ 122)) := by
  have e : (Str.ofString "abcdefghijklmnopqrstuvwxyz").cps.toList = (List.range 26).map (· + 97) := by decide +kernel
  rw [Bool.eq_iff_iff, decide_eq_true_iff, Bool.and_eq_true, decide_eq_true_iff, decide_eq_true_iff]
  constructor
  · intro h
    rw [e] at h
    obtain ⟨k, hk, rfl⟩ := List.mem_map.mp h
    have := List.mem_range.mp hk
    omega
  · exact fun h => let_low h.1 h.2
theorem all_cps (x : Str) (f : Nat → Bool) : (((List.range x.cps.size).map fun i => f (x.cps.getD i 0)).all id) = x.cps.toList.all f := by
  have : ((List.range x.cps.size).map fun i => f (x.cps.getD i 0)) = x.cps.toList.map f := by
    apply List.ext_getElem?
    intro i
    rw [List.getElem?_map, List.getElem?_map]
    by_cases h : i < x.cps.size
    · rw [List.getElem?_range h, Array.getElem?_toList, Array.getElem?_eq_getElem h]
      simp [Array.getD_eq_getD_getElem?, Array.getElem?_eq_getElem h]
    · rw [List.getElem?_eq_none (by rw [List.length_range]; omega), Array.getElem?_toList, Array.getElem?_eq_none (by omega)]
      rfl
  rw [this, List.all_map]
  rfl
/-! ### data, as what is known -/
section
variable {K : PySem.W.Frag} {te ta tb : TE} {σ : L2.St} {B H : Hp} {q : Pr} {d : PyData} {ds : List PyData} {v : V}
theorem tu_d (h : Dp K H v (.tuple ds)) : (TuP K (ds.map (IsD K))).P v H := by
  cases h with
  | tup a b => exact ⟨_, _, rfl, a, dps_to b⟩
end
end Nd
namespace Nd
set_option autoImplicit false
open PySem PySem.W L2 My Evl LamX
def rP (us _ws : List Value) : List Value := us
def rPV (vs _zs : List V) : List V := vs
def rZV (vs _zs : List V) : List V := vs ++ [.non]
/-- a class of refusals with an __init__ of its own, of one field, over ValueError -/
structure RP (P : Program) (w : World) (K : PySem.W.Frag) (mg : Str → Option Value) (base : Heap) (x : Str) (C : Addr) (f : Str) (fI : Addr) (fd : FuncData) (gZ : List Value → List Value → List Value) : Prop where
  T : XC K C (bmI 1) (nwI 1)
  rc : RC K C
  m : mg x = some (.ref C)
  iC : PySem.W.findIn K (.ref C) "__init__" = some (some (.ref fI))
  tI : PySem.W.typeIn K (.ref fI) = some (.type "function")
  G : FnOk P w K mg base CX0 1 fI fd ["self", f] (spI1 C f)
  kP : KBn K fd ["self", f] 2 [] rP rPV
  kZ : KBn K fd ["self", f] 1 [] gZ rZV
/-- one without -/
structure RQ (K : PySem.W.Frag) (mg : Str → Option Value) (x : Str) (C : Addr) : Prop where
  q : PySem.W.excIn K C (bmI 13) (nwI 13) = true
  k : PySem.W.keepIn K (.ref C) = true
  rc : RC K C
  m : mg x = some (.ref C)
section
variable {X : Cx} {x f : Str} {C fI : Addr} {fd : FuncData} {gZ : List Value → List Value → List Value} {W : WX} {t : TA} {e : Expr} {p pos pos' : Pos}
theorem ps_raiseP (R : RP X.prog X.w X.K X.mg X.base x C f fI fd gZ) (hc : X.calm = true) (hx : X.ex = []) (tk : Takes X W) (hr : Room 2 X.A) (hg : Gl X x) (ha : PA X [e] t) (hdb : (x == ("__debug__" : Str)) = false := by decide)
    (he : starEach (e :: []) X.env = (false, eval e X.env) :: starEach [] X.env := by rfl) (hpl : (backTo pos (starEach [] X.env)).any (·.1) = false := by rfl) :
    PS X (.Raise (some (.Call (.Name x p) [e] [] pos)) none pos') (fun _ σ H => tXNewN C 1 0 (spI1 C f) rPV t tNil σ H fun y H1 => ∃ (a C' : Addr) (d : Option Addr), y = .ref a ∧ H1 a = some (exo a C' d) ∧ Fr0 X.H_0 a ∧ Raises X (.ref C') ∧ W (.ref C') d σ (delH H1 a)) :=
  ps_raise hc tk (pmk_val hx (pe_xnewP R.T xbV R.iC R.tI R.G hr R.kP (by decide) hg R.m ha hdb he hpl))
theorem ps_raiseZ (R : RP X.prog X.w X.K X.mg X.base x C f fI fd gZ) (hc : X.calm = true) (hx : X.ex = []) (tk : Takes X W) (hr : Room 2 X.A) (hg : Gl X x) (hdb : (x == ("__debug__" : Str)) = false := by decide) :
    PS X (.Raise (some (.Call (.Name x p) [] [] pos)) none pos') (fun _ σ H => tXNewN C 0 0 (spI1 C f) rZV tNil tNil σ H fun y H1 => ∃ (a C' : Addr) (d : Option Addr), y = .ref a ∧ H1 a = some (exo a C' d) ∧ Fr0 X.H_0 a ∧ Raises X (.ref C') ∧ W (.ref C') d σ (delH H1 a)) :=
  ps_raise hc tk (pmk_val hx (pe_xnewZ R.T xbV R.iC R.tI R.G hr R.kZ hg R.m hdb))
end
section
variable {X : Cx} {t : TA} {σ : L2.St} {B H H0 : Hp} {p : Pr} {C : Addr} {f : Str} {W : WX}
theorem x_rsP (rc : Raises X (.ref C)) (e : Ex B H) (h0 : Ex H0 H) (h : EvPs t σ B [p]) (q : ∀ d B' H', Gr B H B' H' → ExcD [(f, p)] d B' → W (.ref C) d σ H') :
    tXNewN C 1 0 (spI1 C f) rPV t tNil σ H fun y H1 => ∃ (a C' : Addr) (d : Option Addr), y = .ref a ∧ H1 a = some (exo a C' d) ∧ Fr0 H0 a ∧ Raises X (.ref C') ∧ W (.ref C') d σ (delH H1 a) :=
  x_raise1 (n := 1) (m := 0) (gV := rPV) (f := f) (Q := fun c d H => W c d σ H) rc e h0 h q_nil rfl rfl (fun a vs ws B1 hv _ => by
    match vs, hv with
    | [v], hv => exact ⟨v, rfl, hv.1⟩) q
theorem x_rsZ (rc : Raises X (.ref C)) (e : Ex B H) (h0 : Ex H0 H) (q : ∀ d B' H', Gr B H B' H' → ExcD [(f, IsV .non)] d B' → W (.ref C) d σ H') :
    tXNewN C 0 0 (spI1 C f) rZV tNil tNil σ H fun y H1 => ∃ (a C' : Addr) (d : Option Addr), y = .ref a ∧ H1 a = some (exo a C' d) ∧ Fr0 H0 a ∧ Raises X (.ref C') ∧ W (.ref C') d σ (delH H1 a) :=
  x_raise1 (p := IsV .non) (n := 0) (m := 0) (gV := rZV) (f := f) (Q := fun c d H => W c d σ H) rc e h0 q_nil q_nil rfl rfl (fun a vs ws B1 hv _ => by
    match vs, hv with
    | [], hv => exact ⟨.non, rfl, rfl⟩) q
end
/-- a def of the program's that may raise, as it is called -/
structure CalX (P : Program) (w : World) (K : PySem.W.Frag) (mg : Str → Option Value) (base : Heap) (x : Str) (k : Nat) (ps : List Str) (sp : Sp) (f : Addr) (fd : FuncData) : Prop where
  G : FnOk P w K mg base (L2.CX P w) k f fd ps sp
  m : mg x = some (.ref f)
  k : PySem.W.keepIn K (.ref f) = true
  b : Binds K fd ps []
end Nd
namespace Nd
set_option autoImplicit false
open PySem PySem.W L2 My Evl LamX
/-- the thing ahead of another one: none yet, or such data -/
def AhP (K : PySem.W.Frag) (ah : Option PyData) (y : V) (B : Hp) : Prop := (ah = none ∧ y = .non) ∨ ∃ a, ah = some a ∧ Dp K B y a ∧ ∃ xs, a = .tuple xs
theorem AhP.m {K : PySem.W.Frag} {ah : Option PyData} {y : V} {B B' : Hp} (e : Ex B B') (h : AhP K ah y B) : AhP K ah y B' := h.imp id fun ⟨a, h1, h2, h3⟩ => ⟨a, h1, dp_m e h2, h3⟩
theorem et_ah {K : PySem.W.Frag} {ah : Option PyData} {y : V} {B : Hp} {σ : L2.St} {i : Nat} {te : TE} {d : PyData} (hi : σ[i]? = some (some y)) (h : AhP K ah y B) (he : EvP te σ B (IsD K d)) (al : ∀ a, ah = some a → alike d a = true) (hn : d ≠ .none) (hm : d.depth ≤ 50) :
    EvT (tAnd (tTest (tOp (fun x y H Q => y = V.non ∧ Q (.bl (!decide (x = V.non))) H) (tVar i) (tC .non))) (tTest (tOp (rLeD K) te (tVar i)))) σ B (!ah.all fun a => dataLt a d) := by
  rcases h with ⟨rfl, rfl⟩ | ⟨a, rfl, ha, xs, rfl⟩
  · exact et_is (et_and (a := false) (b := false) (et_test (ev_notN (p_varV hi))) (fun z => nomatch z)) rfl
  · obtain ⟨r, rfl⟩ : ∃ r, y = .ref r := by cases ha; exact ⟨_, rfl⟩
    exact et_is (et_and (a := true) (b := !dataLt (.tuple xs) d) (et_test (ev_notR hi)) fun _ => et_test (ev_leD (K := K) (d := d) (e := .tuple xs) he (p_var hi ha) (al _ rfl) hn (by omega))) rfl
end Nd
namespace Nd
set_option autoImplicit false
open PySem PySem.Spec PySem.W PyProof.Rows L2 My Evl
section
variable {X : Cx}
end
end Nd
namespace Nd
set_option autoImplicit false
open PySem PySem.Spec PySem.W PyProof.Rows L2 My Evl LamX
/-! ### data with {} at any place -/
mutual
inductive De (K : PySem.W.Frag) (H : Hp) : V → PyData → Prop
  | non : De K H .non .none
  | bl (b : Bool) : De K H (.bl b) (.bool b)
  | int (i : Int) : De K H (.int i) (.int i)
  | str (x : Str) : De K H (.str x) (.str x)
  | lst {a : Addr} {xs : List V} {ds : List PyData} : SqL K H a xs → DeAll K H xs ds → De K H (.ref a) (.list ds)
  | tup {a : Addr} {xs : List V} {ds : List PyData} : SqT K H a xs → DeAll K H xs ds → De K H (.ref a) (.tuple ds)
  | dct {a : Addr} : H a = some (.dK []) → De K H (.ref a) (.dict [])
inductive DeAll (K : PySem.W.Frag) (H : Hp) : List V → List PyData → Prop
  | nil : DeAll K H [] []
  | cons {v : V} {vs : List V} {d : PyData} {ds : List PyData} : De K H v d → DeAll K H vs ds → DeAll K H (v :: vs) (d :: ds)
end
mutual
theorem de_m {K : PySem.W.Frag} {H H' : Hp} (e : Ex H H') : ∀ {d : PyData} {v : V}, De K H v d → De K H' v d
  | _, _, .non => .non
  | _, _, .bl b => .bl b
  | _, _, .int i => .int i
  | _, _, .str x => .str x
  | _, _, .lst a b => .lst (ex_l e a) (des_m e b)
  | _, _, .tup a b => .tup (ex_t e a) (des_m e b)
  | _, _, .dct a => .dct (e _ _ a)
theorem des_m {K : PySem.W.Frag} {H H' : Hp} (e : Ex H H') : ∀ {ds : List PyData} {vs : List V}, DeAll K H vs ds → DeAll K H' vs ds
  | _, _, .nil => .nil
  | _, _, .cons a b => .cons (de_m e a) (des_m e b)
end
mutual
theorem dp_de {K : PySem.W.Frag} {H : Hp} : ∀ {d : PyData} {v : V}, Dp K H v d → De K H v d
  | _, _, .non => .non
  | _, _, .bl b => .bl b
  | _, _, .int i => .int i
  | _, _, .str x => .str x
  | _, _, .lst a b => .lst a (dps_des b)
  | _, _, .tup a b => .tup a (dps_des b)
theorem dps_des {K : PySem.W.Frag} {H : Hp} : ∀ {ds : List PyData} {vs : List V}, DpAll K H vs ds → DeAll K H vs ds
  | _, _, .nil => .nil
  | _, _, .cons a b => .cons (dp_de a) (dps_des b)
end
mutual
theorem de_dp {K : PySem.W.Frag} {H : Hp} : ∀ {d : PyData} {v : V}, De K H v d → d.hasDict = false → Dp K H v d
  | _, _, .non, _ => .non
  | _, _, .bl b, _ => .bl b
  | _, _, .int i, _ => .int i
  | _, _, .str x, _ => .str x
  | _, _, .lst a b, h => .lst a (des_dps b (by simpa only [PyData.hasDict] using h))
  | _, _, .tup a b, h => .tup a (des_dps b (by simpa only [PyData.hasDict] using h))
  | _, _, .dct _, h => by simp [PyData.hasDict] at h
theorem des_dps {K : PySem.W.Frag} {H : Hp} : ∀ {ds : List PyData} {vs : List V}, DeAll K H vs ds → PyData.hasDictAll ds = false → DpAll K H vs ds
  | _, _, .nil, _ => .nil
  | _, _, .cons a b, h => by
    simp only [PyData.hasDictAll, Bool.or_eq_false_iff] at h
    exact .cons (de_dp a h.1) (des_dps b h.2)
end
def IsE (K : PySem.W.Frag) (d : PyData) : Pr := ⟨fun v H => De K H v d, fun e h => de_m e h⟩
def ToE (K : PySem.W.Frag) (p : Pr) (d : PyData) : Prop := ∀ v H, p.P v H → De K H v d
theorem des_of {K : PySem.W.Frag} {H : Hp} : ∀ {ds : List PyData} {vs : List V}, AllP (ds.map (IsE K)) vs H → DeAll K H vs ds
  | [], [], _ => .nil
  | _ :: _, _ :: _, h => .cons h.1 (des_of h.2)
theorem des_to {K : PySem.W.Frag} {H : Hp} : ∀ {ds : List PyData} {vs : List V}, DeAll K H vs ds → AllP (ds.map (IsE K)) vs H
  | [], [], _ => trivial
  | _ :: _, _ :: _, .cons a b => ⟨a, des_to b⟩
theorem des_len {K : PySem.W.Frag} {H : Hp} : ∀ {ds : List PyData} {vs : List V}, DeAll K H vs ds → vs.length = ds.length
  | [], [], _ => rfl
  | _ :: _, _ :: _, .cons _ b => congrArg Nat.succ (des_len b)
/-- of what may be anything: what a test of it tells -/
def RBE (K : PySem.W.Frag) (f : PyData → Bool) : List Pr → Pr → Prop := fun ps p => ∃ (q : Pr) (d : PyData), ToE K q d ∧ smB d = true ∧ ps = [q] ∧ p = IsV (.bl (f d))
theorem to_idE {K : PySem.W.Frag} {d : PyData} : ToE K (IsE K d) d := fun _ _ h => h
theorem toE_of {K : PySem.W.Frag} {q : Pr} {d : PyData} (h : To K q d) : ToE K q d := fun v H x => dp_de (h v H x)
section
variable {K : PySem.W.Frag} {te ta tb : TE} {σ : L2.St} {B H : Hp} {q : Pr} {d : PyData} {ds : List PyData} {v : V} {D : Ends} {p : Pr}
theorem ty_e (h : De K H v d) : TyX K H v (.type (tyS d)) := by
  cases h with
  | non => exact .base .non
  | bl b => exact .base (.bl b)
  | int i => exact .base (.int i)
  | str x => exact .base (.str x)
  | lst a b =>
    rcases a with (a | ⟨o, a⟩) | ⟨o, its, n, hk, hc, _⟩
    · exact .base (.lst a)
    · exact .base (.frz a)
    · exact .kList hk hc
  | tup a b =>
    rcases a with (a | ⟨o, a⟩) | ⟨o, its, n, hk, hc, _⟩
    · exact .base (.tup a)
    · exact .fTuple a
    · exact .kTuple hk hc
  | dct a => exact .base (.dK a)
theorem ev_isiE {T : String} {b : Bool} (h : EvP te σ B (IsE K d)) (hk : kitB (tyS d) T = some b) : Ev (tCB (rIsi K) (tCons te (tCons (tC (.ty T)) tNil))) σ B (.bl b) := fun H1 a Q k =>
  h H1 a _ fun v B2 H2 g x => ⟨v, .ty T, .type (tyS d), .type T, b, rfl, .ty T, ty_e (de_m g.c x), kit_ty hk, k H2 g.a⟩
theorem ev_lenE {es : List PyData} (h : EvP te σ B (IsE K d)) (hd : d = .tuple es ∨ d = .list es) : Ev (tCB (rLenS K) (tCons te tNil)) σ B (.int (es.length : Int)) := fun H1 a Q k =>
  h H1 a _ fun v B2 H2 g x => by
    rcases hd with rfl | rfl
    · cases x with
      | tup y z =>
        refine ⟨_, _, rfl, .inr (ex_t g.c y), ?_⟩
        rw [des_len z]
        exact k H2 g.a
    · cases x with
      | lst y z =>
        refine ⟨_, _, rfl, .inl (ex_l g.c y), ?_⟩
        rw [des_len z]
        exact k H2 g.a
theorem p_toE (h : EvP te σ B p) (k : ToE K p d) : EvP te σ B (IsE K d) := h.imp fun v B1 _ b => k v B1 b
theorem p_eD (h : EvP te σ B (IsE K d)) (n : d.hasDict = false) : EvP te σ B (IsD K d) := h.imp fun v B1 _ b => de_dp b n
theorem p_dE (h : EvP te σ B (IsD K d)) : EvP te σ B (IsE K d) := h.imp fun v B1 _ b => dp_de b
theorem ev_inE {i : Int} (h : EvP te σ B (IsE K (.int i))) : Ev te σ B (.int i) := ev_p (h.imp fun v B1 _ x => by cases x; rfl)
theorem tu_e (h : De K H v (.tuple ds)) : (TuP K (ds.map (IsE K))).P v H := by
  cases h with
  | tup a b => exact ⟨_, _, rfl, a, des_to b⟩
theorem e_tu (h : (TuP K (ds.map (IsE K))).P v H) : De K H v (.tuple ds) := by
  obtain ⟨a, xs, rfl, h1, h2⟩ := h
  exact .tup h1 (des_of h2)
theorem e_ls (h : (LsP (ds.map (IsE K))).P v H) : De K H v (.list ds) := by
  obtain ⟨a, xs, rfl, h1, h2⟩ := h
  exact .lst (sq_of h1) (des_of h2)
theorem ev_isTuE (h : EvP te σ B (IsE K d)) : Ev (tCB (rIsi K) (tCons te (tCons (tC (.ty "tuple")) tNil))) σ B (.bl (isTu d)) :=
  ev_isiE h (by cases d <;> (dsimp only [tyS, isTu]; decide +kernel))
theorem et_tupNE {n : Nat} (h : EvP te σ B (IsE K d)) : EvT (tOr (tNot (tTest (tCB (rIsi K) (tCons te (tCons (tC (.ty "tuple")) tNil))))) (tTest (tOp rNe (tCB (rLenS K) (tCons te tNil)) (tC (.int (n : Int)))))) σ B (!tupN n d) := by
  refine et_is (et_or (a := !isTu d) (b := !tupN n d) (et_not (et_test (ev_isTuE h))) fun e => ?_) ?_
  · obtain ⟨xs, rfl⟩ : ∃ xs, d = .tuple xs := by
      cases d <;> first | exact ⟨_, rfl⟩ | exact absurd e (by simp [isTu])
    refine et_is (et_test (ev_op (ev_lenE h (.inl rfl)) ev_c (rv_ne rfl))) ?_
    show (!decide (V.int (xs.length : Int) = V.int (n : Int))) = !(xs.length == n)
    by_cases q : xs.length = n
    · subst q
      simp
    · have : ¬ V.int (xs.length : Int) = V.int (n : Int) := fun z => q (by cases z; rfl)
      rw [decide_eq_false this]
      simp [q]
  · cases d <;> first | rfl | simp [isTu, tupN]
theorem ps_un3E {i j k : Nat} {d1 d2 d3 : PyData} (a : Ex B H) (h : EvP te σ B (IsE K (.tuple [d1, d2, d3])))
    (n : ∀ v1 v2 v3 B1 H1, Gr B H B1 H1 → De K B1 v1 d1 → De K B1 v2 d2 → De K B1 v3 d3 → D.nx (((σ.set i (some v1)).set j (some v2)).set k (some v3)) H1) :
    tAsg te (gTup K 3 (gCons (gName i) (gCons (gName j) (gCons (gName k) gNil)))) D σ H := h H a _ fun v B1 H1 g x => by
  cases x with
  | tup y z =>
    cases z with
    | cons z1 z =>
      cases z with
      | cons z2 z =>
        cases z with
        | cons z3 z =>
          cases z
          exact ⟨_, _, rfl, ex_t g.c y, rfl, _, _, rfl, _, _, rfl, _, _, rfl, rfl, n _ _ _ B1 H1 g z1 z2 z3⟩
end
/-! ### their text -/
/-- the modules' dict stands in the written part -/
def SysK (K : PySem.W.Frag) : Prop := ∃ o, K.lookup sysModules = some o ∧ o.cls = .type "dict"
section
variable {X : Cx} {pins : List (Addr × Obj)} {σ : L2.St} {H : Hp} {s : Shared}
mutual
theorem De.reads (I : Inv X pins σ H s) (S : SysK X.K) : ∀ {d : PyData} {v : V} {u : Value}, De X.K H v d → RelV v u → ∃ as, Reads s.heap u d as ∧ sysModules ∉ as
  | _, _, _, .non, r => by
    cases r
    exact ⟨_, Reads.none, List.not_mem_nil⟩
  | _, _, _, .bl b, r => by
    cases r
    exact ⟨_, Reads.bool b, List.not_mem_nil⟩
  | _, _, _, .int i, r => by
    obtain ⟨t, rfl⟩ := r
    exact ⟨_, Reads.int i t, List.not_mem_nil⟩
  | _, _, _, .str x, r => by
    obtain ⟨t, rfl⟩ := r
    exact ⟨_, Reads.str x t, List.not_mem_nil⟩
  | _, _, _, .lst h al, r => by
    cases r
    obtain ⟨its, rv, ⟨o, m, ho, hc, _, hd⟩, _⟩ := I.list h
    obtain ⟨as, hr, hn⟩ := De.readsAll I S al rv
    refine ⟨_, Reads.list ho hc hd hr, fun hm => ?_⟩
    rcases List.mem_cons.mp hm with e | hm
    · obtain ⟨o2, k1, k2⟩ := S
      have := I.kIn _ _ k1
      rw [e, ho] at this
      obtain rfl := Option.some.inj this
      rw [hc] at k2
      exact absurd k2 (by decide)
    · exact hn hm
  | _, _, _, .tup h al, r => by
    cases r
    obtain ⟨its, rv, ⟨o, ho, hc, m, hd⟩, _⟩ := I.tuple h
    obtain ⟨as, hr, hn⟩ := De.readsAll I S al rv
    exact ⟨_, Reads.tuple ho hc hd hr, hn⟩
  | _, _, _, .dct (a := a) h, r => by
    cases r
    obtain ⟨z, y, vs, rv, o, es, ep, e, ex, dat, _, pr, _⟩ := (show ObjOk X.prog X.w H s.heap a (.dK []) from I.hok a _ h)
    cases rv
    have he : es.toList = [] := by
      cases hh : es.toList with
      | nil => rfl
      | cons x l =>
        rw [hh] at pr
        cases pr
    refine ⟨_, Reads.dict (kvs := []) e ex.1 dat (by rw [he]; exact ReadsAll.nil) (by rw [he]; exact ReadsAll.nil), fun hm => ?_⟩
    rw [List.mem_singleton.mp hm] at y
    exact absurd rfl (beq_eq_false_iff_ne.mp y)
theorem De.readsAll (I : Inv X pins σ H s) (S : SysK X.K) : ∀ {ds : List PyData} {vs : List V} {us : List Value}, DeAll X.K H vs ds → Vals vs us → ∃ as, ReadsAll s.heap us ds as ∧ sysModules ∉ as
  | _, _, _, .nil, r => by
    cases r
    exact ⟨_, ReadsAll.nil, List.not_mem_nil⟩
  | _, _, _, .cons h hs, r => by
    cases r with
    | cons r1 r2 =>
      obtain ⟨as, q1, n1⟩ := De.reads I S h r1
      obtain ⟨bs, q2, n2⟩ := De.readsAll I S hs r2
      exact ⟨_, ReadsAll.cons q1 q2, fun hm => (List.mem_append.mp hm).elim n1 n2⟩
end
end
def rReprE (K : PySem.W.Frag) : List V → Hp → VK → Prop := fun xs H Q => ∃ x d, xs = [x] ∧ De K H x d ∧ d.showable = true ∧ d.depth ≤ 60 ∧ d.shown.length ≤ 1000000 ∧ Q (.str d.shown) H
theorem call_reprE {X : Cx} (hG : X.A.guards = some []) (hu : X.A.units + 64 < cLine) (S : SysK X.K) : CallR X (.builtin "repr") (rReprE X.K) := by
  intro pins s σ H xs us Q I r ⟨x, d, e, hd, hs, hp, hz, q⟩
  subst e
  obtain ⟨u, rfl, rx⟩ := vals1 r
  have hz' : d.shown.length ≤ sizeLine := Nat.le_trans hz (by decide)
  have fin : ∀ {a : Addr}, u = .ref a → wpAny (model X.prog X.w) X.A (call (.builtin "repr") [u]) (EP X pins σ Q) X.xe s := fun {a} e => by
    subst e
    obtain ⟨as, ra, hn⟩ := De.reads I S hd rx
    exact repr_of_reads' ra hs (fun _ => hn) hG (by omega) (fun _ _ e => e) (fun h' u tk hk => ⟨.str d.shown, H, I.kept (t' := tk) hk, ⟨u, rfl⟩, q⟩) hz'
  cases hd with
  | non =>
    obtain rfl : u = Value.none := rx
    simp only [PyData.shown] at q
    exact PySem.P.repr_of_none ⟨.str _, H, I.tok _, ⟨_, rfl⟩, q⟩
  | bl b =>
    obtain rfl : u = Value.bool b := rx
    simp only [PyData.shown] at q
    exact PySem.P.repr_of_bool ⟨.str _, H, I.tok _, ⟨_, rfl⟩, q⟩
  | int i =>
    obtain ⟨t, rfl⟩ := rx
    simp only [PyData.shown] at q
    refine PySem.P.repr_of_int ?_ ⟨.str _, H, I.tok _, ⟨_, rfl⟩, q⟩
    simpa only [PyData.showable, decide_eq_true_eq] using hs
  | str y =>
    obtain ⟨t, rfl⟩ := rx
    simp only [PyData.shown] at q hz'
    exact PySem.P.repr_of_str ⟨.str _, H, I.tok _, ⟨_, rfl⟩, q⟩ hz'
  | lst a b => exact fin rx
  | tup a b => exact fin rx
  | dct a => exact fin rx
theorem ev_reprE {te : TE} {σ : L2.St} {B : Hp} {K : PySem.W.Frag} {d : PyData} (h : EvP te σ B (IsE K d)) (hs : d.showable = true) (hp : d.depth ≤ 60) (hz : d.shown.length ≤ 1000000) : Ev (tCB (rReprE K) (tCons te tNil)) σ B (.str d.shown) := fun H1 a Q k =>
  h H1 a _ fun v B2 H2 g x => ⟨v, d, rfl, de_m g.c x, hs, hp, hz, k H2 g.a⟩
end Nd
namespace Nd
set_option autoImplicit false
open scoped Rat
/-! ### fractions are the rationals -/
def fr (r : Rat) : Int × Int := (r.num, (r.den : Int))
theorem fr_eq {n d : Int} (hd : 0 < d) (hg : Int.gcd n d = 1) : fr (n /. d) = (n, d) := by
  unfold fr
  rw [Rat.num_divInt, Rat.den_divInt, Int.gcd_comm, hg, if_neg (by omega), Int.sign_eq_one_of_pos hd]
  simp
  omega
theorem fr_pos (r : Rat) : 0 < (fr r).2 := by
  have := r.den_pos
  show (0 : Int) < (r.den : Int)
  omega
theorem fr_low (r : Rat) : Int.gcd (fr r).1 (fr r).2 = 1 := by
  have := r.reduced
  show Nat.gcd r.num.natAbs (r.den : Int).natAbs = 1
  rw [Int.natAbs_natCast]
  exact this
theorem fr_val (r : Rat) : (fr r).1 /. (fr r).2 = r := Rat.num_divInt_den r
theorem fr_num0 (r : Rat) : (fr r).1 = 0 ↔ r = 0 := Rat.num_eq_zero
/-- lowest terms of any fraction -/
theorem fr_lowest {n d : Int} (hd : 0 < d) : fr (n /. d) = (n / (Int.gcd n d : Int), d / (Int.gcd n d : Int)) := by
  have g0 : Int.gcd n d ≠ 0 := fun h => by
    have := (Int.gcd_eq_zero_iff.mp h).2
    omega
  have hn := Int.gcd_dvd_left (a := n) (b := d)
  have hd2 := Int.gcd_dvd_right (a := n) (b := d)
  have e : n /. d = (n / (Int.gcd n d : Int)) /. (d / (Int.gcd n d : Int)) := by
    have h1 : (n / (Int.gcd n d : Int)) * (Int.gcd n d : Int) = n := Int.ediv_mul_cancel hn
    have h2 : (d / (Int.gcd n d : Int)) * (Int.gcd n d : Int) = d := Int.ediv_mul_cancel hd2
    have := Rat.divInt_mul_right (n := n / (Int.gcd n d : Int)) (d := d / (Int.gcd n d : Int)) (a := (Int.gcd n d : Int)) (by omega)
    rw [h1, h2] at this
    exact this
  have hp : 0 < d / (Int.gcd n d : Int) := Int.ediv_pos_of_pos_of_dvd hd (by omega) hd2
  rw [e]
  refine fr_eq hp ?_
  exact Int.gcd_ediv_gcd_ediv_gcd (by omega)
end Nd
namespace Nd
set_option autoImplicit false
set_option linter.unusedSectionVars false
/-! ### sums by keys, in order -/
class Od (κ : Type) [DecidableEq κ] where
  lt : κ → κ → Bool
  irr : ∀ a, lt a a = false
  tr : ∀ {a b c}, lt a b = true → lt b c = true → lt a c = true
  tri : ∀ {a b}, a ≠ b → lt a b = true ∨ lt b a = true
open Lean.Grind
section
variable {κ : Type} [DecidableEq κ] {β : Type} [CommRing β]
theorem z_add (a : β) : 0 + a = a := by grind
theorem a_zero (a : β) : a + 0 = a := by grind
/-- what all pairs of a key come to -/
def co : List (κ × β) → κ → β
  | [], _ => 0
  | z :: l, k => (if z.1 = k then z.2 else 0) + co l k
@[simp] theorem co_nil (k : κ) : co ([] : List (κ × β)) k = 0 := rfl
theorem co_cons (z : κ × β) (l : List (κ × β)) (k : κ) : co (z :: l) k = (if z.1 = k then z.2 else 0) + co l k := rfl
theorem co_app : ∀ (l m : List (κ × β)) (k : κ), co (l ++ m) k = co l k + co m k
  | [], m, k => (z_add _).symm
  | z :: l, m, k => by
    rw [List.cons_append, co_cons, co_cons, co_app l m k]
    grind
theorem co_none {k : κ} : ∀ {l : List (κ × β)}, (∀ z ∈ l, z.1 ≠ k) → co l k = 0
  | [], _ => rfl
  | z :: l, h => by
    rw [co_cons, if_neg (h z List.mem_cons_self), co_none fun y hy => h y (List.mem_cons_of_mem _ hy), z_add]
theorem co_one {l : List (κ × β)} (nd : (l.map (·.1)).Nodup) {z : κ × β} (h : z ∈ l) : co l z.1 = z.2 := by
  induction l with
  | nil => cases h
  | cons y l ih =>
    rw [List.map_cons, List.nodup_cons] at nd
    rw [co_cons]
    rcases List.mem_cons.mp h with rfl | h
    · rw [if_pos rfl, co_none (fun x hx e => nd.1 (List.mem_map.mpr ⟨x, hx, e⟩)), a_zero]
    · rw [ih nd.2 h, if_neg (fun e => nd.1 (List.mem_map.mpr ⟨z, h, e.symm⟩)), z_add]
/-- a sum over all pairs of what is additive -/
def lin {γ : Type} [CommRing γ] (f : κ → β → γ) : List (κ × β) → γ
  | [] => 0
  | z :: l => f z.1 z.2 + lin f l
variable [Od κ]
/-- rising, and nothing is nought -/
structure Cn (l : List (κ × β)) : Prop where
  up : l.Pairwise fun a b => Od.lt a.1 b.1 = true
  nz : ∀ z ∈ l, z.2 ≠ 0
theorem Cn.tl {z : κ × β} {l : List (κ × β)} (h : Cn (z :: l)) : Cn l := ⟨(List.pairwise_cons.mp h.up).2, fun y hy => h.nz y (List.mem_cons_of_mem _ hy)⟩
theorem lt_ne {a b : κ} (h : Od.lt a b = true) : a ≠ b := fun e => by
  subst e
  rw [Od.irr] at h
  cases h
theorem Cn.nd {l : List (κ × β)} (h : Cn l) : (l.map (·.1)).Nodup := List.pairwise_map.mpr (h.up.imp fun k => lt_ne k)
theorem Cn.hd {z : κ × β} {l : List (κ × β)} (h : Cn (z :: l)) : co (z :: l) z.1 = z.2 := co_one h.nd List.mem_cons_self
theorem Cn.tl0 {z : κ × β} {l : List (κ × β)} (h : Cn (z :: l)) : co l z.1 = 0 := co_none fun y hy => (lt_ne ((List.pairwise_cons.mp h.up).1 y hy)).symm
theorem Cn.low {y : κ × β} {l : List (κ × β)} {k : κ} (h : Cn (y :: l)) (e : Od.lt k y.1 = true) : co (y :: l) k = 0 := co_none fun x hx => by
  rcases List.mem_cons.mp hx with rfl | hx
  · exact (lt_ne e).symm
  · exact (lt_ne (Od.tr e ((List.pairwise_cons.mp h.up).1 x hx))).symm
theorem cn_ext : ∀ {l m : List (κ × β)}, Cn l → Cn m → (∀ k, co l k = co m k) → l = m
  | [], [], _, _, _ => rfl
  | [], y :: m, _, b, h => absurd ((h y.1).trans b.hd).symm (b.nz y List.mem_cons_self)
  | z :: l, [], a, _, h => absurd (a.hd.symm.trans (h z.1)) (a.nz z List.mem_cons_self)
  | z :: l, y :: m, a, b, h => by
    by_cases e : z.1 = y.1
    · have h2 : z.2 = y.2 := by rw [← a.hd, ← b.hd, h z.1, e]
      have ez : z = y := Prod.ext e h2
      subst ez
      rw [cn_ext a.tl b.tl fun k => ?_]
      by_cases ek : z.1 = k
      · subst ek
        rw [a.tl0, b.tl0]
      · have := h k
        rw [co_cons, co_cons, if_neg ek, z_add, z_add] at this
        exact this
    · rcases Od.tri e with k | k
      · exact absurd (a.hd.symm.trans ((h z.1).trans (b.low k))) (a.nz z List.mem_cons_self)
      · exact absurd (b.hd.symm.trans ((h y.1).symm.trans (a.low k))) (b.nz y List.mem_cons_self)
def ins [DecidableEq β] (k : κ) (v : β) : List (κ × β) → List (κ × β)
  | [] => if v = 0 then [] else [(k, v)]
  | z :: l => if z.1 = k then (if z.2 + v = 0 then l else (k, z.2 + v) :: l) else if Od.lt k z.1 = true then (if v = 0 then z :: l else (k, v) :: z :: l) else z :: ins k v l
variable [DecidableEq β]
/-- the sums by keys: rising, none of them nought -/
def cf (l : List (κ × β)) : List (κ × β) := l.foldr (fun z a => ins z.1 z.2 a) []
theorem ins_mem {k : κ} {v : β} {x : κ × β} : ∀ {l : List (κ × β)}, x ∈ ins k v l → x.1 = k ∨ x ∈ l
  | [], h => by
    unfold ins at h
    split at h
    · cases h
    · exact .inl (by rw [List.mem_singleton.mp h])
  | z :: l, h => by
    unfold ins at h
    split at h
    · split at h
      · exact .inr (List.mem_cons_of_mem _ h)
      · rcases List.mem_cons.mp h with rfl | h
        · exact .inl rfl
        · exact .inr (List.mem_cons_of_mem _ h)
    · split at h
      · split at h
        · exact .inr h
        · rcases List.mem_cons.mp h with rfl | h
          · exact .inl rfl
          · exact .inr h
      · rcases List.mem_cons.mp h with rfl | h
        · exact .inr List.mem_cons_self
        · exact (ins_mem h).imp_right (List.mem_cons_of_mem _)
theorem cn_ins {k : κ} {v : β} : ∀ {l : List (κ × β)}, Cn l → Cn (ins k v l)
  | [], _ => by
    unfold ins
    split
    · exact ⟨.nil, fun _ h => by cases h⟩
    · rename_i e
      exact ⟨List.pairwise_singleton _ _, fun z h => by rw [List.mem_singleton.mp h]; exact e⟩
  | z :: l, h => by
    have hp := List.pairwise_cons.mp h.up
    unfold ins
    split
    · rename_i e
      split
      · exact h.tl
      · rename_i n
        exact ⟨List.pairwise_cons.mpr ⟨fun y hy => e ▸ hp.1 y hy, hp.2⟩, fun y hy => by
          rcases List.mem_cons.mp hy with rfl | hy
          · exact n
          · exact h.nz y (List.mem_cons_of_mem _ hy)⟩
    · rename_i e
      split
      · rename_i lt
        split
        · exact h
        · rename_i n
          exact ⟨List.pairwise_cons.mpr ⟨fun y hy => by
            rcases List.mem_cons.mp hy with rfl | hy
            · exact lt
            · exact Od.tr lt (hp.1 y hy), h.up⟩, fun y hy => by
            rcases List.mem_cons.mp hy with rfl | hy
            · exact n
            · exact h.nz y hy⟩
      · rename_i nl
        have ih := cn_ins (k := k) (v := v) h.tl
        refine ⟨List.pairwise_cons.mpr ⟨fun y hy => ?_, ih.up⟩, fun y hy => ?_⟩
        · rcases ins_mem hy with a | a
          · rw [a]
            rcases Od.tri e with b | b
            · exact b
            · exact absurd b nl
          · exact hp.1 y a
        · rcases List.mem_cons.mp hy with rfl | hy
          · exact h.nz _ List.mem_cons_self
          · exact ih.nz y hy
theorem lin_ins {γ : Type} [CommRing γ] {f : κ → β → γ} (f0 : ∀ k, f k 0 = 0) (fa : ∀ k a b, f k (a + b) = f k a + f k b) {k : κ} {v : β} : ∀ l : List (κ × β), lin f (ins k v l) = lin f l + f k v
  | [] => by
    unfold ins
    split
    · rename_i e
      rw [e, f0]
      exact (a_zero _).symm
    · show f k v + 0 = 0 + f k v
      grind
  | z :: l => by
    unfold ins
    split
    · rename_i e
      split
      · rename_i n
        show lin f l = f z.1 z.2 + lin f l + f k v
        have : f k (z.2 + v) = 0 := by rw [n, f0]
        rw [fa] at this
        rw [e]
        have h2 : f k z.2 + lin f l + f k v = (f k z.2 + f k v) + lin f l := by grind
        rw [h2, this, z_add]
      · show f k (z.2 + v) + lin f l = f z.1 z.2 + lin f l + f k v
        rw [fa, e]
        grind
    · split
      · split
        · rename_i n
          rw [n, f0, a_zero]
        · show f k v + (f z.1 z.2 + lin f l) = f z.1 z.2 + lin f l + f k v
          grind
      · show f z.1 z.2 + lin f (ins k v l) = f z.1 z.2 + lin f l + f k v
        rw [lin_ins f0 fa l]
        grind
theorem cn_cf : ∀ l : List (κ × β), Cn (cf l)
  | [] => ⟨.nil, fun _ h => by cases h⟩
  | z :: l => cn_ins (cn_cf l)
theorem lin_cf {γ : Type} [CommRing γ] {f : κ → β → γ} (f0 : ∀ k, f k 0 = 0) (fa : ∀ k a b, f k (a + b) = f k a + f k b) : ∀ l : List (κ × β), lin f (cf l) = lin f l
  | [] => rfl
  | z :: l => by
    show lin f (ins z.1 z.2 (cf l)) = f z.1 z.2 + lin f l
    rw [lin_ins f0 fa, lin_cf f0 fa l]
    grind
theorem co_lin (k : κ) : ∀ l : List (κ × β), co l k = lin (fun k' (v : β) => if k' = k then v else 0) l
  | [] => rfl
  | z :: l => by
    rw [co_cons, co_lin k l]
    rfl
theorem co_cf (l : List (κ × β)) (k : κ) : co (cf l) k = co l k := by
  rw [co_lin, co_lin, lin_cf]
  · intro k'
    split <;> rfl
  · intro k' a b
    split
    · rfl
    · exact (z_add _).symm
theorem cf_ext {l m : List (κ × β)} (h : ∀ k, co l k = co m k) : cf l = cf m := cn_ext (cn_cf l) (cn_cf m) fun k => by rw [co_cf, co_cf, h k]
theorem cf_cn {l : List (κ × β)} (h : Cn l) : cf l = l := cn_ext (cn_cf l) h fun k => co_cf l k
theorem cf_eq {l m : List (κ × β)} (h : Cn l) (e : ∀ k, co l k = co m k) : l = cf m := cn_ext h (cn_cf m) fun k => by rw [co_cf, e k]
theorem ins_len {k : κ} {v : β} : ∀ l : List (κ × β), (ins k v l).length ≤ l.length + 1
  | [] => by
    unfold ins
    split
    · exact Nat.zero_le _
    · exact Nat.le_refl _
  | z :: l => by
    have := ins_len (k := k) (v := v) l
    unfold ins
    split
    · split
      · rw [List.length_cons]; omega
      · rw [List.length_cons, List.length_cons]; omega
    · split
      · split
        · omega
        · exact Nat.le_refl _
      · rw [List.length_cons, List.length_cons]; omega
theorem cf_len : ∀ l : List (κ × β), (cf l).length ≤ l.length
  | [] => Nat.le_refl _
  | z :: l => Nat.le_trans (ins_len _) (by rw [List.length_cons]; exact Nat.succ_le_succ (cf_len l))
theorem cf_mem {l : List (κ × β)} {z : κ × β} (h : z ∈ cf l) : z.2 = co l z.1 := by rw [← co_cf, co_one (cn_cf l).nd h]
theorem cf_key {z : κ × β} : ∀ {l : List (κ × β)}, z ∈ cf l → z.1 ∈ l.map (·.1)
  | [], h => by cases h
  | y :: l, h => by
    rcases ins_mem (l := cf l) h with a | a
    · rw [a]
      exact List.mem_cons_self
    · exact List.mem_cons_of_mem _ (cf_key a)
end
end Nd
namespace Nd
set_option autoImplicit false
set_option linter.unusedSectionVars false
open scoped Rat
/-! ### how great the numbers are -/
/-- r times D is whole -/
def Wh (D : Nat) (r : Rat) : Prop := ∃ z : Int, r * ((D : Int) : Rat) = (z : Rat)
def ab (D : Nat) (r : Rat) : Nat := (r * ((D : Int) : Rat)).num.natAbs
theorem ab_of {D : Nat} {r : Rat} {z : Int} (h : r * ((D : Int) : Rat) = (z : Rat)) : ab D r = z.natAbs := by
  unfold ab
  rw [h, Rat.num_intCast]
theorem wh_nul {D : Nat} : Wh D 0 := ⟨0, by rw [Rat.zero_mul]; rfl⟩
theorem ab_nul {D : Nat} : ab D 0 = 0 := by rw [ab_of (z := 0) (by rw [Rat.zero_mul]; rfl)]; rfl
theorem wh_add {D : Nat} {r s : Rat} (h : Wh D r) (k : Wh D s) : Wh D (r + s) ∧ ab D (r + s) ≤ ab D r + ab D s := by
  obtain ⟨a, ha⟩ := h
  obtain ⟨b, hb⟩ := k
  have e : (r + s) * ((D : Int) : Rat) = ((a + b : Int) : Rat) := by rw [Rat.add_mul, ha, hb, Rat.intCast_add]
  refine ⟨⟨_, e⟩, ?_⟩
  rw [ab_of e, ab_of ha, ab_of hb]
  exact Int.natAbs_add_le a b
theorem wh_mul {D E : Nat} {r s : Rat} (h : Wh D r) (k : Wh E s) : Wh (D * E) (r * s) ∧ ab (D * E) (r * s) = ab D r * ab E s := by
  obtain ⟨a, ha⟩ := h
  obtain ⟨b, hb⟩ := k
  have e : (r * s) * (((D * E : Nat) : Int) : Rat) = ((a * b : Int) : Rat) := by
    rw [Rat.intCast_mul, ← ha, ← hb, Int.natCast_mul, Rat.intCast_mul]
    grind
  refine ⟨⟨_, e⟩, ?_⟩
  rw [ab_of e, ab_of ha, ab_of hb, Int.natAbs_mul]
theorem wh_c {c : Nat} : Wh c 1 ∧ ab c 1 = c := by
  have e : (1 : Rat) * ((c : Int) : Rat) = ((c : Int) : Rat) := Rat.one_mul _
  exact ⟨⟨_, e⟩, by rw [ab_of e]; rfl⟩
theorem wh_up {D : Nat} (c : Nat) {r : Rat} (h : Wh D r) : Wh (D * c) r ∧ ab (D * c) r = ab D r * c := by
  have := wh_mul h (wh_c (c := c)).1
  rw [Rat.mul_one, wh_c.2] at this
  exact this
theorem ab_small {D : Nat} (hD : 0 < D) {r : Rat} (h : Wh D r) : r.num.natAbs ≤ ab D r ∧ r.den ≤ D := by
  obtain ⟨z, hz⟩ := h
  rw [ab_of hz]
  have dp := r.den_pos
  have e0 : r = z /. (D : Int) := by
    have h1 : ((D : Int) : Rat) ≠ 0 := by
      intro h
      have := Rat.intCast_inj.mp (h.trans rfl : ((D : Int) : Rat) = ((0 : Int) : Rat))
      omega
    rw [Rat.divInt_eq_div, ← hz, Rat.mul_div_cancel h1]
  have e1 : r.num * (D : Int) = z * (r.den : Int) := by
    have h1 : r.num /. (r.den : Int) = z /. (D : Int) := (Rat.num_divInt_den r).trans e0
    exact (Rat.divInt_eq_divInt_iff (by omega) (by omega)).mp h1
  have e2 : r.num.natAbs * D = z.natAbs * r.den := by
    have := congrArg Int.natAbs e1
    rw [Int.natAbs_mul, Int.natAbs_mul, Int.natAbs_natCast, Int.natAbs_natCast] at this
    exact this
  have dv : r.den ∣ D := by
    have : r.den ∣ r.num.natAbs * D := ⟨z.natAbs, by rw [e2, Nat.mul_comm]⟩
    exact (Nat.Coprime.symm r.reduced).dvd_of_dvd_mul_left this
  refine ⟨?_, Nat.le_of_dvd hD dv⟩
  obtain ⟨c, hc⟩ := dv
  have hc0 : 0 < c := by
    rcases Nat.eq_zero_or_pos c with h | h
    · rw [h] at hc
      omega
    · exact h
  have : z.natAbs = r.num.natAbs * c := by
    have h3 : r.den * z.natAbs = r.den * (r.num.natAbs * c) := by
      rw [Nat.mul_comm r.den z.natAbs, ← e2, hc, Nat.mul_left_comm]
    exact Nat.eq_of_mul_eq_mul_left dp h3
  rw [this]
  exact Nat.le_mul_of_pos_right _ hc0
section
variable {κ : Type} [DecidableEq κ]
def wt (D : Nat) (p : List (κ × Rat)) : Nat := (p.map fun t => ab D t.2).sum
structure Lim (D N : Nat) (p : List (κ × Rat)) : Prop where
  w : ∀ t ∈ p, Wh D t.2
  s : wt D p ≤ N
variable {D E N M : Nat} {p q : List (κ × Rat)}
theorem wt_cons (t : κ × Rat) : wt D (t :: p) = ab D t.2 + wt D p := by unfold wt; rw [List.map_cons, List.sum_cons]
theorem wt_app : wt D (p ++ q) = wt D p + wt D q := by unfold wt; rw [List.map_append, List.sum_append]
theorem Lim.le (h : Lim D N p) (k : N ≤ M) : Lim D M p := ⟨h.w, Nat.le_trans h.s k⟩
theorem Lim.nil : Lim D N ([] : List (κ × Rat)) := ⟨fun _ h => (by cases h), Nat.zero_le _⟩
theorem Lim.app (h : Lim D N p) (k : Lim D M q) : Lim D (N + M) (p ++ q) := ⟨fun t ht => by
  rcases List.mem_append.mp ht with a | a
  · exact h.w t a
  · exact k.w t a, by rw [wt_app]; exact Nat.add_le_add h.s k.s⟩
theorem Lim.l (h : Lim D N (p ++ q)) : Lim D N p := ⟨fun t ht => h.w t (List.mem_append_left _ ht), by have := h.s; rw [wt_app] at this; omega⟩
theorem Lim.r (h : Lim D N (p ++ q)) : Lim D N q := ⟨fun t ht => h.w t (List.mem_append_right _ ht), by have := h.s; rw [wt_app] at this; omega⟩
theorem Lim.at (h : Lim D N p) {t : κ × Rat} (ht : t ∈ p) : Wh D t.2 ∧ ab D t.2 ≤ N := by
  refine ⟨h.w t ht, Nat.le_trans ?_ h.s⟩
  obtain ⟨a, b, rfl⟩ := List.append_of_mem ht
  rw [wt_app, wt_cons]
  omega
theorem Lim.co (h : Lim D N p) (k : κ) : Wh D (co p k) ∧ ab D (co p k) ≤ N := by
  suffices ∀ p : List (κ × Rat), (∀ t ∈ p, Wh D t.2) → Wh D (Nd.co p k) ∧ ab D (Nd.co p k) ≤ wt D p by
    obtain ⟨a, b⟩ := this p h.w
    exact ⟨a, Nat.le_trans b h.s⟩
  intro p hp
  induction p with
  | nil => exact ⟨wh_nul, by rw [co_nil, ab_nul]; exact Nat.zero_le _⟩
  | cons t p ih =>
    obtain ⟨i1, i2⟩ := ih fun x hx => hp x (List.mem_cons_of_mem _ hx)
    have h1 := hp t List.mem_cons_self
    rw [co_cons, wt_cons]
    by_cases e : t.1 = k
    · rw [if_pos e]
      obtain ⟨j1, j2⟩ := wh_add h1 i1
      exact ⟨j1, by omega⟩
    · rw [if_neg e]
      obtain ⟨j1, j2⟩ := wh_add (wh_nul (D := D)) i1
      rw [ab_nul] at j2
      exact ⟨j1, by omega⟩
theorem Lim.up (h : Lim D N p) (c : Nat) : Lim (D * c) (N * c) p := by
  refine ⟨fun t ht => (wh_up c (h.w t ht)).1, Nat.le_trans (Nat.le_of_eq ?_) (Nat.mul_le_mul_right c h.s)⟩
  have hw := h.w
  clear h
  induction p with
  | nil => unfold wt; simp
  | cons t p ih =>
    rw [wt_cons, wt_cons, (wh_up c (hw t List.mem_cons_self)).2, ih fun x hx => hw x (List.mem_cons_of_mem _ hx), Nat.add_mul]
theorem Lim.map {ι : Type} [DecidableEq ι] {f : κ × Rat → ι × Rat} {c : Nat} (h : Lim D N p) (hf : ∀ t ∈ p, Wh D t.2 → Wh E (f t).2 ∧ ab E (f t).2 ≤ ab D t.2 * c) : Lim E (N * c) (p.map f) := by
  refine ⟨fun x hx => ?_, Nat.le_trans ?_ (Nat.mul_le_mul_right c h.s)⟩
  · obtain ⟨t, ht, rfl⟩ := List.mem_map.mp hx
    exact (hf t ht (h.w t ht)).1
  · have hw := h.w
    clear h
    induction p with
    | nil => unfold wt; simp
    | cons t p ih =>
      rw [List.map_cons, wt_cons, wt_cons, Nat.add_mul]
      exact Nat.add_le_add (hf t List.mem_cons_self (hw t List.mem_cons_self)).2 (ih (fun x hx => hf x (List.mem_cons_of_mem _ hx)) fun x hx => hw x (List.mem_cons_of_mem _ hx))
theorem Lim.filter (h : Lim D N p) (f : κ × Rat → Bool) : Lim D N (p.filter f) := by
  refine ⟨fun t ht => h.w t (List.mem_filter.mp ht).1, Nat.le_trans ?_ h.s⟩
  clear h
  induction p with
  | nil => exact Nat.le_refl _
  | cons t p ih =>
    rw [List.filter_cons, wt_cons]
    split
    · rw [wt_cons]
      omega
    · omega
variable [Od κ]
theorem lim_ins {k : κ} {v : Rat} (hv : Wh D v) (hw : ∀ t ∈ p, Wh D t.2) : (∀ t ∈ ins k v p, Wh D t.2) ∧ wt D (ins k v p) ≤ ab D v + wt D p := by
  induction p with
  | nil =>
    unfold ins
    split
    · exact ⟨fun _ h => (by cases h), Nat.zero_le _⟩
    · exact ⟨fun t h => by rw [List.mem_singleton.mp h]; exact hv, by rw [wt_cons]; exact Nat.le_refl _⟩
  | cons t p ih =>
    obtain ⟨i1, i2⟩ := ih fun x hx => hw x (List.mem_cons_of_mem _ hx)
    have h0 := hw t List.mem_cons_self
    have h1 : ∀ x ∈ p, Wh D x.2 := fun x hx => hw x (List.mem_cons_of_mem _ hx)
    obtain ⟨j1, j2⟩ := wh_add h0 hv
    unfold ins
    rw [wt_cons]
    split
    · split
      · exact ⟨h1, by omega⟩
      · refine ⟨fun x hx => ?_, by rw [wt_cons]; dsimp only; omega⟩
        rcases List.mem_cons.mp hx with rfl | hx
        · exact j1
        · exact h1 x hx
    · split
      · split
        · exact ⟨hw, by rw [wt_cons]; omega⟩
        · refine ⟨fun x hx => ?_, by rw [wt_cons, wt_cons]; exact Nat.le_refl _⟩
          rcases List.mem_cons.mp hx with rfl | hx
          · exact hv
          · exact hw x hx
      · refine ⟨fun x hx => ?_, by rw [wt_cons]; omega⟩
        rcases List.mem_cons.mp hx with rfl | hx
        · exact h0
        · exact i1 x hx
theorem Lim.cf (h : Lim D N p) : Lim D N (cf p) := by
  suffices ∀ p : List (κ × Rat), (∀ t ∈ p, Wh D t.2) → (∀ t ∈ Nd.cf p, Wh D t.2) ∧ wt D (Nd.cf p) ≤ wt D p by
    obtain ⟨a, b⟩ := this p h.w
    exact ⟨a, Nat.le_trans b h.s⟩
  intro p hp
  induction p with
  | nil => exact ⟨hp, Nat.le_refl _⟩
  | cons t p ih =>
    obtain ⟨i1, i2⟩ := ih fun x hx => hp x (List.mem_cons_of_mem _ hx)
    obtain ⟨j1, j2⟩ := lim_ins (k := t.1) (hp t List.mem_cons_self) i1
    refine ⟨j1, Nat.le_trans j2 ?_⟩
    rw [wt_cons]
    omega
end
/-- limits under which all is done -/
structure LimB (D N : Nat) : Prop where
  p : 0 < D
  d : D < 2 ^ 4000
  n : N < 2 ^ 4000
end Nd
namespace Nd
set_option autoImplicit false
open PySem PySem.W L2 My Evl PyProof.Rows Lean.Grind
/-! ### derivatives and monomials in order -/
instance : Od Dv where
  lt u v := dataLt u.D v.D
  irr u := lex_irrefl _
  tr h k := lex_trans _ _ _ h k
  tri {u v} h := dlt_ne (alike_dv u v) (by rw [eqv_dv0, decide_eq_false h])
instance : Od Mo where
  lt m n := dataLt (moD m) (moD n)
  irr m := lex_irrefl _
  tr h k := lex_trans _ _ _ h k
  tri {m n} h := dlt_ne (alike_mo m n) (by rw [eqv_mo, decide_eq_false h])
abbrev Pq := List (Mo × Rat)
/-- a monomial as it should be -/
structure MoC (m : Mo) : Prop where
  c : Cn m
  p : ∀ x ∈ m, 0 < x.2
structure PoC (p : Pq) : Prop where
  c : Cn p
  m : ∀ t ∈ p, MoC t.1
def tq (t : Mo × Rat) : Mo × Fr := (t.1, fr t.2)
def toPo (p : Pq) : Po := p.map tq
/-- monomials together -/
def mm (m n : Mo) : Mo := cf (m ++ n)
theorem co_nn {m : Mo} (h : ∀ x ∈ m, 0 ≤ x.2) (u : Dv) : 0 ≤ co m u := by
  induction m with
  | nil => exact Int.le_refl 0
  | cons x m ih =>
    rw [co_cons]
    have h1 := ih fun y hy => h y (List.mem_cons_of_mem _ hy)
    have h2 := h x List.mem_cons_self
    split
    · exact Int.add_nonneg h2 h1
    · exact Int.add_nonneg (Int.le_refl 0) h1
theorem moc_cf {m : Mo} (h : ∀ u, 0 ≤ co m u) : MoC (cf m) := ⟨cn_cf m, fun x hx => by
  have h1 := cf_mem hx
  have h2 := h x.1
  have h3 : x.2 ≠ 0 := (cn_cf m).nz x hx
  omega⟩
theorem mm_nil {m : Mo} (h : MoC m) : mm [] m = m := cf_cn h.c
theorem poc_cf {p : Pq} (h : ∀ t ∈ p, MoC t.1) : PoC (cf p) := ⟨cn_cf p, fun t ht => by
  obtain ⟨y, hy, e⟩ := List.mem_map.mp (cf_key ht)
  exact e ▸ h y hy⟩
theorem poc_nil : PoC [] := ⟨⟨.nil, fun _ h => by cases h⟩, fun _ h => by cases h⟩
/-- each number times r -/
def scP (p : Pq) (r : Rat) : Pq := p.map fun t => (t.1, t.2 * r)
/-- all terms of a product, one by one -/
def rowP (t : Mo × Rat) (q : Pq) : Pq := q.map fun s => (mm t.1 s.1, t.2 * s.2)
def mulR (p q : Pq) : Pq := p.flatMap fun t => rowP t q
def addP (p q : Pq) : Pq := cf (p ++ q)
def mulP (p q : Pq) : Pq := cf (mulR p q)
theorem mem_row {t : Mo × Rat} {q : Pq} {z : Mo × Rat} (h : z ∈ rowP t q) : ∃ s ∈ q, z.1 = mm t.1 s.1 := by
  obtain ⟨s, hs, rfl⟩ := List.mem_map.mp h
  exact ⟨s, hs, rfl⟩
theorem poc_add {p q : Pq} (h : PoC p) (k : PoC q) : PoC (addP p q) := poc_cf fun t ht => by
  rcases List.mem_append.mp ht with a | a
  · exact h.m t a
  · exact k.m t a
theorem one_mul {p : Pq} (h : PoC p) : mulP [([], 1)] p = p := by
  unfold mulP
  have : mulR [([], 1)] p = p := by
    show rowP ([], 1) p ++ [] = p
    rw [List.append_nil]
    unfold rowP
    conv => rhs; rw [← List.map_id p]
    refine List.map_congr_left fun s hs => ?_
    show (mm [] s.1, (1 : Rat) * s.2) = s
    rw [mm_nil (h.m s hs), Rat.one_mul]
  rw [this]
  exact cf_cn h.c
theorem addP_len (p q : Pq) : (addP p q).length ≤ p.length + q.length := Nat.le_trans (cf_len _) (Nat.le_of_eq (List.length_append ..))
/-! ### deriving -/
end Nd
namespace Nd
set_option autoImplicit false
open PySem PySem.Spec PySem.W PySem.Calls PyProof.Rows L2 My Evl
/-! ### dicts by nested keys: read -/
theorem at_look {k : NestedKey} {xs : List NV} {us : List Value} (r : Vals (xs.map (·.2.2)) us) {d : V} {u : Value} (rd : RelV d u) :
    RelV ((look xs k).getD d) (((atKey (lay xs us) k).map (·.2)).getD u) := by
  obtain ⟨_, h2, h3⟩ := at_lay (k := k) r
  cases e : look xs k with
  | none =>
    rw [h3 e]
    exact rd
  | some v =>
    obtain ⟨b, u', hu, rv⟩ := h2 v e
    rw [hu]
    exact rv
section
variable {X : Cx} {o i f : Expr} {pos apos cpos : Pos} {td ty tx : TE}
/-- d[k] -/
def tDGetN (P : Program) (w : World) (K : PySem.W.Frag) (td ty : TE) : TE := fun σ H Q => td σ H fun x H1 => ty σ H1 fun y H2 => ∃ (d a : Addr) (xs : List NV) (k : NestedKey) (v : V), x = .ref d ∧ y = .ref a ∧ H2 d = some (DN P w d xs) ∧ KeysOk K H2 xs ∧ KeyAt K H2 a k ∧ look xs k = some v ∧ Q v H2
theorem isD_n {pins : List (Addr × Obj)} {σ : L2.St} {H : Hp} {s : Shared} {d : Addr} {xs : List NV} (I : Inv X pins σ H s) (h : H d = some (DN X.prog X.w d xs)) : s.TypeIs (.ref d) "dict" ∧ ∃ ob, s.heap.get? d = some ob ∧ ob.ExactDict := by
  obtain ⟨_, _, _, ob, _, _, _, h1, h2, _⟩ := (I.hok d _ h).1
  exact ⟨⟨ob, h1, h2.1⟩, ob, h1, h2⟩
theorem pe_dgetN (hu : X.A.units + 9 < cLine) (ho : PE X o td) (hi : PE X i ty) (hs : NoSl i) : PE X (.Subscript o i pos) (tDGetN X.prog X.w X.K td ty) := by
  constructor
  intro pins s σ H Q I h
  refine subD_of PySem.F.slot_dict_getitem.lookup hs (thn (ho.run pins s σ H _ I h) fun u s1 z => ?_)
  obtain ⟨x, H1, I1, rx, q1⟩ := z
  refine thn (hi.run pins s1 σ H1 _ I1 q1) fun iv s2 z => ?_
  obtain ⟨y, H2, I2, ry, d, a, xs, k, v, ex, ey, hd, hk, hkey, hl, q⟩ := z
  subst ex ey
  obtain rfl : u = Value.ref d := rx
  obtain rfl : iv = Value.ref a := ry
  obtain ⟨z1, z2, us, r, m⟩ := dn_of I2 hd hk
  obtain ⟨_, h2, _⟩ := at_lay (k := k) r
  obtain ⟨b, u', hu', rv⟩ := h2 v hl
  refine ⟨(isD_n I2 hd).1, wpAny_getItem_heap (knd := nestedKind X.prog X.w) (by show X.A.units + 1 + 8 < cLine; omega) (key_is I2 hkey) m hu' ?_⟩
  exact ⟨v, H2, I2.tok _, rv, q⟩
/-- d.get(k, x) -/
def tDGet2N (P : Program) (w : World) (K : PySem.W.Frag) (td ty tx : TE) : TE := fun σ H Q => td σ H fun x H1 => ∃ d, x = .ref d ∧ (∃ xs, H1 d = some (DN P w d xs)) ∧ ty σ H1 fun y H2 => tx σ H2 fun z H3 =>
  ∃ (a : Addr) (xs : List NV) (k : NestedKey), y = .ref a ∧ H3 d = some (DN P w d xs) ∧ KeysOk K H3 xs ∧ KeyAt K H3 a k ∧ Q ((look xs k).getD z) H3
theorem pe_dget2N (hu : X.A.units + 9 < cLine) (ho : PE X o td) (he : PE X i ty) (hf : PE X f tx) (m : M2 X o "get" apos i f cpos) : PE X (.Call (.Attribute o "get" apos) [i, f] [] cpos) (tDGet2N X.prog X.w X.K td ty tx) := by
  constructor
  intro pins s σ H Q I h
  refine wpAny_Call_method m.base m.few m.line PySem.F.plainAttrs_dict PySem.F.slot_dict_get PySem.F.type_dict_get (thn (ho.run pins s σ H _ I h) fun u s1 z => ?_)
  obtain ⟨x, H1, I1, rx, d, ex, ⟨xs0, hd0⟩, q1⟩ := z
  subst ex
  obtain rfl : u = Value.ref d := rx
  obtain ⟨t1, ob, t2, t3⟩ := isD_n I1 hd0
  refine ⟨t1, fun b e => by cases e; exact ⟨ob, t2, t3.2.1⟩, ?_⟩
  rw [m.trees]
  refine callWith_builtin rfl (evalArgs_plain (spliced_cons (thn (he.run pins s1 σ H1 _ I1 q1) fun iv s2 z => ?_)))
  obtain ⟨y, H2, I2, ry, q2⟩ := z
  refine spliced_cons (thn (hf.run pins s2 σ H2 _ I2 q2) fun fv s3 z => spliced_nil ?_)
  obtain ⟨zv, H3, I3, rz, a, xs, k, ey, hd, hk, hkey, q⟩ := z
  subst ey
  obtain rfl : iv = Value.ref a := ry
  obtain ⟨z1, z2, us, r, mm⟩ := dn_of I3 hd hk
  refine call_meetsIn PySem.F.slot_dict_get mm.typeIs PySem.F.entry_dict_get (PySem.F.args_dict_get_3 _ _ _) (meetsH_dict_get_default (nestedKind X.prog X.w) d a z1 fv) ⟨by show X.A.units + 1 + 8 < cLine; omega, k, _, key_is I3 hkey, mm, ?_⟩
  exact ⟨_, H3, I3.tok _, at_look r rz, q⟩
end
end Nd
namespace Nd
set_option autoImplicit false
open PySem PySem.Spec PySem.W PySem.Calls PyProof.Rows L2 My Evl
/-! ### dicts by nested keys: comprehensions -/
section
variable {X : Cx}
end
end Nd
namespace Nd
set_option autoImplicit false
open PySem PySem.W L2 My Evl Lean.Grind
/-! ### what a dict by nested keys holds -/
structure Ky (K : PySem.W.Frag) (κ : Type) where
  kp : κ → Pr
  kd : κ → PyData
  to : ∀ k, To K (kp k) (kd k)
  rf : ∀ {k : κ} {v : V} {H : Hp}, (kp k).P v H → ∃ a, v = .ref a
  ks : ∀ k, keyish (kd k) = true
  inj : ∀ {a b : κ}, nk (kd a) = nk (kd b) → a = b
  dp : ∀ k, (nk (kd k)).depth ≤ 8
def kyD (K : PySem.W.Frag) : Ky K Dv := ⟨DvP, Dv.D, to_dv, fun ⟨a, h, _⟩ => ⟨a, h⟩, fun u => by simp [Dv.D, keyish, keyishAll], nk_inj, deep_nk⟩
section
variable {κ β : Type} [DecidableEq κ]
def KG {K : PySem.W.Frag} (ky : Ky K κ) (vp : β → Pr) : List (κ × β) → List NV → Hp → Prop
  | [], [], _ => True
  | z :: zs, x :: xs, B => (x.1 = nk (ky.kd z.1) ∧ (ky.kp z.1).P (.ref x.2.1) B ∧ (vp z.2).P x.2.2 B) ∧ KG ky vp zs xs B
  | [], _ :: _, _ => False
  | _ :: _, [], _ => False
def hasG (zs : List (κ × β)) (k : κ) : Bool := zs.any fun z => decide (z.1 = k)
def putG (zs : List (κ × β)) (k : κ) (v : β) : List (κ × β) := if hasG zs k = true then zs.map fun z => if z.1 = k then (z.1, v) else z else zs ++ [(k, v)]
def valG (zs : List (κ × β)) (k : κ) : Option β := (zs.find? fun z => decide (z.1 = k)).map (·.2)
variable {K : PySem.W.Frag} {ky : Ky K κ} {vp : β → Pr} {B B' H : Hp}
theorem KG.m (e : Ex B B') : ∀ {zs : List (κ × β)} {xs : List NV}, KG ky vp zs xs B → KG ky vp zs xs B'
  | [], [], _ => trivial
  | _ :: _, _ :: _, h => ⟨⟨h.1.1, (ky.kp _).m e h.1.2.1, (vp _).m e h.1.2.2⟩, KG.m e h.2⟩
theorem KG.len : ∀ {zs : List (κ × β)} {xs : List NV}, KG ky vp zs xs B → xs.length = zs.length
  | [], [], _ => rfl
  | _ :: _, _ :: _, h => congrArg Nat.succ (KG.len h.2)
theorem KG.at : ∀ {zs : List (κ × β)} {xs : List NV} {i : Nat} {x : NV}, KG ky vp zs xs B → xs[i]? = some x → ∃ z, zs[i]? = some z ∧ x.1 = nk (ky.kd z.1) ∧ (ky.kp z.1).P (.ref x.2.1) B ∧ (vp z.2).P x.2.2 B
  | [], [], i, x, _, h => by simp at h
  | z :: _, y :: _, 0, x, h, e => by
    obtain rfl := Option.some.inj e
    exact ⟨z, rfl, h.1⟩
  | _ :: _, _ :: _, i + 1, x, h, e => KG.at (i := i) h.2 e
theorem KG.has (k : κ) : ∀ {zs : List (κ × β)} {xs : List NV}, KG ky vp zs xs B → hasN xs (nk (ky.kd k)) = hasG zs k
  | [], [], _ => rfl
  | z :: zs, x :: xs, h => by
    have ih := KG.has k h.2
    unfold hasN hasG at *
    rw [List.any_cons, List.any_cons, ih, h.1.1]
    congr 1
    rw [Bool.eq_iff_iff, decide_eq_true_eq, decide_eq_true_eq]
    exact ⟨ky.inj, fun e => by rw [e]⟩
theorem KG.app : ∀ {zs ys : List (κ × β)} {xs us : List NV}, KG ky vp zs xs B → KG ky vp ys us B → KG ky vp (zs ++ ys) (xs ++ us) B
  | [], _, [], _, _, h => h
  | _ :: _, _, _ :: _, _, a, h => ⟨a.1, KG.app a.2 h⟩
theorem KG.set {k : κ} {f : β} {v : V} (hf : (vp f).P v B) : ∀ {zs : List (κ × β)} {xs : List NV}, KG ky vp zs xs B → KG ky vp (zs.map fun z => if z.1 = k then (z.1, f) else z) (xs.map fun x => if x.1 = nk (ky.kd k) then (x.1, x.2.1, v) else x) B
  | [], [], _ => trivial
  | z :: zs, x :: xs, h => by
    refine ⟨?_, KG.set hf h.2⟩
    dsimp only
    by_cases e : z.1 = k
    · rw [if_pos e, if_pos (by rw [h.1.1, e])]
      exact ⟨h.1.1, h.1.2.1, hf⟩
    · rw [if_neg e, if_neg (fun q => e (ky.inj (h.1.1.symm.trans q)))]
      exact h.1
theorem KG.put {k : κ} {f : β} {a : Addr} {v : V} {zs : List (κ × β)} {xs : List NV} (h : KG ky vp zs xs B) (ha : (ky.kp k).P (.ref a) B) (hf : (vp f).P v B) : KG ky vp (putG zs k f) (putN xs (nk (ky.kd k)) a v) B := by
  unfold putG putN
  rw [h.has k]
  cases hasG zs k with
  | true => exact h.set hf
  | false => exact h.app ⟨⟨rfl, ha, hf⟩, trivial⟩
theorem Ky.at_ {k : κ} {a : Addr} (ky : Ky K κ) (h : (ky.kp k).P (.ref a) H) : KeyAt K H a (nk (ky.kd k)) := ⟨ky.kd k, ky.to k _ _ h, ky.ks k, rfl, ky.dp k⟩
theorem KG.ok {zs : List (κ × β)} {xs : List NV} (h : KG ky vp zs xs B) (e : Ex B H) : KeysOk K H xs := fun x hx => by
  obtain ⟨i, hi⟩ := List.mem_iff_getElem?.mp hx
  obtain ⟨z, _, h1, h2, _⟩ := (h.m e).at hi
  rw [h1]
  exact ky.at_ h2
theorem KG.look (k : κ) : ∀ {zs : List (κ × β)} {xs : List NV}, KG ky vp zs xs B → (valG zs k = none ∧ look xs (nk (ky.kd k)) = none) ∨ ∃ f v, valG zs k = some f ∧ look xs (nk (ky.kd k)) = some v ∧ (vp f).P v B
  | [], [], _ => .inl ⟨rfl, rfl⟩
  | z :: zs, x :: xs, h => by
    have ih := KG.look k h.2
    unfold valG Nd.look at *
    rw [List.find?_cons, List.find?_cons]
    by_cases e : z.1 = k
    · rw [_root_.decide_eq_true e, _root_.decide_eq_true (by rw [h.1.1, e])]
      exact .inr ⟨_, _, rfl, rfl, h.1.2.2⟩
    · rw [decide_eq_false e, decide_eq_false (fun q => e (ky.inj (h.1.1.symm.trans q)))]
      exact ih
theorem hasG_mem {zs : List (κ × β)} {k : κ} : hasG zs k = true ↔ k ∈ zs.map (·.1) := by
  unfold hasG
  rw [List.any_eq_true, List.mem_map]
  exact ⟨fun ⟨z, h, e⟩ => ⟨z, h, of_decide_eq_true e⟩, fun ⟨z, h, e⟩ => ⟨z, h, _root_.decide_eq_true e⟩⟩
theorem putG_keys (zs : List (κ × β)) (k : κ) (f : β) : (putG zs k f).map (·.1) = if hasG zs k = true then zs.map (·.1) else zs.map (·.1) ++ [k] := by
  unfold putG
  split
  · rw [List.map_map]
    refine List.map_congr_left fun z _ => ?_
    show (if z.1 = k then (z.1, f) else z).1 = z.1
    split <;> rfl
  · rw [List.map_append]
    rfl
theorem putG_nd {zs : List (κ × β)} {k : κ} {f : β} (h : (zs.map (·.1)).Nodup) : ((putG zs k f).map (·.1)).Nodup := by
  rw [putG_keys]
  split
  · exact h
  · rename_i e
    rw [List.nodup_append]
    exact ⟨h, by simp, fun a ha b hb => by
      rw [List.mem_singleton.mp hb]
      rintro rfl
      exact e (hasG_mem.mpr ha)⟩
theorem putG_len {zs : List (κ × β)} {k : κ} {f : β} : (putG zs k f).length ≤ zs.length + 1 := by
  unfold putG
  split
  · rw [List.length_map]
    omega
  · rw [List.length_append]
    exact Nat.le_refl _
variable [CommRing β]
theorem val_co {zs : List (κ × β)} (nd : (zs.map (·.1)).Nodup) (k : κ) : (valG zs k).getD 0 = co zs k := by
  induction zs with
  | nil => rfl
  | cons z zs ih =>
    rw [List.map_cons, List.nodup_cons] at nd
    unfold valG at *
    rw [List.find?_cons, co_cons]
    by_cases e : z.1 = k
    · rw [_root_.decide_eq_true e, if_pos e, co_none (fun y hy q => nd.1 (List.mem_map.mpr ⟨y, hy, q.trans e.symm⟩)), a_zero]
      rfl
    · rw [decide_eq_false e, if_neg e, z_add]
      exact ih nd.2
theorem val_no {zs : List (κ × β)} {k : κ} : valG zs k = none ↔ hasG zs k = false := by
  unfold valG hasG
  rw [Option.map_eq_none_iff, List.find?_eq_none, List.any_eq_false]
theorem put_co {zs : List (κ × β)} (nd : (zs.map (·.1)).Nodup) (k : κ) (f : β) (j : κ) : co (putG zs k f) j = if k = j then f else co zs j := by
  unfold putG
  cases e : hasG zs k with
  | false =>
    rw [if_neg Bool.false_ne_true, co_app, co_cons, co_nil, a_zero]
    have h0 : co zs k = 0 := co_none fun z hz q => by
      have : hasG zs k = true := hasG_mem.mpr (List.mem_map.mpr ⟨z, hz, q⟩)
      rw [e] at this
      cases this
    dsimp only
    by_cases q : k = j
    · rw [if_pos q, if_pos q, ← q, h0, z_add]
    · rw [if_neg q, if_neg q, a_zero]
  | true =>
    rw [if_pos rfl]
    have hm : ∃ z ∈ zs, z.1 = k := List.mem_map.mp (hasG_mem.mp e)
    clear e
    by_cases q : k = j
    · subst q
      rw [if_pos rfl]
      obtain ⟨z, hz, rfl⟩ := hm
      have hz2 : (z.1, f) ∈ zs.map fun y => if y.1 = z.1 then (y.1, f) else y := List.mem_map.mpr ⟨z, hz, by rw [if_pos rfl]⟩
      refine co_one ?_ hz2
      have := putG_nd (k := z.1) (f := f) nd
      unfold putG at this
      rw [if_pos (hasG_mem.mpr (List.mem_map.mpr ⟨z, hz, rfl⟩))] at this
      exact this
    · rw [if_neg q]
      clear nd hm
      induction zs with
      | nil => rfl
      | cons z zs ih =>
        rw [List.map_cons, co_cons, co_cons, ih]
        by_cases e : z.1 = k
        · rw [if_pos e, if_neg (by rw [e]; exact q), if_neg (by rw [e]; exact q)]
        · rw [if_neg e]
/-- r more at k -/
def addG (zs : List (κ × β)) (k : κ) (r : β) : List (κ × β) := putG zs k (co zs k + r)
theorem addG_co {zs : List (κ × β)} (nd : (zs.map (·.1)).Nodup) (k : κ) (r : β) (j : κ) : co (addG zs k r) j = co (zs ++ [(k, r)]) j := by
  unfold addG
  rw [put_co nd, co_app, co_cons, co_nil, a_zero]
  dsimp only
  by_cases q : k = j
  · rw [if_pos q, if_pos q, q]
  · rw [if_neg q, if_neg q, a_zero]
/-- all of l, one by one -/
def addAll (zs l : List (κ × β)) : List (κ × β) := l.foldl (fun zs z => addG zs z.1 z.2) zs
theorem addAll_nd : ∀ {l zs : List (κ × β)}, (zs.map (·.1)).Nodup → ((addAll zs l).map (·.1)).Nodup
  | [], _, h => h
  | _ :: l, _, h => addAll_nd (l := l) (putG_nd h)
theorem addAll_co : ∀ {l zs : List (κ × β)}, (zs.map (·.1)).Nodup → ∀ j, co (addAll zs l) j = co (zs ++ l) j
  | [], zs, _, j => by rw [List.append_nil]; rfl
  | z :: l, zs, h, j => by
    show co (addAll (addG zs z.1 z.2) l) j = _
    rw [addAll_co (zs := addG zs z.1 z.2) (putG_nd h), co_app, addG_co h, co_app, co_app, co_cons, co_cons, co_nil]
    grind
theorem addAll_len : ∀ {l zs : List (κ × β)}, (addAll zs l).length ≤ zs.length + l.length
  | [], zs => Nat.le_refl _
  | z :: l, zs => by
    have h1 := addAll_len (l := l) (zs := addG zs z.1 z.2)
    have h2 : (addG zs z.1 z.2).length ≤ zs.length + 1 := putG_len
    show (addAll (addG zs z.1 z.2) l).length ≤ _
    rw [List.length_cons]
    omega
theorem addAll_app (zs l m : List (κ × β)) : addAll zs (l ++ m) = addAll (addAll zs l) m := List.foldl_append
end
end Nd
namespace Nd
set_option autoImplicit false
open PySem PySem.Spec PySem.W PySem.Calls PyProof.Rows L2 My Evl
/-! ### d.items() walked, d a dict by nested keys that is locked -/
end Nd
namespace Nd
set_option autoImplicit false
open PySem PySem.W L2 My Evl
/-! ### a dict under way: made at H0, at d -/
section
variable {κ β : Type} [DecidableEq κ] {P : Program} {w : World} {K : PySem.W.Frag} {ky : Ky K κ} {vp : β → Pr}
structure DcAt (P : Program) (w : World) {K : PySem.W.Frag} (ky : Ky K κ) (vp : β → Pr) (B H0 : Hp) (d : Addr) (zs : List (κ × β)) (Bi H : Hp) : Prop where
  g : Gr B H0 Bi (wo d H)
  at_ : ∃ xs, H d = some (DN P w d xs) ∧ KG ky vp zs xs Bi
/-- a dict that holds this, as it is known -/
def DcP (P : Program) (w : World) {K : PySem.W.Frag} (ky : Ky K κ) (vp : β → Pr) (zs : List (κ × β)) : Pr :=
  ⟨fun v B => ∃ (d : Addr) (xs : List NV) (B0 : Hp), v = .ref d ∧ B d = some (DN P w d xs) ∧ B0 d = none ∧ Ex B0 B ∧ KG ky vp zs xs B0, fun e h => by
    obtain ⟨d, xs, B0, h1, h2, h3, h4, h5⟩ := h
    exact ⟨d, xs, B0, h1, e _ _ h2, h3, h4.trans e, h5⟩⟩
variable {B H0 Bi B2 H H2 : Hp} {d : Addr} {zs : List (κ × β)} {k : κ} {f f0 : β} {σ : L2.St} {D : Ends} {te ta tb ty tx tv : TE} {t tr : TA} {i : Nat} {p q : Pr} {ps qs : List Pr} {v : V}
theorem DcAt.ex (A : DcAt P w ky vp B H0 d zs Bi H) : Ex Bi H := A.g.c.trans wo_ex
theorem DcAt.no (A : DcAt P w ky vp B H0 d zs Bi H) : Bi d = none := wo_none A.g.c
theorem DcAt.on (A : DcAt P w ky vp B H0 d zs Bi H) : H d ≠ none := by
  obtain ⟨xs, h, _⟩ := A.at_
  rw [h]
  exact fun z => nomatch z
theorem DcAt.step (A : DcAt P w ky vp B H0 d zs Bi H) (k : Gr Bi H B2 H2) : DcAt P w ky vp B H0 d zs B2 H2 := by
  obtain ⟨xs, h, al⟩ := A.at_
  exact ⟨A.g.side A.on k, xs, k.a _ _ h, al.m k.b⟩
theorem DcAt.new (e : Ex B H) (hd : H d = none) : DcAt P w ky vp B H d [] B (upd H d (DN P w d [])) := ⟨by rw [wo_new hd]; exact Gr.refl e, [], upd_same, trivial⟩
theorem DcAt.put {xs : List NV} {a : Addr} (A : DcAt P w ky vp B H0 d zs Bi H) (h : H d = some (DN P w d xs)) (hx : KG ky vp zs xs Bi) (hk : (ky.kp k).P (.ref a) Bi) (hf : (vp f).P v Bi) :
    DcAt P w ky vp B H0 d (putG zs k f) Bi (upd H d (DN P w d (putN xs (nk (ky.kd k)) a v))) := ⟨by rw [wo_upd]; exact A.g, _, upd_same, hx.put hk hf⟩
theorem DcAt.fin (A : DcAt P w ky vp B H0 d zs Bi H) (h0 : H0 d = none) : ∃ B', Gr B H0 B' H ∧ (DcP P w ky vp zs).P (.ref d) B' := by
  obtain ⟨xs, hd, al⟩ := A.at_
  have hB := A.no
  refine ⟨upd Bi d (DN P w d xs), ⟨A.g.a.trans wo_ex, A.g.b.trans (Ex.new hB), fun b o e => ?_, fun x hb hh => ?_, fun z b qs q => ?_⟩, d, xs, Bi, rfl, upd_same, hB, Ex.new hB, al⟩
  · by_cases n : b = d
    · subst n
      rw [upd_same] at e
      rw [hd]
      exact e
    · rw [upd_ne n] at e
      exact A.ex _ _ e
  · have n : x ≠ d := fun z => hh (by rw [z]; exact h0)
    rw [upd_ne n]
    exact A.g.d x hb hh
  · by_cases n : b = d
    · subst n
      rw [upd_same] at q
      cases q
    · rw [upd_ne n] at q
      exact A.g.e z b qs q
/-- an expression while such a dict is under way, it stays -/
def EvA (P : Program) (w : World) {K : PySem.W.Frag} (ky : Ky K κ) (vp : β → Pr) (B H0 : Hp) (d : Addr) (zs : List (κ × β)) (Bi : Hp) (te : TE) (σ : L2.St) (p : Pr) : Prop :=
  ∀ B1 H1, Ex Bi B1 → DcAt P w ky vp B H0 d zs B1 H1 → ∀ Q : VK, (∀ v B2 H2, Ex B1 B2 → DcAt P w ky vp B H0 d zs B2 H2 → p.P v B2 → Q v H2) → te σ H1 Q
theorem a_ev (h : EvP te σ Bi p) : EvA P w ky vp B H0 d zs Bi te σ p := fun B1 H1 e A Q q => (h.mono e) H1 A.ex Q fun v B2 H2 g pv => q v B2 H2 g.b (A.step g) pv
theorem a_op {r : R2} {x y z : V} (ha : EvA P w ky vp B H0 d zs Bi ta σ (IsV x)) (hb : EvA P w ky vp B H0 d zs Bi tb σ (IsV y)) (hr : ∀ (H : Hp) (Q : VK), Q z H → r x y H Q) : EvA P w ky vp B H0 d zs Bi (tOp r ta tb) σ (IsV z) := fun B1 H1 e A Q q =>
  ha B1 H1 e A _ fun v B2 H2 e2 A2 pv => hb B2 H2 (e.trans e2) A2 _ fun u B3 H3 e3 A3 pu => by
    obtain rfl : v = x := pv
    obtain rfl : u = y := pu
    exact hr H3 Q (q z B3 H3 (e2.trans e3) A3 rfl)
/-- d.get(k, x) -/
theorem a_get2 (hs : σ[i]? = some (some (.ref d))) (hk : EvP ty σ Bi (ky.kp k)) (hf : EvP tx σ Bi (vp f0)) : EvA P w ky vp B H0 d zs Bi (tDGet2N P w K (tVar i) ty tx) σ (vp ((valG zs k).getD f0)) := fun B1 H1 e A Q q => by
  refine ⟨.ref d, hs, d, rfl, ?_, (hk.mono e) H1 A.ex _ fun y B2 H2 g py => ?_⟩
  · obtain ⟨xs, hx, _⟩ := A.at_
    exact ⟨xs, hx⟩
  have A2 := A.step g
  obtain ⟨a, rfl⟩ := ky.rf py
  refine (hf.mono (e.trans g.b)) H2 A2.ex _ fun u B3 H3 g3 pu => ?_
  have A3 := A2.step g3
  obtain ⟨xs, hx, al⟩ := A3.at_
  refine ⟨a, xs, _, rfl, hx, al.ok A3.ex, ky.at_ ((ky.kp k).m (g3.b.trans A3.ex) py), ?_⟩
  rcases al.look k with ⟨h1, h2⟩ | ⟨f', v, h1, h2, h3⟩
  · rw [h2]
    refine q u B3 H3 (g.b.trans g3.b) A3 ?_
    rw [h1]
    exact pu
  · rw [h2]
    refine q v B3 H3 (g.b.trans g3.b) A3 ?_
    rw [h1]
    exact h3
/-- d[k] = e -/
theorem ps_put (hs : σ[i]? = some (some (.ref d))) (A : DcAt P w ky vp B H0 d zs Bi H) (hv : EvA P w ky vp B H0 d zs Bi tv σ (vp f)) (hk : EvP ty σ Bi (ky.kp k)) (hl : zs.length < 100000)
    (q : ∀ B2 H2, Ex Bi B2 → DcAt P w ky vp B H0 d (putG zs k f) B2 H2 → D.nx σ H2) : sNPut P w K (tVar i) ty tv D σ H :=
  hv Bi H (Ex.refl Bi) A _ fun v B2 H2 e2 A2 pv => by
    refine ⟨.ref d, hs, (hk.mono e2) H2 A2.ex _ fun y B3 H3 g py => ?_⟩
    have A3 := A2.step g
    obtain ⟨xs, hx, al⟩ := A3.at_
    obtain ⟨a, rfl⟩ := ky.rf py
    exact ⟨d, a, xs, _, rfl, rfl, hx, al.ok A3.ex, ky.at_ ((ky.kp k).m A3.ex py), by rw [al.len]; exact hl, q B3 _ (e2.trans g.b) (A3.put hx al py ((vp f).m g.b pv))⟩
/-- {} -/
theorem dc_nul (e : Ex B H) (q : ∀ d H2, H d = none → DcAt P w ky vp B H d [] B H2 → D.nx (σ.set i (some (.ref d))) H2) : tAsg (tDNewN P w) (gName i) D σ H := fun d hd => q d _ hd (DcAt.new e hd)
end
end Nd
namespace Nd
set_option autoImplicit false
open PySem PySem.W L2 My Evl
section
variable {κ β : Type} [DecidableEq κ] {P : Program} {w : World} {K : PySem.W.Frag} {ky : Ky K κ} {vp : β → Pr}
variable {B H : Hp} {σ : L2.St} {te tk tv : TE} {g : TG} {tt : TT} {vs : List Nat} {ps : List Pr} {Q : VK}
end
end Nd
namespace Nd
set_option autoImplicit false
open PySem PySem.Spec PySem.W PySem.Calls PyProof.Rows L2 My Evl
/-! ### sorted of a list, by data -/
section
variable {X : Cx}
end
end Nd
namespace Nd
set_option autoImplicit false
open PySem PySem.W L2 My Evl PyProof.Rows
section
variable {te : TE} {σ : L2.St} {B H : Hp} {K : PySem.W.Frag} {ps : List Pr}
end
/-! ### sorting by data, any things -/
section
variable {α : Type}
def leZ (pd : α → PyData) (s t : α) : Bool := !dataLt (pd t) (pd s)
def srtZ (pd : α → PyData) (zs : List α) : List α := zs.mergeSort (leZ pd)
theorem byKey_Z {H : Hp} (pp : α → Pr) (pd : α → PyData) {xs : List V} {us : List α} (h : AllP (us.map pp) xs H) : AllP ((srtZ pd us).map pp) (byKey xs (us.map pd)) H := by
  have hl : xs.length = us.length := by
    have := h.len
    rw [List.length_map] at this
    exact this
  have e1 : xs.zip (us.map pd) = (xs.zip us).map fun p => (p.1, pd p.2) := zip_pairs _ hl
  have e2 : ((xs.zip us).mergeSort fun p q => leZ pd p.2 q.2).map (fun p => (p.1, pd p.2)) = (xs.zip (us.map pd)).mergeSort (dataLe false (·.2)) := by
    rw [e1]
    refine List.map_mergeSort fun p _ q _ => ?_
    rw [dataLe_eq]
    rfl
  have e3 : ((xs.zip us).mergeSort fun p q => leZ pd p.2 q.2).map (·.2) = srtZ pd us := by
    have := List.map_mergeSort (r := fun p q : V × α => leZ pd p.2 q.2) (s := leZ pd) (f := fun p : V × α => p.2) (l := xs.zip us) (fun _ _ _ _ => rfl)
    rw [this, List.map_snd_zip (by omega)]
    rfl
  have e4 : byKey xs (us.map pd) = ((xs.zip us).mergeSort fun p q => leZ pd p.2 q.2).map (·.1) := by
    unfold byKey
    rw [← e2, List.map_map]
    rfl
  rw [e4, ← e3]
  exact AllP.ofG pp fun p hp => AllP.zipG pp h p ((List.mergeSort_perm _ _).mem_iff.mp hp)
theorem leZ_tot (pd : α → PyData) (s t : α) : (leZ pd s t || leZ pd t s) = true := by
  unfold leZ
  cases h : dataLt (pd t) (pd s) with
  | false => rfl
  | true =>
    rw [dlt_as h]
    rfl
theorem leZ_tr (pd : α → PyData) (s t u : α) (h : leZ pd s t = true) (k : leZ pd t u = true) : leZ pd s u = true := by
  unfold leZ at *
  cases e : dataLt (pd u) (pd s) with
  | false => rfl
  | true =>
    rcases dlt_tr (y := pd t) e with a | a
    · rw [a] at k; cases k
    · rw [a] at h; cases h
theorem srtZ_perm (pd : α → PyData) (zs : List α) : (srtZ pd zs).Perm zs := List.mergeSort_perm zs _
end
section
variable {κ β : Type} [DecidableEq κ] [Od κ] [Lean.Grind.CommRing β] [DecidableEq β]
end
open Classical in
section
variable {C H : Hp}
end
end Nd
namespace My
set_option autoImplicit false
open PySem PySem.Spec PySem.W PySem.Calls PyProof.Rows L2 Evl NdefX LamX
section
variable {X : Cx} {pins : List (Addr × Obj)} {σ : L2.St} {A : Around} {f S I l : Addr} {fo : Obj} {R : Result → Shared → Prop} {xs : List V} {ks : List PyData} {H0 : Hp}
end
end My
namespace My
set_option autoImplicit false
open PySem PySem.Spec PySem.W PySem.Calls PyProof.Rows L2 Evl NdefX LamX
end My
namespace Nd
set_option autoImplicit false
open PySem PySem.Spec PySem.W PySem.Calls PyProof.Rows L2 My Evl
/-- put one by one -/
def putsN (nv : List NV) : List NV := nv.foldl (fun xs z => putN xs z.1 z.2.1 z.2.2) []
theorem puts_len (nv : List NV) : (putsN nv).length ≤ nv.length := by
  suffices ∀ (l xs : List NV), (l.foldl (fun xs z => putN xs z.1 z.2.1 z.2.2) xs).length ≤ xs.length + l.length by
    have := this nv []
    rw [List.length_nil, Nat.zero_add] at this
    exact this
  intro l
  induction l with
  | nil => exact fun xs => Nat.le_refl _
  | cons z l ih =>
    intro xs
    have h1 := ih (putN xs z.1 z.2.1 z.2.2)
    have h2 := put_len (xs := xs) (k := z.1) (a := z.2.1) (v := z.2.2)
    rw [List.foldl_cons, List.length_cons]
    omega
theorem lay_all : ∀ {l xs : List NV} {us ws : List Value}, Vals (xs.map (·.2.2)) us → Vals (l.map (·.2.2)) ws → ∃ qs, Vals ((l.foldl (fun xs z => putN xs z.1 z.2.1 z.2.2) xs).map (·.2.2)) qs ∧ storedAllH (lay xs us) (lay l ws) = lay (l.foldl (fun xs z => putN xs z.1 z.2.1 z.2.2) xs) qs
  | [], xs, us, _, r, .nil => ⟨us, r, rfl⟩
  | z :: l, xs, us, w :: ws, r, .cons rz rl => by
    obtain ⟨qs, h1, h2⟩ := lay_store (k := z.1) (a := z.2.1) r rz
    obtain ⟨ps, h3, h4⟩ := lay_all (l := l) h1 rl
    refine ⟨ps, h3, ?_⟩
    rw [List.foldl_cons, ← h4]
    show storedAllH (storedH (lay xs us) z.1 z.2.1 w) (lay l ws) = _
    rw [h2]
section
variable {X : Cx}
/-- the pairs that a tuple holds -/
def PairsN (K : PySem.W.Frag) (H : Hp) (xs : List V) (nv : List NV) : Prop := xs.length = nv.length ∧ ∀ (i : Nat) (x : V) (z : NV), xs[i]? = some x → nv[i]? = some z → ∃ T, x = .ref T ∧ SqT K H T [.ref z.2.1, z.2.2] ∧ KeyAt K H z.2.1 z.1
def rDictN (P : Program) (w : World) (K : PySem.W.Frag) : List V → Hp → VK → Prop := fun vs H Q => ∃ (a : Addr) (o : Obj) (xs : List V) (nv : List NV), vs = [.ref a] ∧ H a = some (.frz o (.tup xs)) ∧ o.dict = none ∧ PairsN K H xs nv ∧ ∀ d, H d = none → Q (.ref d) (upd H d (DN P w d (putsN nv)))
theorem pairs_vals {pins : List (Addr × Obj)} {σ : L2.St} {H : Hp} {s : Shared} (I : Inv X pins σ H s) : ∀ {xs : List V} {nv : List NV} {its : List Value}, PairsN X.K H xs nv → Vals xs its → ∃ (Ts : Nat → Addr) (us : List Value), Vals (nv.map (·.2.2)) us ∧
    ∀ (j : Nat) (z : NV) (u : Value), nv[j]? = some z → us[j]? = some u → its[j]? = some (.ref (Ts j)) ∧ s.heap.IsTuple (Ts j) #[.ref z.2.1, u]
  | [], [], [], _, .nil => ⟨fun _ => 0, [], .nil, fun j z u h => by simp at h⟩
  | [], _ :: _, _, h, _ => by have := h.1; simp at this
  | _ :: _, [], _, h, _ => by have := h.1; simp at this
  | x :: xs, z :: nv, _ :: its, h, .cons r rr => by
    obtain ⟨T, rfl, hT, _⟩ := h.2 0 x z rfl rfl
    obtain ⟨Ts, us, h1, h2⟩ := pairs_vals I (xs := xs) (nv := nv) ⟨by have := h.1; simpa using this, fun i y w e1 e2 => h.2 (i + 1) y w e1 e2⟩ rr
    obtain ⟨its2, rv, tp, _⟩ := I.tuple hT
    obtain ⟨k0, u0, rfl, rk, ru⟩ := vals2 rv
    obtain rfl : k0 = Value.ref z.2.1 := rk
    obtain rfl := (show _ = Value.ref T from r)
    refine ⟨fun j => match j with | 0 => T | j + 1 => Ts j, u0 :: us, .cons ru h1, fun j w u e1 e2 => ?_⟩
    cases j with
    | zero =>
      obtain rfl := Option.some.inj e1
      obtain rfl := Option.some.inj e2
      exact ⟨rfl, tp⟩
    | succ j => exact h2 j w u e1 e2
theorem call_dictN (hc : X.calm = true) (hu : X.A.units + 10 < cLine) : CallR X (.type "dict") (rDictN X.prog X.w X.K) := by
  intro pins s σ H xs us Q I r q
  obtain ⟨a, o, xs, nv, rfl, ha, hod, hp, q⟩ := q
  obtain ⟨u, rfl, rx⟩ := vals1 r
  obtain rfl : u = Value.ref a := rx
  obtain ⟨ho, hz, its, rv, o2, ho2, hcl, n, hdat⟩ := I.hok a _ ha
  rw [ho] at ho2
  obtain rfl := Option.some.inj ho2
  obtain ⟨Ts, ws, rw_, ht⟩ := pairs_vals I hp rv
  have lw := vlen rw_
  have lx := hp.1
  have li := rv.length
  -- the pairs as values
  let ps : List (Value × Value) := (lay nv ws).map fun y => (.ref y.2.1, y.2.2)
  have lp : ps.length = nv.length := by rw [List.length_map, lay_len lw]
  have pat : ∀ (j : Nat) (y : NestedKey × Addr × Value), (lay nv ws)[j]? = some y → ∃ (z : NV), nv[j]? = some z ∧ ws[j]? = some y.2.2 ∧ z.1 = y.1 ∧ z.2.1 = y.2.1 := fun j y hy => by
    obtain ⟨z, w, hz, hw, rfl⟩ := lay_at hy
    exact ⟨z, hz, hw, rfl, rfl⟩
  have PA := PairArg.tuple (prog := X.prog) (w := X.w) a its.toArray Ts ps
  refine call_dict_pairsH (knd := nestedKind X.prog X.w) (ps := lay nv ws) PA (I.ok.hd hc) (by show X.A.units + 1 + 1 + 8 < cLine; omega) ⟨⟨o, n, ho, hcl, hod, hdat⟩, by rw [List.size_toArray, lp, ← lx, li], fun j k v hj => ?_⟩ ⟨by rw [lp, lay_len lw], fun i k v hj => ?_⟩ (fun h' hk y hy => ?_) (by rw [lp, ← lx]; exact hz) fun h' tk m' hk => ?_
  · rw [List.getElem?_map] at hj
    obtain ⟨y, hy, e⟩ := Option.map_eq_some_iff.mp hj
    obtain ⟨rfl, rfl⟩ : Value.ref y.2.1 = k ∧ y.2.2 = v := ⟨congrArg Prod.fst e, congrArg Prod.snd e⟩
    obtain ⟨z, hz, hw, e1, e2⟩ := pat j y hy
    obtain ⟨h1, h2⟩ := ht j z _ hz hw
    rw [List.getElem?_toArray, ← e2]
    exact ⟨h1, .inl h2⟩
  · have hj : ps[i]? = some (k, v) := hj
    rw [List.getElem?_map] at hj
    obtain ⟨y, hy, e⟩ := Option.map_eq_some_iff.mp hj
    obtain ⟨rfl, rfl⟩ : Value.ref y.2.1 = k ∧ y.2.2 = v := ⟨congrArg Prod.fst e, congrArg Prod.snd e⟩
    exact ⟨y.1, y.2.1, hy, rfl⟩
  · obtain ⟨j, hj⟩ := List.mem_iff_getElem?.mp hy
    obtain ⟨z, hz, _, e1, e2⟩ := pat j y hj
    have hjx : j < xs.length := by
      have := (List.getElem?_eq_some_iff.mp hz).1
      omega
    obtain ⟨T, _, _, hkey⟩ := hp.2 j _ z (List.getElem?_eq_getElem hjx) hz
    have I2 : Inv X pins σ H { s with heap := h' } := I.kept (t' := s.toks) fun b ob e => hk b ob (Nat.ne_of_lt (Heap.lt_size e)) (fun h => nomatch h) e
    have := key_is I2 hkey
    rw [e1, e2] at this
    exact this
  · obtain ⟨qs, h1, h2⟩ := lay_all (l := nv) (xs := []) (us := []) .nil rw_
    have h2 : storedAllH [] (lay nv ws) = lay (putsN nv) qs := h2
    rw [h2] at m'
    have hm : (s.heap.objs.size == sysModules) = false := beq_eq_false_iff_ne.mpr (Nat.ne_of_gt I.big)
    have hl := puts_len nv
    exact ⟨.ref s.heap.objs.size, upd H s.heap.objs.size (DN X.prog X.w s.heap.objs.size (putsN nv)), I.laid (t' := tk) (fun b ob e => hk b ob (fun h => nomatch h) e) (Nat.le_refl _) (dn_ok (dn_to hm (by omega) h1 m')), rfl, q _ (I.hok.fresh (Nat.le_refl _))⟩
end
/-! ### a tuple, its object known as it stands -/
def FuP (ps : List Pr) : Pr := ⟨fun v H => ∃ a o xs, v = .ref a ∧ H a = some (.frz o (.tup xs)) ∧ o.dict = none ∧ AllP ps xs H, fun e ⟨a, o, xs, h1, h2, h3, h4⟩ => ⟨a, o, xs, h1, e _ _ h2, h3, h4.m e⟩⟩
theorem fu_tu {K : PySem.W.Frag} {ps : List Pr} {v : V} {H : Hp} (h : (FuP ps).P v H) : (TuP K ps).P v H := by
  obtain ⟨a, o, xs, rfl, h2, _, h4⟩ := h
  exact ⟨a, xs, rfl, .inl (.inr ⟨o, h2⟩), h4⟩
theorem p_tupFu {t : TA} {σ : L2.St} {B : Hp} {ps : List Pr} (h : EvPs t σ B ps) (hl : ps.length ≤ 100000) : EvP (tTupF t) σ B (FuP ps) := fun H1 a Q k =>
  h H1 a _ fun vs B2 H2 g b => ⟨sz_of (by rw [b.len]; exact hl), fun r o hr ho => k _ _ _ (g.trans (Gr.new (.frz o (.tup vs)) g.c hr)) ⟨r, o, vs, rfl, upd_same, ho, b.m (Ex.new (fresh_back g.c hr))⟩⟩
/-- tuple(list), the new tuple known as it stands -/
theorem p_tupOfF {te : TE} {σ : L2.St} {B : Hp} {ps : List Pr} {K : PySem.W.Frag} (h : EvP te σ B (LqP K ps)) :
    EvP (tCB (fun xs H Q => ∃ p ys, xs = [.ref p] ∧ SqL K H p ys ∧ ∀ l o, H l = none → o.dict = none → Q (.ref l) (upd H l (.frz o (.tup ys)))) (tCons te tNil)) σ B (FuP ps) := fun H1 a Q k => h H1 a _ fun v B2 H2 g x => by
  obtain ⟨l, xs, rfl, hl, al⟩ := x
  exact ⟨l, xs, rfl, ex_l g.c hl, fun m o hm ho => k _ _ _ (g.trans (Gr.new (.frz o (.tup xs)) g.c hm)) ⟨m, o, xs, rfl, upd_same, ho, al.m (Ex.new (fresh_back g.c hm))⟩⟩
section
variable {κ β : Type} [DecidableEq κ] {P : Program} {w : World} {K : PySem.W.Frag} {ky : Ky K κ} {vp : β → Pr}
def putsG (zs : List (κ × β)) : List (κ × β) := zs.foldl (fun a z => putG a z.1 z.2) []
theorem putsG_eq {zs : List (κ × β)} (nd : (zs.map (·.1)).Nodup) : putsG zs = zs := by
  suffices ∀ l a : List (κ × β), ((a ++ l).map (·.1)).Nodup → l.foldl (fun a z => putG a z.1 z.2) a = a ++ l by exact this zs [] nd
  intro l
  induction l with
  | nil => exact fun a _ => (List.append_nil a).symm
  | cons z l ih =>
    intro a h
    rw [List.foldl_cons]
    have no : hasG a z.1 = false := by
      cases e : hasG a z.1 with
      | false => rfl
      | true =>
        exfalso
        have := hasG_mem.mp e
        rw [List.map_append, List.nodup_append] at h
        exact h.2.2 _ this _ (List.mem_map.mpr ⟨z, List.mem_cons_self, rfl⟩) rfl
    have e : putG a z.1 z.2 = a ++ [z] := by
      unfold putG
      rw [no, if_neg Bool.false_ne_true]
    rw [e, ih (a ++ [z]) (by rw [List.append_assoc]; exact h), List.append_assoc]
    rfl
/-- what the tuple's pairs are -/
theorem pairs_of_fu {B H : Hp} (e : Ex B H) : ∀ {zs : List (κ × β)} {xs : List V}, AllP (zs.map fun z => TuP K [ky.kp z.1, vp z.2]) xs B → ∃ nv : List NV, PairsN K H xs nv ∧ ∀ (a : List (κ × β)) (c : List NV), KG ky vp a c B → KG ky vp (zs.foldl (fun a z => putG a z.1 z.2) a) (nv.foldl (fun xs z => putN xs z.1 z.2.1 z.2.2) c) B
  | [], [], _ => ⟨[], ⟨rfl, fun i x z h => by simp at h⟩, fun a c h => h⟩
  | z :: zs, x :: xs, h => by
    obtain ⟨nv, h1, h2⟩ := pairs_of_fu e (zs := zs) (xs := xs) h.2
    obtain ⟨T, ys, rfl, hT, al⟩ := h.1
    match ys, al with
    | [y1, y2], al =>
      obtain ⟨m1, m2, _⟩ := al
      obtain ⟨b, rfl⟩ := ky.rf m1
      refine ⟨(nk (ky.kd z.1), b, y2) :: nv, ⟨by rw [List.length_cons, List.length_cons, h1.1], fun i x w e1 e2 => ?_⟩, fun a c hk => ?_⟩
      · cases i with
        | zero =>
          obtain rfl := Option.some.inj e1
          obtain rfl := Option.some.inj e2
          exact ⟨T, rfl, ex_t e hT, ky.at_ ((ky.kp z.1).m e m1)⟩
        | succ i => exact h1.2 i x w e1 e2
      · rw [List.foldl_cons, List.foldl_cons]
        exact h2 _ _ (hk.put m1 m2)
/-- name = dict(pairs) -/
theorem ps_dictN {B H : Hp} {σ : L2.St} {te : TE} {D : Ends} {i : Nat} {zs : List (κ × β)} (a : Ex B H) (h : EvP te σ B (FuP (zs.map fun z => TuP K [ky.kp z.1, vp z.2]))) (nd : (zs.map (·.1)).Nodup)
    (q : ∀ d B2 H2, H d = none → Ex B B2 → DcAt P w ky vp B H d zs B2 H2 → D.nx (σ.set i (some (.ref d))) H2) : tAsg (tCB (rDictN P w K) (tCons te tNil)) (gName i) D σ H :=
  h H a _ fun v B2 H2 g b => by
    obtain ⟨l, o, xs, rfl, hl, ho, al⟩ := b
    obtain ⟨nv, h1, h2⟩ := pairs_of_fu (ky := ky) (vp := vp) g.c al
    refine ⟨l, o, xs, nv, rfl, g.c _ _ hl, ho, h1, fun d hd => ?_⟩
    refine q d B2 _ (fresh_back g.a hd) g.b ⟨by rw [wo_new hd]; exact g, _, upd_same, ?_⟩
    have := h2 [] [] trivial
    have e : zs.foldl (fun a z => putG a z.1 z.2) [] = zs := putsG_eq nd
    rw [e] at this
    exact this
end
end Nd
namespace PySem.W
set_option autoImplicit false
open PySem PySem.Calls PyProof.Rows PySem.SeqAt
theorem keyLt'_general (x y : Value) : keyLt' general' x y = oneLt' false x y := rfl
section
variable {prog : Program} {w : World} {A : Around} {E : Value → Shared → Prop} {s : Shared}
/-- the call of tuple's own __lt__, as sorting makes it -/
theorem call_tuple_lt {Q : Value → Shared → Prop} {l b : Addr} {items items2 : Array Value} {e r : Nat → Bool} (hl : s.heap.IsTuple l items) (hb : s.heap.IsTuple b items2)
    (he : ∀ j (h1 : j < items.size) (h2 : j < items2.size), EqAt A.in1 s items[j] items2[j] (e j)) (hr : ∀ j (h1 : j < items.size) (h2 : j < items2.size), e j = false → RcLt A.in1 s items[j] items2[j] (r j))
    (h : Q (.bool (firstLt e r (decide (items.size < items2.size)) (List.range (min items.size items2.size)))) s) : wpAny (model prog w) A (call (.builtin "tuple.__lt__") [.ref l, .ref b]) Q E s := by
  obtain ⟨⟨cls, dd, data, sl⟩, ho, hc, n, hd⟩ := id hl
  obtain ⟨⟨cls2, dd2, data2, sl2⟩, ho2, hc2, n2, hd2⟩ := id hb
  simp only at hc hd hc2 hd2
  subst hc hd hc2 hd2
  exact call_meets F.slot_tuple_lt ⟨_, ho, rfl⟩ F.entry_tuple_lt (F.args_tuple_lt_2 _ _) (tuple_ltAt l b items items2 n n2 dd dd2 sl sl2 e r) ⟨ho, ho2, he, hr, h⟩
theorem oneLt_tup {xs ys : List PyData} {a b : Value} {as bs : List Addr} {Q : Bool → Shared → Prop} (ra : Reads s.heap a (.tuple xs) as) (rb : Reads s.heap b (.tuple ys) bs) (h : alike (.tuple xs) (.tuple ys) = true)
    (hu : A.units + min (PyData.tuple xs).depth (PyData.tuple ys).depth < cLine) (hq : Q (dataLt (.tuple xs) (.tuple ys)) s) : wpAny (model prog w) A (oneLt' true a b) Q E s := by
  have hal : alikeAll xs ys = true := by simpa [alike] using h
  cases ra with
  | @tuple l o vs n _ as₁ h1 h2 h3 h4 =>
    cases rb with
    | @tuple l' o' vs' n' _ bs₁ k1 k2 k3 k4 =>
      have n1 : vs.size = xs.length := by simpa using SeqAt.ReadsAll.length _ _ _ h4
      have n2 : vs'.size = ys.length := by simpa using SeqAt.ReadsAll.length _ _ _ k4
      rw [dataLt_tuple, ← firstLt_toks xs ys hal, ← n1, ← n2] at hq
      rw [oneLt'_eq]
      simp only [if_true]
      refine wpAny_bind (wpAny_cRoomFor (room_here hu) ?_)
      refine wpAny_bind (wpAny_callSpecialIfBound?_slot (T := "tuple") ⟨_, h1, h2⟩ F.slot_tuple_lt (call_tuple_lt (e := pairEq xs ys) (r := fun j => dataLt (xs.getD j .none) (ys.getD j .none)) ⟨_, h1, h2, _, h3⟩ ⟨_, k1, k2, _, k3⟩ (fun j j1 j2 => ?_) (fun j j1 j2 hj => ?_) ?_))
      · have := eqAt_alikeAll xs ys A.in1 s vs.toList vs'.toList _ _ h4 k4 hal (room_in hu) j (by simpa using j1) (by simpa using j2)
        simpa using this
      · have := rcLt_alikeAll xs ys A.in1 s vs.toList vs'.toList _ _ h4 k4 hal (room_in hu) j (by simpa using j1) (by simpa using j2) hj
        simpa using this
      · exact wpAny_truthy_bool hq
theorem each_right {α β : Type} {R : α → β → Prop} : ∀ {as : List α} {bs : List β}, EachIs R as bs → ∀ b ∈ bs, ∃ a ∈ as, R a b
  | _, _, .nil, b, h => absurd h (by simp)
  | _, _, .cons (a := x) h t, b, hb => by
    rcases List.mem_cons.mp hb with rfl | hb
    · exact ⟨x, List.mem_cons_self .., h⟩
    · obtain ⟨a, ha, r⟩ := each_right t b hb
      exact ⟨a, List.mem_cons_of_mem _ ha, r⟩
theorem tup_first {h : Heap} {xs : List PyData} {v : Value} {as : List Addr} (r : Reads h v (.tuple xs) as) : ∃ a o vs n, v = .ref a ∧ h.get? a = some o ∧ o.cls = .type "tuple" ∧ o.data = .seq vs n ∧ (vs[0]?.isSome = true ↔ xs ≠ []) := by
  cases r with
  | @tuple l o vs n _ as₁ h1 h2 h3 h4 =>
    have n1 : vs.size = xs.length := by simpa using SeqAt.ReadsAll.length _ _ _ h4
    refine ⟨l, o, vs, n, rfl, h1, h2, h3, ?_⟩
    cases xs with
    | nil =>
      have : vs[0]? = none := Array.getElem?_eq_none (by rw [n1]; exact Nat.le_refl _)
      rw [this]
      simp
    | cons x r =>
      have : vs[0]? = some (vs[0]'(by rw [n1]; exact Nat.succ_pos _)) := Array.getElem?_eq_getElem _
      rw [this]
      simp
theorem each_firsts {M : Model} : ∀ {vs : List Value} {ds : List PyData}, EachIs (fun v d => ∃ as, Reads s.heap v d as) vs ds → (∀ d ∈ ds, ∃ xs, d = .tuple xs) →
    ∃ fs : List (Option Value), (∀ (Q : List (Option Value) → Shared → Prop), Q fs s → wpAny M A (vs.mapM firstOfTuple') Q E s) ∧ EachIs (fun f d => f.isSome = true ↔ d ≠ .tuple []) fs ds
  | _, _, .nil, _ => ⟨[], fun Q q => by rw [List.mapM_nil]; exact wpAny_pure q, .nil⟩
  | _, _, .cons (b := d) ⟨as, r⟩ t, ht => by
    obtain ⟨fs, h1, h2⟩ := each_firsts (M := M) t fun d hd => ht d (List.mem_cons_of_mem _ hd)
    obtain ⟨xs, rfl⟩ := ht d (List.mem_cons_self ..)
    obtain ⟨a, o, vs, n, rfl, ho, hc, hd, hf⟩ := tup_first r
    refine ⟨vs[0]? :: fs, fun Q q => ?_, .cons ?_ h2⟩
    · rw [List.mapM_cons]
      refine wpAny_bind ?_
      rw [kas_first_eq]
      refine wpAny_bind (Looks.here (show Looks M s.heap (typeOf (.ref a)) o.cls from (Looks.ld ho).andThen .now) ?_)
      rw [hc, if_neg (by first | decide | simp)]
      refine wpAny_bind (listItems_at ho hd (wpAny_pure ?_))
      exact wpAny_bind (h1 (fun bs s' => wpAny M A (pure (vs[0]? :: bs)) Q E s') (wpAny_pure q))
    · rw [hf]
      constructor
      · intro h e
        injection e with e
        exact h e
      · intro h e
        exact h (by rw [e])
/-- tuples, some of them empty, can be sorted -/
theorem SortsAt.tups {vs : List Value} {ds : List PyData} (e : EachIs (fun v d => ∃ as, Reads s.heap v d as) vs ds) (hal : AllAlike ds) (hk : ∀ d ∈ ds, ∃ xs, d = PyData.tuple xs) (hu : ∀ d, d ∈ ds → A.units + d.depth < cLine) : SortsAt prog w A s (dataKind s.heap ds) vs := by
  by_cases hne : ∀ d ∈ ds, d ≠ PyData.tuple []
  · refine SortsAt.data e hal (.inl fun d hd => ?_) hu
    obtain ⟨xs, rfl⟩ := hk d hd
    cases xs with
    | nil => exact absurd rfl (hne _ hd)
    | cons x r => exact ⟨x, r, rfl⟩
  · have room : ∀ {d d' : PyData}, d ∈ ds → A.units + min d.depth d'.depth < cLine := fun {d d'} hd => Nat.lt_of_le_of_lt (Nat.add_le_add_left (Nat.min_le_left _ _) _) (hu d hd)
    have hsome : ∃ d ∈ ds, d = PyData.tuple [] := Classical.byContradiction fun hn => hne fun d hd he => hn ⟨d, hd, he⟩
    have kind : ∃ f : Bool, ∀ (E : Value → Shared → Prop) {Q : SortKind → Shared → Prop}, Q (cond f general' oneType') s → wpAny (model prog w) A (keyKind' vs.toArray) Q E s := by
      obtain ⟨fs, -, h2⟩ := each_firsts (A := A) (E := fun _ _ => True) (M := model prog w) e hk
      have hnall : (fs.toArray.all fun x => x.isSome) = false := by
        rw [List.all_toArray, List.all_eq_false]
        obtain ⟨d, hd, he⟩ := hsome
        obtain ⟨f, hf, hfd⟩ := each_right h2 d hd
        exact ⟨f, hf, fun q => hfd.mp q he⟩
      refine ⟨(fs.toArray[0]?.bind id).isSome, fun E Q hq => ?_⟩
      obtain ⟨fs', h1, h2'⟩ := each_firsts (A := A) (E := E) (M := model prog w) e hk
      rw [keyKind'_eq, List.mapM_toArray, map_eq_pure_bind]
      refine wpAny_bind (wpAny_bind (h1 _ (wpAny_pure ?_)))
      have hnall' : (fs'.toArray.all fun x => x.isSome) = false := by
        rw [List.all_toArray, List.all_eq_false]
        obtain ⟨d, hd, he⟩ := hsome
        obtain ⟨f, hf, hfd⟩ := each_right h2' d hd
        exact ⟨f, hf, fun q => hfd.mp q he⟩
      rw [hnall']
      rw [if_neg Bool.false_ne_true]
      have hsame : (fs'.toArray[0]?.bind id).isSome = (fs.toArray[0]?.bind id).isSome := by
        cases h2 with
        | nil =>
          cases h2'
          rfl
        | cons a b =>
          cases h2' with
          | cons a' b' =>
            simp only [List.getElem?_toArray, List.getElem?_cons_zero, Option.bind_some, id]
            rw [Bool.eq_iff_iff]
            exact a'.trans a.symm
      rw [hsame]
      cases hb : (fs.toArray[0]?.bind id).isSome with
      | true =>
        rw [hb] at hq
        rw [if_pos rfl]
        exact wpAny_pure hq
      | false =>
        rw [hb] at hq
        rw [if_neg Bool.false_ne_true]
        have looks : ∀ v ∈ vs, Looks (model prog w) s.heap (typeOf v) (Value.type "tuple") := fun v hv => by
          obtain ⟨d, hd, as, r⟩ := e.left v hv
          obtain ⟨xs, rfl⟩ := hk d hd
          exact looks_reads r
        have hpos : 0 < vs.length := by
          obtain ⟨d, hd, he⟩ := hsome
          obtain ⟨v, hv, -⟩ := each_right e d hd
          exact List.length_pos_of_mem hv
        rw [oneTypeOnly'_eq, List.mapM_toArray, map_eq_pure_bind]
        refine wpAny_bind (wpAny_bind (wpAny_bind (kas_mapM (r := Value.type "tuple") _ (fun v hv Q' hq => (looks v hv).here hq) (wpAny_pure ?_))))
        have hall : ((List.map (fun _ => Value.type "tuple") vs).toArray.all fun x => x == Value.type "tuple") = true := by
          simp only [List.all_toArray, List.all_map, List.all_eq_true]
          intro _ _
          rfl
        have h0 : (List.map (fun _ => Value.type "tuple") vs).toArray[0]? = some (Value.type "tuple") := by
          cases vs with
          | nil => exact absurd hpos (Nat.lt_irrefl _)
          | cons v vs => simp
        rw [h0]
        simp only [hall, if_true]
        exact wpAny_pure (wpAny_pure hq)
    obtain ⟨f, hkind⟩ := kind
    refine ⟨fun v hv => ?_, cond f general' oneType', ?_, fun _ E Q hq => hkind E hq⟩
    · obtain ⟨d, hd, as, r⟩ := e.left v hv
      exact ⟨_, dataKind_some hal hd r⟩
    · intro E x y a b Q ha hb hq
      obtain ⟨d, as, hd, ra, rfl⟩ := dataKind_inv ha
      obtain ⟨d', as', hd', rb, rfl⟩ := dataKind_inv hb
      obtain ⟨xs, rfl⟩ := hk d hd
      obtain ⟨ys, rfl⟩ := hk d' hd'
      cases f with
      | true =>
        show wpAny (model prog w) A (keyLt' general' x y) Q E s
        rw [keyLt'_general]
        exact oneLt_alike (fun h => absurd h Bool.false_ne_true) ra rb (hal _ hd _ hd') (fun h => nomatch h) (room hd) hq
      | false =>
        show wpAny (model prog w) A (keyLt' oneType' x y) Q E s
        rw [keyLt'_oneType]
        exact oneLt_tup ra rb (hal _ hd _ hd') (room hd) hq
end
end PySem.W
-- PART2
namespace Nd
set_option autoImplicit false
open PySem PySem.Spec PySem.W PySem.Calls PyProof.Rows L2 My Evl
section
variable {X : Cx} {pins : List (Addr × Obj)} {σ : L2.St} {H : Hp} {s : Shared} {A : Around} {E : Value → Shared → Prop}
/-- sorted(d) of a dict by tuples -/
theorem sorted_dictM {d : Addr} {ks : List PyData} {as : List Addr} {Q : VK} (I : Inv X pins σ H s) (hh : A.in1.handled = none) {o : Obj} {es : Array DictEntry} {ep : Nat} (lo : (d == sysModules) = false)
    (ho : s.heap.get? d = some o) (ex : o.ExactDict) (hd : o.data = .dict es ep) (hes : es.toList.map (·.key) = as.map Value.ref) (hz : as.length ≤ sizeLine)
    (hl : ks.length = as.length) (hal : AllAlike ks) (hsk : ∀ d ∈ ks, ∃ xs, d = PyData.tuple xs) (hu : ∀ d, d ∈ ks → A.units + 2 + d.depth < cLine) (dp : DpAll X.K H (as.map V.ref) ks)
    (q : ∀ a, H a = none → Q (.ref a) (upd H a (.lst (byKey (as.map V.ref) ks)))) :
    wpAny (model X.prog X.w) A (call (.builtin "sorted") [.ref d]) (EP X pins σ Q) E s := by
  have hsz : es.size = as.length := by simpa using congrArg List.length hes
  refine call_function_entry_kw kind_sorted plain_sorted entry_sorted (args_sorted1 _) ?_
  unfold Builtin.«sorted»
  refine wpAny_bind (m := checkCount "sorted" 1 1 _) (wpAny_pure ?_)
  refine wpAny_bind (kdu_collect (A := A.in1) (KdlSrc.rawDict (es := es) (ep := ep) lo) hh ⟨o, ho, ex, hd⟩ (by omega) fun h1 tk acc hk hacc => ?_)
  have hA : acc.toList = as.map Value.ref := by
    apply List.ext_getElem?
    intro i
    by_cases hi : i < as.length
    · have hi2 : i < acc.size := by rw [hacc.1]; omega
      obtain ⟨hi3, e⟩ := hacc.2 i acc[i] (by rw [Array.getElem?_eq_getElem hi2])
      have e2 : (es.toList.map (·.key))[i]? = some es[i].key := by
        rw [List.getElem?_map, List.getElem?_eq_getElem (by simpa using hi3)]
        simp
      rw [← hes, e2, ← e]
      simp [hi2]
    · rw [List.getElem?_eq_none (by rw [Array.length_toList, hacc.1]; omega), List.getElem?_eq_none (by rw [List.length_map]; omega)]
  rw [hA]
  refine wpAny_bind (wpAny_newList ?_ (by rw [List.length_map]; exact hz))
  have I1 := I.kept (t' := tk) (h' := h1) hk
  have I2 := I1.kept (t' := tk) (h' := h1.push (seqObj "list" (as.map Value.ref).toArray 0)) (fun c o e => Heap.get?_push_of_some _ e)
  have at1 : (h1.push (seqObj "list" (as.map Value.ref).toArray 0)).get? h1.objs.size = some (seqObj "list" (as.map Value.ref).toArray 0) := Heap.get?_push_size _ rfl
  have hl' : ks.length = (as.map V.ref).length := by rw [List.length_map]; exact hl
  have vl : (byKey (as.map V.ref) ks).length ≤ sizeLine := by
    show (((as.map V.ref).zip ks).mergeSort (dataLe false (·.2)) |>.map (·.1)).length ≤ _
    rw [List.length_map, List.length_mergeSort, List.length_zip, List.length_map]
    omega
  have ev : EachIs (fun u d => ∃ bs, Reads (sortingHeap (h1.push (seqObj "list" (as.map Value.ref).toArray 0)) h1.objs.size (as.map Value.ref)) u d bs) (as.map Value.ref) ks :=
    (dps_each I1 (My.vals_refs as) dp).mono fun u d ⟨bs, r⟩ => ⟨bs, Reads.keeps (fun b o e => sortingHeap_old (Nat.ne_of_lt (Heap.lt_size e)) (Heap.get?_push_of_some _ e)) r⟩
  have ez := zip_snd hl'
  have er := each_zip ev hl'
  have out := sortVals_data (enc := fun p : V × PyData => p.2) false (vals_each (h := s.heap) (My.vals_refs as) hl') er (by rw [ez]; exact hal)
  obtain ⟨c, at3⟩ := sortedHeap_at (vs := as.map Value.ref) (out := (sortVals (dataKind (sortingHeap (h1.push (seqObj "list" (as.map Value.ref).toArray 0)) h1.objs.size (as.map Value.ref)) (((as.map V.ref).zip ks).map fun p => p.2)) false (as.map Value.ref) (as.map Value.ref)).toArray) at1
  refine wpAny_bind (wpAny_holding (wpAny_call_entry_kw slot_list_sort ⟨_, at1, rfl⟩ entry_list_sort ?_ (args_list_sort _)))
  refine list_sort_vals (s := { s with heap := h1.push (seqObj "list" (as.map Value.ref).toArray 0), toks := tk }) (κ := dataKind (sortingHeap (h1.push (seqObj "list" (as.map Value.ref).toArray 0)) h1.objs.size (as.map Value.ref)) (((as.map V.ref).zip ks).map fun p => p.2)) at1 ?_ (by rw [List.length_map]; exact hz) ?_
  · rw [ez]
    exact SortsAt.tups (s := { s with heap := sortingHeap (h1.push (seqObj "list" (as.map Value.ref).toArray 0)) h1.objs.size (as.map Value.ref), toks := tk }) ev hal hsk hu
  · refine ⟨_, rfl, wpAny_pure ⟨_, rfl, .ref h1.objs.size, _, free2 (b := h1.objs.size + 1) (t' := tk) I2 (Fre.of I1 (Nat.le_refl _)) (Fre.of I1 (Nat.le_succ h1.objs.size)) (I1.hok.fresh (Nat.le_refl _)) (I1.hok.fresh (Nat.le_succ _)) (fun x o n1 n2 e => (sortedHeap_old n1 (Heap.lt_size e)).trans e) ⟨vl, _, c, each_vals out, at3⟩, rfl, q _ (I1.hok.fresh (Nat.le_refl _))⟩⟩
end
section
variable {X : Cx} {pins : List (Addr × Obj)} {σ : L2.St} {H : Hp} {s : Shared}
/-- sorted(e), e a dict by nested keys -/
def tSortM (P : Program) (w : World) (K : PySem.W.Frag) (te : TE) : TE := fun σ H Q => te σ H fun v H1 => ∃ (d : Addr) (xs : List NV) (ks : List PyData), v = .ref d ∧ H1 d = some (DN P w d xs) ∧ ks.length = xs.length ∧ PySem.W.AllAlike ks ∧ (∀ d ∈ ks, ∃ xs, d = PyData.tuple xs) ∧ (∀ e, e ∈ ks → e.depth ≤ 50) ∧
  DpAll K H1 (xs.map fun x => V.ref x.2.1) ks ∧ ∀ a, H1 a = none → Q (.ref a) (upd H1 a (.lst (byKey (xs.map fun x => V.ref x.2.1) ks)))
theorem pe_sortM {te : TE} {e : Expr} {p pos : Pos} {k : Nat} (hr : Room k X.A) (hg : Gl X "sorted") (hm : X.mg "sorted" = none) (he : PE X e te)
    (na : starEach [e] X.env = (false, eval e X.env) :: starEach [] X.env := by rfl) : PE X (.Call (.Name "sorted" p) [e] [] pos) (tSortM X.prog X.w X.K te) := by
  refine ⟨fun pins s σ H Q I h => ?_⟩
  refine PyProof.Rows.Call_ (ld_blt I hg hm (u := .builtin "sorted") (by decide +kernel) ?_)
  refine PyProof.Rows.callWith_builtin1 (PyProof.Rows.args_cons (thn (he.run pins s σ H _ I h) fun u s1 ⟨v, H1, I1, r1, q1⟩ => PyProof.Rows.args_nil ?_) na) na rfl
  obtain ⟨d, xs, ks, rfl, hd, a1, a2, a3, a4, a5, a6⟩ := q1
  obtain rfl : u = Value.ref d := r1
  have un := hr.un
  obtain ⟨z1, z2, us, o, es, ep, rr, e1, e2, e3, e4, e5⟩ := (I1.hok d _ hd).1
  have em : (xs.map fun x => V.ref x.2.1) = (xs.map (·.2.1)).map V.ref := by rw [List.map_map]; rfl
  rw [em] at a5
  simp only [em] at a6
  exact sorted_dictM (E := X.xe) I1 (show X.A.in1.handled = none from hr.hd) z1 e1 e2 e3 (as := xs.map (·.2.1)) (by rw [e4, lay_ref (vlen rr)]) (by rw [List.length_map]; exact z2) (by rw [a1, List.length_map]) a2 a3 (fun d hd => by
    have := a4 d hd
    omega) a5 a6
end
end Nd
local macro_rules | `(tactic| walk_at "cond") => `(tactic| (refine My.isP ?_; first
  | decide
  | omega
  | (dsimp only; first | omega | decide)
  | exact ⟨by decide, by decide, by decide⟩
  | exact ⟨by decide, by decide⟩
  | exact ⟨by omega, by omega⟩
  | exact Or.inl ⟨by omega, by omega⟩
  | exact Or.inr ⟨by omega, by omega⟩))
local macro_rules | `(tactic| walk_at "go") => `(tactic| repeat (first
  | refine ⟨_, _, rfl, rfl, (by (walk_at "cond"); done), ?_⟩
  | refine ⟨_, _, rfl, rfl, ?_⟩
  | refine ⟨_, rfl, ?_⟩
  | refine ⟨rfl, ?_⟩
  | refine ⟨⟨_, rfl⟩, ?_⟩))
namespace K12
set_option autoImplicit false
open PySem PySem.W L2 Evl My Nd
def topS (i : Nat) : Stmt := PySem.Challenge.pw_rankedchains_k02_polynomials_looked_at.main.body.getD i (.Pass ⟨0, 0, 0, 0⟩)
theorem all1 {p : Pr} {vs : List V} {H : Hp} (h : AllP [p] vs H) : ∃ v, vs = [v] ∧ p.P v H := by
  match vs, h with
  | [v], h => exact ⟨v, rfl, h.1⟩
theorem all2 {p q : Pr} {vs : List V} {H : Hp} (h : AllP [p, q] vs H) : ∃ v u, vs = [v, u] ∧ p.P v H ∧ q.P u H := by
  match vs, h with
  | [v, u], h => exact ⟨v, u, rfl, h.1, h.2.1⟩
theorem all3 {p q r : Pr} {vs : List V} {H : Hp} (h : AllP [p, q, r] vs H) : ∃ v u t, vs = [v, u, t] ∧ p.P v H ∧ q.P u H ∧ r.P t H := by
  match vs, h with
  | [v, u, t], h => exact ⟨v, u, t, rfl, h.1, h.2.1, h.2.2.1⟩
section
variable {P : Program} {w : World} {K : PySem.W.Frag} {mg : Str → Option Value} {base : Heap}

/-- is_whole -/
abbrev s_is_whole : Stmt := topS 24
abbrev N_is_whole : List Str := ["thing"]
theorem sc_is_whole : FnScope N_is_whole ["thing"] (defScope s_is_whole) := ⟨rfl, rfl, rfl, by decide +kernel, rfl, by decide +kernel, by decide +kernel⟩
theorem ok_is_whole {f : Addr} {fd : FuncData} (F : Fun K "is_whole" "is_whole" s_is_whole f fd)   (n_isinstance : mg "isinstance" = none) (n_int : mg "int" = none) (n_bool : mg "bool" = none)  :
    FnOk P w K mg base CX0 2 f fd ["thing"] (spP (RBE K wholeB)) := by
  refine F.ok sc_is_whole (spP_len (by rintro _ _ ⟨_, _, _, _, rfl, rfl⟩; rfl)) (fun cdv A outer s H vs Q E hr h => ?_)
  obtain ⟨B, ps, p, eB, hv, ⟨qd, d, tq, hs, rfl, rfl⟩, q⟩ := h
  obtain ⟨v, rfl, h1⟩ := all1 hv
  have hu := hu_of hr
  refine ⟨_, (pss_one (ps_ret (pe_and (pe_callB call_isi (by rfl) n_isinstance (by decide +kernel) (pa_cons (pv 0) (pa_cons (pe_bltn (v := .ty "int") (u := .type "int") (by rfl) n_int (by decide +kernel) rfl) pa_nil))) (pe_one (pe_not (pe_callB call_isi (by rfl) n_isinstance (by decide +kernel) (pa_cons (pv 0) (pa_cons (pe_bltn (v := .ty "bool") (u := .type "bool") (by rfl) n_bool (by decide +kernel) rfl) pa_nil)))))))), ?_⟩
  have hd : EvP (tVar 0) [some v] B (IsE K d) := p_toE (p_var rfl h1) tq
  refine My.ps_ret eB (p_ev (v := .bl (wholeB d)) (ev_is (ev_andV (a := (match d with | .int _ => true | .bool _ => true | _ => false)) (b := (match d with | .bool _ => false | _ => true)) (ev_isiE (K := K) hd ?_) fun _ => ev_is (ev_notV (a := (match d with | .bool _ => true | _ => false)) (ev_isiE (K := K) hd ?_)) ?_) ?_)) fun v B1 H1 g hp => q v B1 H1 g hp
  · cases d <;> (dsimp only [tyS]; decide +kernel)
  · cases d <;> (dsimp only [tyS]; decide +kernel)
  · cases d <;> rfl
  · cases d <;> rfl

/-- is_name -/
abbrev s_is_name : Stmt := topS 25
abbrev N_is_name : List Str := ["thing", "sign"]
theorem sc_is_name : FnScope N_is_name ["thing"] (defScope s_is_name) := ⟨rfl, rfl, rfl, by decide +kernel, rfl, by decide +kernel, by decide +kernel⟩
theorem ok_is_name {f : Addr} {fd : FuncData} (F : Fun K "is_name" "is_name" s_is_name f fd)   (n_isinstance : mg "isinstance" = none) (n_str : mg "str" = none) (n_len : mg "len" = none) (n_all : mg "all" = none) {tk1 tk2 : Nat} (g_MOST_LETTERS : mg "MOST_LETTERS" = some (.int 8 tk1)) (g_LETTERS : mg "LETTERS" = some (.str "abcdefghijklmnopqrstuvwxyz" tk2)) :
    FnOk P w K mg base CX0 2 f fd ["thing"] (spP (RBE K nameB)) := by
  refine F.ok sc_is_name (spP_len (by rintro _ _ ⟨_, _, _, _, rfl, rfl⟩; rfl)) (fun cdv A outer s H vs Q E hr h => ?_)
  obtain ⟨B, ps, p, eB, hv, ⟨qd, d, tq, hs, rfl, rfl⟩, q⟩ := h
  obtain ⟨v, rfl, h1⟩ := all1 hv
  have hu := hu_of hr
  refine ⟨_, (pss_cons (ps_if (PW.pt (pw_or (pt_not (pt_val (pe_callB call_isi (by rfl) n_isinstance (by decide +kernel) (pa_cons (pv 0) (pa_cons (pe_bltn (v := .ty "str") (u := .type "str") (by rfl) n_str (by decide +kernel) rfl) pa_nil))))) (pw_or1 (pt_not (pt_chain op_le op_le pe_int (pe_callB call_len_str (by rfl) n_len (by decide +kernel) (pa_cons (pv 0) pa_nil)) (pe_glob (by rfl) (v := .int 8) g_MOST_LETTERS ⟨_, rfl⟩)))))) (pss_one (ps_ret pe_bl)) pss_nil)
    (pss_one (ps_ret (pe_callB (cr_all rfl) (by rfl) n_all (by decide +kernel) (pa_cons (pe_lc (own := [("sign", 1)]) rfl sc_is_name.nd (pi_str (pv 0)) (blkOk_by (N := N_is_name) (sc := defScope s_is_name) (by decide +kernel)) (fun _ _ _ _ _ => (pg_name (i := 1) sc_is_name.nd rfl (Or.inl rfl))) (fun _ _ _ _ _ => pts_nil) (fun _ _ _ _ _ => (pe_cmpR op_in_sign (pv 1) (pe_glob (by rfl) (v := .str "abcdefghijklmnopqrstuvwxyz") g_LETTERS ⟨_, rfl⟩) (by rfl)))) pa_nil))))), ?_⟩
  have hd : De K B v d := tq _ _ h1
  have isS : Ev (tCB (rIsi K) (tCons (tVar 0) (tCons (tC (.ty "str")) tNil))) [some v] B (.bl (match d with | .str _ => true | _ => false)) := ev_isiE (K := K) (p_var (p := IsE K d) rfl hd) (by cases d <;> (dsimp only [tyS]; decide +kernel))
  by_cases hx : ∃ x, d = .str x
  · obtain ⟨x, rfl⟩ := hx
    obtain rfl : v = .str x := by cases hd; rfl
    have hl : x.length ≤ 100000 := by
      have := hs
      unfold smB at this
      exact of_decide_eq_true this
    cases hb : decide ((1 : Int) ≤ (x.length : Int)) && decide ((x.length : Int) ≤ 8) with
    | false =>
      refine ps_ifT eB (et_is (et_or (a := false) (b := true) (et_is (et_not (et_test isS)) rfl) fun _ => et_is (et_not (et_test (ev_chain (r1 := fun i j => decide (i ≤ j)) (r2 := fun i j => decide (i ≤ j)) ev_c (ev_lenS (x := x) (ev_var rfl) hl) ev_c))) (by rw [hb]; rfl)) rfl) fun H1 e1 => ?_
      refine My.ps_ret (eB.trans e1) (p_c (v := .bl false)) fun v B1 H2 g hp => q v B1 H2 ((Gr.wide eB e1).trans g) ?_
      have : nameB (.str x) = false := by
        show (decide (1 ≤ x.length) && decide (x.length ≤ 8) && _) = false
        have e1 : (decide (1 ≤ x.length) && decide (x.length ≤ 8)) = false := by
          rw [← hb]
          congr 1 <;> (apply decide_eq_decide.mpr; omega)
        rw [e1]
        rfl
      rw [this]
      exact hp
    | true =>
      refine ps_ifN eB (et_is (et_or (a := false) (b := false) (et_is (et_not (et_test isS)) rfl) fun _ => et_is (et_not (et_test (ev_chain (r1 := fun i j => decide (i ≤ j)) (r2 := fun i j => decide (i ≤ j)) ev_c (ev_lenS (x := x) (ev_var rfl) hl) ev_c))) (by rw [hb]; rfl)) rfl) fun H1 e1 => ?_
      dsimp only
      simp only [Bool.and_eq_true, decide_eq_true_eq] at hb
      refine My.ps_ret (eB.trans e1) (p_ev (v := .bl (nameB (.str x))) (ev_is (ev_allL (K := K) (bs := (List.range x.cps.size).map fun i => decide (x.cps.getD i 0 ∈ (Str.ofString "abcdefghijklmnopqrstuvwxyz").cps.toList)) ?_) ?_)) fun v B1 H2 g hp => q v B1 H2 ((Gr.wide eB e1).trans g) hp
      rotate_left
      · rw [all_cps x fun c => decide (c ∈ (Str.ofString "abcdefghijklmnopqrstuvwxyz").cps.toList)]
        refine congrArg V.bl ?_
        show _ = isNmB x
        unfold isNmB
        rw [decide_eq_true (show 1 ≤ x.length by omega), decide_eq_true (show x.length ≤ 8 by omega)]
        exact congrArg (x.cps.toList.all) (funext fun c => low_let)
      rw [List.map_map]
      refine p_lcA (K := K) (src_str (x := x) (ev_var rfl)) (by show x.length ≤ _; omega) (fun i => .bool (decide (x.cps.getD i 0 ∈ (Str.ofString "abcdefghijklmnopqrstuvwxyz").cps.toList))) fun i v B1 hi e pv => ?_
      obtain rfl : v = .str (oneS x i) := pv
      exact ⟨[some (.str x), some (.str (oneS x i))], rfl, fun H2 Q e q => q, ed_bl (ev_sign (c := x.cps.getD i 0) (z := "abcdefghijklmnopqrstuvwxyz") (ev_var rfl) ev_c)⟩
  · have hn : nameB d = false := by cases d <;> first | rfl | exact absurd ⟨_, rfl⟩ hx
    refine ps_ifT eB (et_is (et_or (a := true) (b := true) (et_is (et_not (et_test isS)) (by cases d <;> first | rfl | exact absurd ⟨_, rfl⟩ hx)) fun z => nomatch z) rfl) fun H1 e1 => ?_
    refine My.ps_ret (eB.trans e1) (p_c (v := .bl false)) fun v B1 H2 g hp => q v B1 H2 ((Gr.wide eB e1).trans g) ?_
    rw [hn]
    exact hp


end
end K12
namespace K12
set_option autoImplicit false
open PySem PySem.W L2 Evl My Nd
section
variable {P : Program} {w : World} {K : PySem.W.Frag} {mg : Str → Option Value} {base : Heap}
/-- is_derivative -/
abbrev s_is_derivative : Stmt := topS 29
abbrev N_is_derivative : List Str := ["thing", "name", "by_x", "by_y"]
theorem sc_is_derivative : FnScope N_is_derivative ["thing"] (defScope s_is_derivative) := ⟨rfl, rfl, rfl, by decide +kernel, rfl, by decide +kernel, by decide +kernel⟩
theorem ok_is_derivative {f : Addr} {fd : FuncData} (F : Fun K "is_derivative" "is_derivative" s_is_derivative f fd)  {f_is_name : Addr} {d_is_name : FuncData} (c_is_name : Cal P w K mg base "is_name" 2 ["thing"] (spP (RBE K nameB)) f_is_name d_is_name) {f_is_whole : Addr} {d_is_whole : FuncData} (c_is_whole : Cal P w K mg base "is_whole" 2 ["thing"] (spP (RBE K wholeB)) f_is_whole d_is_whole) (n_isinstance : mg "isinstance" = none) (n_tuple : mg "tuple" = none) (n_len : mg "len" = none)  :
    FnOk P w K mg base CX0 3 f fd ["thing"] (spP (RBE K dvB)) := by
  refine F.ok sc_is_derivative (spP_len (by rintro _ _ ⟨_, _, _, _, rfl, rfl⟩; rfl)) (fun cdv A outer s H vs Q E hr h => ?_)
  obtain ⟨B, ps, p, eB, hv, ⟨qd, d, tq, hs, rfl, rfl⟩, q⟩ := h
  obtain ⟨v, rfl, h1⟩ := all1 hv
  have hu := hu_of hr
  refine ⟨_, (pss_cons (ps_if (PW.pt (pw_or (pt_not (pt_val (pe_callB call_isi (by rfl) n_isinstance (by decide +kernel) (pa_cons (pv 0) (pa_cons (pe_bltn (v := .ty "tuple") (u := .type "tuple") (by rfl) n_tuple (by decide +kernel) rfl) pa_nil))))) (pw_or1 (pt_cmpR op_ne (pe_callB call_len_seq (by rfl) n_len (by decide +kernel) (pa_cons (pv 0) pa_nil)) pe_int (nomark _))))) (pss_one (ps_ret pe_bl)) pss_nil)
    (pss_cons (ps_asg (pv 0) (pg_tup (by rfl) (pgs_cons (pg_name (i := 1) sc_is_derivative.nd rfl (by first | exact .inl rfl | exact .inr rfl)) (pgs_cons (pg_name (i := 2) sc_is_derivative.nd rfl (by first | exact .inl rfl | exact .inr rfl)) (pgs_cons (pg_name (i := 3) sc_is_derivative.nd rfl (by first | exact .inl rfl | exact .inr rfl)) pgs_nil)))))
    (pss_one (ps_ret (pe_and (pe_call c_is_name.G (hr.mono (by decide)) (by rfl) c_is_name.m c_is_name.k c_is_name.b .nil pass0 (pa_cons (pv 1) pa_nil)) (pe_and (pe_call c_is_whole.G (hr.mono (by decide)) (by rfl) c_is_whole.m c_is_whole.k c_is_whole.b .nil pass0 (pa_cons (pv 2) pa_nil)) (pe_and (pe_call c_is_whole.G (hr.mono (by decide)) (by rfl) c_is_whole.m c_is_whole.k c_is_whole.b .nil pass0 (pa_cons (pv 3) pa_nil)) (pe_and (pe_cmpR op_ge (pv 2) pe_int (nomark _)) (pe_one (pe_cmpR op_ge (pv 3) pe_int (nomark _))))))))))), ?_⟩
  have hd : De K B v d := tq _ _ h1
  cases ht : tupN 3 d with
  | false =>
    refine ps_ifT eB (et_is (et_tupNE (n := 3) (p_var (p := IsE K d) rfl hd)) (by rw [ht]; rfl)) fun H1 e1 => ?_
    refine My.ps_ret (eB.trans e1) (p_c (v := .bl false)) fun v B1 H2 g hp => q v B1 H2 ((Gr.wide eB e1).trans g) ?_
    rw [show dvB d = false from by unfold dvB; rw [ht]; rfl]
    exact hp
  | true =>
    refine ps_ifN eB (et_is (et_tupNE (n := 3) (p_var (p := IsE K d) rfl hd)) (by rw [ht]; rfl)) fun H1 e1 => ?_
    dsimp only
    have s0 := smd_it hs 0
    have s1 := smd_it hs 1
    have s2 := smd_it hs 2
    have ed : dvB d = (nameB (it 0 d) && (wholeB (it 1 d) && (wholeB (it 2 d) && (decide (0 ≤ intOf (it 1 d)) && decide (0 ≤ intOf (it 2 d)))))) := by unfold dvB; rw [ht]; rfl
    refine ps_un3E (K := K) (eB.trans e1) (p_var (p := IsE K (.tuple [it 0 d, it 1 d, it 2 d])) rfl (by rw [← tpl3 ht]; exact hd)) fun w1 w2 w3 B2 H2 g2 n1 n2 n3 => ?_
    dsimp only
    refine My.ps_ret g2.c (p_ev (v := .bl (dvB d)) (ev_is (ev_andV (a := nameB (it 0 d)) (b := (wholeB (it 1 d) && (wholeB (it 2 d) && (decide (0 ≤ intOf (it 1 d)) && decide (0 ≤ intOf (it 2 d)))))) (ev_p (p_callP (ps := [IsE K (it 0 d)]) (q_cons (p_var rfl n1) q_nil) ⟨_, _, to_idE, s0, rfl, rfl⟩)) fun _ =>
      ev_andV (ev_p (p_callP (ps := [IsE K (it 1 d)]) (q_cons (p_var rfl n2) q_nil) ⟨_, _, to_idE, s1, rfl, rfl⟩)) fun k1 => ev_andV (ev_p (p_callP (ps := [IsE K (it 2 d)]) (q_cons (p_var rfl n3) q_nil) ⟨_, _, to_idE, s2, rfl, rfl⟩)) fun k2 =>
      ev_andV (ev_op (ev_inE (K := K) (p_var (p := IsE K (.int (intOf (it 1 d)))) rfl (by rw [← wholeB_ex k1]; exact n2))) ev_c rv_I0) fun _ => ev_op (ev_inE (K := K) (p_var (p := IsE K (.int (intOf (it 2 d)))) rfl (by rw [← wholeB_ex k2]; exact n3))) ev_c rv_I0) (by rw [ed]))) fun v B3 H3 g hp => q v B3 H3 (((Gr.wide eB e1).trans g2).trans g) hp








end
end K12
namespace K12
set_option autoImplicit false
open PySem PySem.W L2 Evl My Nd
section
variable {P : Program} {w : World} {K : PySem.W.Frag} {mg : Str → Option Value} {base : Heap}
theorem nd_all {α : Type} {g : α → PyData} (h : ∀ x, (g x).hasDict = false) : ∀ l : List α, PyData.hasDictAll (l.map g) = false
  | [] => by simp [PyData.hasDictAll]
  | x :: l => by simp only [List.map_cons, PyData.hasDictAll, h x, nd_all h l, Bool.or_self]
theorem nd_pw (z : Dv × Int) : (pwD z).hasDict = false := by simp [pwD, Dv.D, PyData.hasDict, PyData.hasDictAll]
theorem nd_mo (m : Mo) : (moD m).hasDict = false := by
  unfold moD
  simp only [PyData.hasDict]
  exact nd_all nd_pw m
theorem nd_fr (f : Fr) : (frD f).hasDict = false := by simp [frD, PyData.hasDict, PyData.hasDictAll]
theorem nd_po (p : Po) : (poD p).hasDict = false := by
  unfold poD
  simp only [PyData.hasDict]
  refine nd_all (fun t => ?_) p
  unfold tmD
  simp only [PyData.hasDict, PyData.hasDictAll, nd_mo, nd_fr, Bool.or_self]
theorem tu_1D {H : Hp} {v : V} {d e : PyData} (h : De K H v (.tuple [d, e])) (n : d.hasDict = false) : (TuP K [IsD K d, IsE K e]).P v H := by
  obtain ⟨a, xs, rfl, h1, h2⟩ := tu_e h
  obtain ⟨x, y, rfl, m1, m2⟩ := all2 h2
  exact ⟨a, _, rfl, h1, de_dp m1 n, m2, trivial⟩

/-- is_fraction -/
abbrev s_is_fraction : Stmt := topS 27
abbrev N_is_fraction : List Str := ["thing", "top", "bottom"]
theorem sc_is_fraction : FnScope N_is_fraction ["thing"] (defScope s_is_fraction) := ⟨rfl, rfl, rfl, by decide +kernel, rfl, by decide +kernel, by decide +kernel⟩
theorem ok_is_fraction {f : Addr} {fd : FuncData} (F : Fun K "is_fraction" "is_fraction" s_is_fraction f fd)  {f_is_whole : Addr} {d_is_whole : FuncData} (c_is_whole : Cal P w K mg base "is_whole" 2 ["thing"] (spP (RBE K wholeB)) f_is_whole d_is_whole) (n_isinstance : mg "isinstance" = none) (n_tuple : mg "tuple" = none) (n_len : mg "len" = none) (g_gcd : mg "gcd" = some (.builtin "math.gcd")) :
    FnOk P w K mg base CX0 3 f fd ["thing"] (spP (RBE K frB)) := by
  refine F.ok sc_is_fraction (spP_len (by rintro _ _ ⟨_, _, _, _, rfl, rfl⟩; rfl)) (fun cdv A outer s H vs Q E hr h => ?_)
  obtain ⟨B, ps, p, eB, hv, ⟨qd, d, tq, hs, rfl, rfl⟩, q⟩ := h
  obtain ⟨v, rfl, h1⟩ := all1 hv
  have hu := hu_of hr
  refine ⟨_, (pss_cons (ps_if (PW.pt (pw_or (pt_not (pt_val (pe_callB call_isi (by rfl) n_isinstance (by decide +kernel) (pa_cons (pv 0) (pa_cons (pe_bltn (v := .ty "tuple") (u := .type "tuple") (by rfl) n_tuple (by decide +kernel) rfl) pa_nil))))) (pw_or1 (pt_cmpR op_ne (pe_callB call_len_seq (by rfl) n_len (by decide +kernel) (pa_cons (pv 0) pa_nil)) pe_int (nomark _))))) (pss_one (ps_ret pe_bl)) pss_nil)
    (pss_cons (ps_asg (pv 0) (pg_tup (by rfl) (pgs_cons (pg_name (i := 1) sc_is_fraction.nd rfl (by first | exact .inl rfl | exact .inr rfl)) (pgs_cons (pg_name (i := 2) sc_is_fraction.nd rfl (by first | exact .inl rfl | exact .inr rfl)) pgs_nil))))
    (pss_one (ps_ret (pe_and (pe_call c_is_whole.G (hr.mono (by decide)) (by rfl) c_is_whole.m c_is_whole.k c_is_whole.b .nil pass0 (pa_cons (pv 1) pa_nil)) (pe_and (pe_call c_is_whole.G (hr.mono (by decide)) (by rfl) c_is_whole.m c_is_whole.k c_is_whole.b .nil pass0 (pa_cons (pv 2) pa_nil)) (pe_and (pe_cmpR op_gt (pv 2) pe_int (nomark _)) (pe_one (pe_cmpR op_eq (pe_callBfun cr_gcd (by rfl) g_gcd (pa_cons (pv 1) (pa_cons (pv 2) pa_nil))) pe_int (nomark _)))))))))), ?_⟩
  have hd : De K B v d := tq _ _ h1
  cases ht : tupN 2 d with
  | false =>
    refine ps_ifT eB (et_is (et_tupNE (n := 2) (p_var (p := IsE K d) rfl hd)) (by rw [ht]; rfl)) fun H1 e1 => ?_
    refine My.ps_ret (eB.trans e1) (p_c (v := .bl false)) fun v B1 H2 g hp => q v B1 H2 ((Gr.wide eB e1).trans g) ?_
    rw [show frB d = false from by unfold frB; rw [ht]; rfl]
    exact hp
  | true =>
    refine ps_ifN eB (et_is (et_tupNE (n := 2) (p_var (p := IsE K d) rfl hd)) (by rw [ht]; rfl)) fun H1 e1 => ?_
    dsimp only
    have s0 := smd_it hs 0
    have s1 := smd_it hs 1
    have ed : frB d = (wholeB (it 0 d) && (wholeB (it 1 d) && (decide (0 < intOf (it 1 d)) && decide (Nat.gcd (intOf (it 0 d)).natAbs (intOf (it 1 d)).natAbs = 1)))) := by unfold frB; rw [ht]; rfl
    refine ps_un2 (K := K) (p := IsE K (it 0 d)) (q := IsE K (it 1 d)) (eB.trans e1) (p_var (p := TuP K [IsE K (it 0 d), IsE K (it 1 d)]) rfl (by rw [tpl2 ht] at hd; exact tu_e hd)) fun w1 w2 B2 H2 g2 n1 n2 => ?_
    dsimp only
    refine My.ps_ret g2.c (p_ev (v := .bl (frB d)) (ev_is (ev_andV (a := wholeB (it 0 d)) (b := wholeB (it 1 d) && (decide (0 < intOf (it 1 d)) && decide (Nat.gcd (intOf (it 0 d)).natAbs (intOf (it 1 d)).natAbs = 1))) (ev_p (p_callP (ps := [IsE K (it 0 d)]) (q_cons (p_var rfl n1) q_nil) ⟨_, _, to_idE, s0, rfl, rfl⟩)) fun k0 =>
      ev_andV (ev_p (p_callP (ps := [IsE K (it 1 d)]) (q_cons (p_var rfl n2) q_nil) ⟨_, _, to_idE, s1, rfl, rfl⟩)) fun k1 => ev_andV (ev_op (ev_inE (K := K) (p_var (p := IsE K (.int (intOf (it 1 d)))) rfl (by rw [← wholeB_ex k1]; exact n2))) ev_c rv_I0) fun _ => ev_is (ev_op (ev_gcd (ev_inE (K := K) (p_var (p := IsE K (.int (intOf (it 0 d)))) rfl (by rw [← wholeB_ex k0]; exact n1))) (ev_inE (K := K) (p_var (p := IsE K (.int (intOf (it 1 d)))) rfl (by rw [← wholeB_ex k1]; exact n2)))) ev_c (rv_eq rfl)) ?_) (by rw [ed]))) fun v B3 H3 g hp => q v B3 H3 (((Gr.wide eB e1).trans g2).trans g) hp
    refine congrArg V.bl ?_
    apply decide_eq_decide.mpr
    constructor
    · intro z
      have := V.int.inj z
      omega
    · intro z
      rw [z]
      rfl

/-- _is_powered -/
abbrev s__is_powered : Stmt := topS 31
abbrev N__is_powered : List Str := ["thing", "derivative", "power"]
theorem sc__is_powered : FnScope N__is_powered ["thing"] (defScope s__is_powered) := ⟨rfl, rfl, rfl, by decide +kernel, rfl, by decide +kernel, by decide +kernel⟩
theorem ok__is_powered {f : Addr} {fd : FuncData} (F : Fun K "_is_powered" "_is_powered" s__is_powered f fd)  {f_is_derivative : Addr} {d_is_derivative : FuncData} (c_is_derivative : Cal P w K mg base "is_derivative" 3 ["thing"] (spP (RBE K dvB)) f_is_derivative d_is_derivative) {f_is_whole : Addr} {d_is_whole : FuncData} (c_is_whole : Cal P w K mg base "is_whole" 2 ["thing"] (spP (RBE K wholeB)) f_is_whole d_is_whole) (n_isinstance : mg "isinstance" = none) (n_tuple : mg "tuple" = none) (n_len : mg "len" = none)  :
    FnOk P w K mg base CX0 4 f fd ["thing"] (spP (RBE K pwB)) := by
  refine F.ok sc__is_powered (spP_len (by rintro _ _ ⟨_, _, _, _, rfl, rfl⟩; rfl)) (fun cdv A outer s H vs Q E hr h => ?_)
  obtain ⟨B, ps, p, eB, hv, ⟨qd, d, tq, hs, rfl, rfl⟩, q⟩ := h
  obtain ⟨v, rfl, h1⟩ := all1 hv
  have hu := hu_of hr
  refine ⟨_, (pss_cons (ps_if (PW.pt (pw_or (pt_not (pt_val (pe_callB call_isi (by rfl) n_isinstance (by decide +kernel) (pa_cons (pv 0) (pa_cons (pe_bltn (v := .ty "tuple") (u := .type "tuple") (by rfl) n_tuple (by decide +kernel) rfl) pa_nil))))) (pw_or1 (pt_cmpR op_ne (pe_callB call_len_seq (by rfl) n_len (by decide +kernel) (pa_cons (pv 0) pa_nil)) pe_int (nomark _))))) (pss_one (ps_ret pe_bl)) pss_nil)
    (pss_cons (ps_asg (pv 0) (pg_tup (by rfl) (pgs_cons (pg_name (i := 1) sc__is_powered.nd rfl (by first | exact .inl rfl | exact .inr rfl)) (pgs_cons (pg_name (i := 2) sc__is_powered.nd rfl (by first | exact .inl rfl | exact .inr rfl)) pgs_nil))))
    (pss_one (ps_ret (pe_and (pe_call c_is_derivative.G (hr.mono (by decide)) (by rfl) c_is_derivative.m c_is_derivative.k c_is_derivative.b .nil pass0 (pa_cons (pv 1) pa_nil)) (pe_and (pe_call c_is_whole.G (hr.mono (by decide)) (by rfl) c_is_whole.m c_is_whole.k c_is_whole.b .nil pass0 (pa_cons (pv 2) pa_nil)) (pe_one (pe_cmpR op_gt (pv 2) pe_int (nomark _))))))))), ?_⟩
  have hd : De K B v d := tq _ _ h1
  cases ht : tupN 2 d with
  | false =>
    refine ps_ifT eB (et_is (et_tupNE (n := 2) (p_var (p := IsE K d) rfl hd)) (by rw [ht]; rfl)) fun H1 e1 => ?_
    refine My.ps_ret (eB.trans e1) (p_c (v := .bl false)) fun v B1 H2 g hp => q v B1 H2 ((Gr.wide eB e1).trans g) ?_
    rw [show pwB d = false from by unfold pwB; rw [ht]; rfl]
    exact hp
  | true =>
    refine ps_ifN eB (et_is (et_tupNE (n := 2) (p_var (p := IsE K d) rfl hd)) (by rw [ht]; rfl)) fun H1 e1 => ?_
    dsimp only
    have s0 := smd_it hs 0
    have s1 := smd_it hs 1
    have ed : pwB d = (dvB (it 0 d) && (wholeB (it 1 d) && decide (0 < intOf (it 1 d)))) := by unfold pwB; rw [ht]; rfl
    refine ps_un2 (K := K) (p := IsE K (it 0 d)) (q := IsE K (it 1 d)) (eB.trans e1) (p_var (p := TuP K [IsE K (it 0 d), IsE K (it 1 d)]) rfl (by rw [tpl2 ht] at hd; exact tu_e hd)) fun w1 w2 B2 H2 g2 n1 n2 => ?_
    dsimp only
    refine My.ps_ret g2.c (p_ev (v := .bl (pwB d)) (ev_is (ev_andV (a := dvB (it 0 d)) (b := wholeB (it 1 d) && decide (0 < intOf (it 1 d))) (ev_p (p_callP (ps := [IsE K (it 0 d)]) (q_cons (p_var rfl n1) q_nil) ⟨_, _, to_idE, s0, rfl, rfl⟩)) fun k0 =>
      ev_andV (ev_p (p_callP (ps := [IsE K (it 1 d)]) (q_cons (p_var rfl n2) q_nil) ⟨_, _, to_idE, s1, rfl, rfl⟩)) fun k1 => ev_op (ev_inE (K := K) (p_var (p := IsE K (.int (intOf (it 1 d)))) rfl (by rw [← wholeB_ex k1]; exact n2))) ev_c rv_I0) (by rw [ed]))) fun v B3 H3 g hp => q v B3 H3 (((Gr.wide eB e1).trans g2).trans g) hp

/-- is_monomial -/
abbrev s_is_monomial : Stmt := topS 30
abbrev N_is_monomial : List Str := ["thing", "ahead", "pair"]
theorem sc_is_monomial : FnScope N_is_monomial ["thing"] (defScope s_is_monomial) := ⟨rfl, rfl, rfl, by decide +kernel, rfl, by decide +kernel, by decide +kernel⟩
theorem ok_is_monomial {f : Addr} {fd : FuncData} (F : Fun K "is_monomial" "is_monomial" s_is_monomial f fd)  {f__is_powered : Addr} {d__is_powered : FuncData} (c__is_powered : Cal P w K mg base "_is_powered" 4 ["thing"] (spP (RBE K pwB)) f__is_powered d__is_powered) (n_isinstance : mg "isinstance" = none) (n_tuple : mg "tuple" = none)  :
    FnOk P w K mg base CX0 5 f fd ["thing"] (spP (RBE K moB)) := by
  refine F.ok sc_is_monomial (spP_len (by rintro _ _ ⟨_, _, _, _, rfl, rfl⟩; rfl)) (fun cdv A outer s H vs Q E hr h => ?_)
  obtain ⟨B, ps, p, eB, hv, ⟨qd, d, tq, hs, rfl, rfl⟩, q⟩ := h
  obtain ⟨v, rfl, h1⟩ := all1 hv
  have hu := hu_of hr
  refine ⟨_, (pss_cons (ps_if (pt_not (pt_val (pe_callB call_isi (by rfl) n_isinstance (by decide +kernel) (pa_cons (pv 0) (pa_cons (pe_bltn (v := .ty "tuple") (u := .type "tuple") (by rfl) n_tuple (by decide +kernel) rfl) pa_nil))))) (pss_one (ps_ret pe_bl)) pss_nil)
    (pss_cons (ps_set (i := 1) sc_is_monomial.nd rfl (by first | exact .inl rfl | exact .inr rfl) pe_non)
    (pss_cons (ps_for PassesOwn.never rfl (pi_tup (pv 0)) (pg_name (i := 2) sc_is_monomial.nd rfl (by first | exact .inl rfl | exact .inr rfl))
      (pss_cons (ps_if (PW.pt (pw_or (pt_not (pt_val (pe_call c__is_powered.G (hr.mono (by decide)) (by rfl) c__is_powered.m c__is_powered.k c__is_powered.b .nil pass0 (pa_cons (pv 2) pa_nil)))) (pw_or1 (PW.pt (pw_and (pt_cmpR op_notN (pv 1) pe_non (nomark _)) (pw_and1 (pt_cmpR (op_leD (by have h := hr.un; show (A.deeper _).units + 65 < cLine; omega)) (pe_ix ix_tup (pv 2) pe_int (fun _ _ => rfl)) (pv 1) (nomark _)))))))) (pss_one (ps_ret pe_bl)) pss_nil)
    (pss_one (ps_set (i := 1) sc_is_monomial.nd rfl (by first | exact .inl rfl | exact .inr rfl) (pe_ix ix_tup (pv 2) pe_int (fun _ _ => rfl))))))
    (pss_one (ps_ret pe_bl))))), ?_⟩
  have hd : De K B v d := tq _ _ h1
  by_cases hx : ∃ xs, d = .tuple xs
  rotate_left
  · have hn : isTu d = false ∧ moB d = false := by cases d <;> first | exact ⟨rfl, rfl⟩ | exact absurd ⟨_, rfl⟩ hx
    refine ps_ifT eB (et_is (et_not (et_test (ev_isTuE (p_var (p := IsE K d) rfl hd)))) (by rw [hn.1]; rfl)) fun H1 e1 => ?_
    refine My.ps_ret (eB.trans e1) (p_c (v := .bl false)) fun v B1 H2 g hp => q v B1 H2 ((Gr.wide eB e1).trans g) ?_
    rw [hn.2]
    exact hp
  obtain ⟨xs, rfl⟩ := hx
  refine ps_ifN eB (et_is (et_not (et_test (ev_isTuE (p_var (p := IsE K (.tuple xs)) rfl hd)))) rfl) fun H1 e1 => ?_
  dsimp only
  refine ps_asgN (fun x => [some v, some x, none]) (eB.trans e1) (p_c (v := .non)) (fun x B2 H2 g2 hx => ?_) (fun _ => rfl)
  obtain rfl : x = .non := hx
  dsimp only
  refine ps_forS g2.c (src_tu (p_var rfl (tu_e (de_m g2.b hd)))) fun B3 H3 g3 => ?_
  refine ⟨fun i σ H4 => ∃ B4, Gr B3 H3 B4 H4 ∧ ∃ x y ah, σ = [some v, some y, x] ∧ AhP K ah y B4 ∧ (∀ a, ah = some a → ∃ u : Dv, a = u.D) ∧ chainB pwB none xs = chainB pwB ah (xs.drop i), ⟨B3, Gr.refl g3.c, none, .non, none, rfl, .inl ⟨rfl, rfl⟩, (fun _ z => nomatch z), rfl⟩, fun i σ H4 _ h => ?_, fun i v2 σ H4 hi pv px => ?_, fun σ H4 pv => ?_⟩
  · obtain ⟨B4, g4, _⟩ := h
    exact g4.b.trans g4.c
  · obtain ⟨B4, g4, x, y, ah, rfl, ha, hu, hc⟩ := pv
    rw [List.length_map] at hi
    rw [getD_map hi] at px
    have px4 := de_m g4.b (show De K B3 v2 xs[i] from px)
    have sx := smd_tu hs xs[i] (List.getElem_mem hi)
    rw [List.drop_eq_getElem_cons hi, chainB] at hc
    have one : Ev (tCall (spP (RBE K pwB)) [] E0 (tCons (tVar 2) tNil)) [some v, some y, some v2] B4 (.bl (pwB xs[i])) := ev_p (p_callP (ps := [IsE K xs[i]]) (q_cons (p_var rfl px4) q_nil) ⟨_, _, to_idE, sx, rfl, rfl⟩)
    cases hp : pwB xs[i] with
    | false =>
      refine ps_ifT g4.c (et_is (et_or (a := true) (b := true) (et_is (et_not (et_test one)) (by rw [hp]; rfl)) fun z => nomatch z) rfl) fun H5 e5 => ?_
      refine My.ps_ret (g4.c.trans e5) (p_c (v := .bl false)) fun v5 B5 H5 g5 hv5 => q v5 B5 H5 ((((Gr.wide eB e1).trans g2).trans (g3.trans (g4.trans (Gr.wide g4.c e5)))).trans g5) ?_
      rw [show moB (.tuple xs) = false from by show chainB pwB none xs = false; rw [hc, hp]; rfl]
      exact hv5
    | true =>
      obtain ⟨z, hz, hz1, hz2⟩ := pwB_ex hp
      have p0 : EvP (tVar 2) [some v, some y, some v2] B4 (TuP K [IsD K z.1.D, IsD K (.int z.2)]) := p_var rfl (tu_d (ds := [z.1.D, .int z.2]) (de_dp (by rw [hz] at px4; exact px4) (nd_pw z)))
      have test := et_ah (K := K) (d := z.1.D) (σ := [some v, some y, some v2]) (i := 1) rfl ha (p_ixT p0 (p_c (v := .int 0)) rfl) (fun a ea => by obtain ⟨u, rfl⟩ := hu a ea; exact alike_dv _ _) (fun z => nomatch z) (by rw [deep_dv]; omega)
      have ei : it 0 xs[i] = z.1.D := by rw [hz]; rfl
      cases hb : ah.all fun a => dataLt a z.1.D with
      | false =>
        refine ps_ifT g4.c (et_is (et_or (a := false) (b := true) (et_is (et_not (et_test one)) (by rw [hp]; rfl)) fun _ => et_is test (by rw [hb]; rfl)) rfl) fun H5 e5 => ?_
        refine My.ps_ret (g4.c.trans e5) (p_c (v := .bl false)) fun v5 B5 H5 g5 hv5 => q v5 B5 H5 ((((Gr.wide eB e1).trans g2).trans (g3.trans (g4.trans (Gr.wide g4.c e5)))).trans g5) ?_
        rw [show moB (.tuple xs) = false from by show chainB pwB none xs = false; rw [hc, hp, ei, hb]; rfl]
        exact hv5
      | true =>
        refine ps_ifN g4.c (et_is (et_or (a := false) (b := false) (et_is (et_not (et_test one)) (by rw [hp]; rfl)) fun _ => et_is test (by rw [hb]; rfl)) rfl) fun H5 e5 => ?_
        dsimp only
        refine ps_asgN (fun x => [some v, some x, some v2]) (g4.c.trans e5) (p_ixT (K := K) (p := IsD K z.1.D) p0 p_c rfl) (fun x6 B6 H6 g6 hx6 => ?_) (fun _ => rfl)
        refine ⟨B6, (g4.trans (Gr.wide g4.c e5)).trans g6, some v2, x6, some z.1.D, rfl, .inr ⟨_, rfl, hx6, _, rfl⟩, (fun a ea => by cases ea; exact ⟨_, rfl⟩), ?_⟩
        rw [hc, hp, ei, hb]
        rfl
  · obtain ⟨B4, g4, x, y, ah, rfl, ha, hu, hc⟩ := pv
    dsimp only
    refine My.ps_ret g4.c (p_c (v := .bl true)) fun v5 B5 H5 g5 hp => ?_
    refine q v5 B5 H5 ((((Gr.wide eB e1).trans g2).trans (g3.trans g4)).trans g5) ?_
    rw [show moB (.tuple xs) = true from by show chainB pwB none xs = true; rw [hc, List.drop_eq_nil_of_le (by rw [List.length_map]; exact Nat.le_refl _)]; rfl]
    exact hp

/-- _is_term -/
abbrev s__is_term : Stmt := topS 32
abbrev N__is_term : List Str := ["thing", "monomial", "number"]
theorem sc__is_term : FnScope N__is_term ["thing"] (defScope s__is_term) := ⟨rfl, rfl, rfl, by decide +kernel, rfl, by decide +kernel, by decide +kernel⟩
theorem ok__is_term {f : Addr} {fd : FuncData} (F : Fun K "_is_term" "_is_term" s__is_term f fd)  {f_is_monomial : Addr} {d_is_monomial : FuncData} (c_is_monomial : Cal P w K mg base "is_monomial" 5 ["thing"] (spP (RBE K moB)) f_is_monomial d_is_monomial) {f_is_fraction : Addr} {d_is_fraction : FuncData} (c_is_fraction : Cal P w K mg base "is_fraction" 3 ["thing"] (spP (RBE K frB)) f_is_fraction d_is_fraction) (n_isinstance : mg "isinstance" = none) (n_tuple : mg "tuple" = none) (n_len : mg "len" = none)  :
    FnOk P w K mg base CX0 6 f fd ["thing"] (spP (RBE K tmB)) := by
  refine F.ok sc__is_term (spP_len (by rintro _ _ ⟨_, _, _, _, rfl, rfl⟩; rfl)) (fun cdv A outer s H vs Q E hr h => ?_)
  obtain ⟨B, ps, p, eB, hv, ⟨qd, d, tq, hs, rfl, rfl⟩, q⟩ := h
  obtain ⟨v, rfl, h1⟩ := all1 hv
  have hu := hu_of hr
  refine ⟨_, (pss_cons (ps_if (PW.pt (pw_or (pt_not (pt_val (pe_callB call_isi (by rfl) n_isinstance (by decide +kernel) (pa_cons (pv 0) (pa_cons (pe_bltn (v := .ty "tuple") (u := .type "tuple") (by rfl) n_tuple (by decide +kernel) rfl) pa_nil))))) (pw_or1 (pt_cmpR op_ne (pe_callB call_len_seq (by rfl) n_len (by decide +kernel) (pa_cons (pv 0) pa_nil)) pe_int (nomark _))))) (pss_one (ps_ret pe_bl)) pss_nil)
    (pss_cons (ps_asg (pv 0) (pg_tup (by rfl) (pgs_cons (pg_name (i := 1) sc__is_term.nd rfl (by first | exact .inl rfl | exact .inr rfl)) (pgs_cons (pg_name (i := 2) sc__is_term.nd rfl (by first | exact .inl rfl | exact .inr rfl)) pgs_nil))))
    (pss_one (ps_ret (pe_and (pe_call c_is_monomial.G (hr.mono (by decide)) (by rfl) c_is_monomial.m c_is_monomial.k c_is_monomial.b .nil pass0 (pa_cons (pv 1) pa_nil)) (pe_and (pe_call c_is_fraction.G (hr.mono (by decide)) (by rfl) c_is_fraction.m c_is_fraction.k c_is_fraction.b .nil pass0 (pa_cons (pv 2) pa_nil)) (pe_one (pe_cmpR op_ne (pe_ix ix_tup (pv 2) pe_int (fun _ _ => rfl)) pe_int (nomark _))))))))), ?_⟩
  have hd : De K B v d := tq _ _ h1
  cases ht : tupN 2 d with
  | false =>
    refine ps_ifT eB (et_is (et_tupNE (n := 2) (p_var (p := IsE K d) rfl hd)) (by rw [ht]; rfl)) fun H1 e1 => ?_
    refine My.ps_ret (eB.trans e1) (p_c (v := .bl false)) fun v B1 H2 g hp => q v B1 H2 ((Gr.wide eB e1).trans g) ?_
    rw [show tmB d = false from by unfold tmB; rw [ht]; rfl]
    exact hp
  | true =>
    refine ps_ifN eB (et_is (et_tupNE (n := 2) (p_var (p := IsE K d) rfl hd)) (by rw [ht]; rfl)) fun H1 e1 => ?_
    dsimp only
    have s0 := smd_it hs 0
    have s1 := smd_it hs 1
    have ed : tmB d = (moB (it 0 d) && (frB (it 1 d) && !decide (intOf (it 0 (it 1 d)) = 0))) := by unfold tmB; rw [ht]; rfl
    refine ps_un2 (K := K) (p := IsE K (it 0 d)) (q := IsE K (it 1 d)) (eB.trans e1) (p_var (p := TuP K [IsE K (it 0 d), IsE K (it 1 d)]) rfl (by rw [tpl2 ht] at hd; exact tu_e hd)) fun w1 w2 B2 H2 g2 n1 n2 => ?_
    dsimp only
    refine My.ps_ret g2.c (p_ev (v := .bl (tmB d)) (ev_is (ev_andV (a := moB (it 0 d)) (b := frB (it 1 d) && !decide (intOf (it 0 (it 1 d)) = 0)) (ev_p (p_callP (ps := [IsE K (it 0 d)]) (q_cons (p_var rfl n1) q_nil) ⟨_, _, to_idE, s0, rfl, rfl⟩)) fun k0 =>
      ev_andV (ev_p (p_callP (ps := [IsE K (it 1 d)]) (q_cons (p_var rfl n2) q_nil) ⟨_, _, to_idE, s1, rfl, rfl⟩)) fun k1 => ?_) (by rw [ed]))) fun v B3 H3 g hp => q v B3 H3 (((Gr.wide eB e1).trans g2).trans g) hp
    obtain ⟨f, hf, _⟩ := frB_ex k1
    rw [hf] at n2 ⊢
    refine ev_is (ev_op (ev_inE (K := K) (p_ixT (K := K) (p := IsE K (.int f.1)) (p_var (p := TuP K [IsE K (.int f.1), IsE K (.int f.2)]) rfl (tu_e (ds := [.int f.1, .int f.2]) n2)) p_c rfl)) ev_c (rv_ne rfl)) ?_
    show V.bl (!decide (V.int f.1 = V.int 0)) = V.bl (!decide (f.1 = 0))
    by_cases z : f.1 = 0 <;> simp [z]

/-- need_polynomial -/
abbrev s_need_polynomial : Stmt := topS 33
abbrev N_need_polynomial : List Str := ["thing", "ahead", "number", "pair"]
theorem sc_need_polynomial : FnScope N_need_polynomial ["thing"] (defScope s_need_polynomial) := ⟨rfl, rfl, rfl, by decide +kernel, rfl, by decide +kernel, by decide +kernel⟩
def poO (C : Addr) : Option (Option Nat) → Out
  | none => .ret (IsV .non)
  | some none => .exc C [("number", IsV .non)]
  | some (some n) => .exc C [("number", IsV (.int (n : Nat)))]
def RpoO (K : PySem.W.Frag) (C : Addr) : List Pr → Out → Prop := fun ps o => ∃ (qd : Pr) (d : PyData), ToE K qd d ∧ smB d = true ∧ ps = [qd] ∧ o = poO C (poAt d)
theorem ok_need_polynomial {f : Addr} {fd : FuncData} (F : Fun K "need_polynomial" "need_polynomial" s_need_polynomial f fd)  {f__is_term : Addr} {d__is_term : FuncData} (c__is_term : Cal P w K mg base "_is_term" 6 ["thing"] (spP (RBE K tmB)) f__is_term d__is_term) (n_isinstance : mg "isinstance" = none) (n_tuple : mg "tuple" = none) (n_enumerate : mg "enumerate" = none) {aBP i_BP : Addr} {d_BP : FuncData} {gZ_BP : List Value → List Value → List Value} (R_BP : RP P w K mg base "BadPolynomial" aBP "number" i_BP d_BP gZ_BP) :
    FnOk P w K mg base (L2.CX P w) 7 f fd ["thing"] (spO (RpoO K aBP)) := by
  refine F.okX sc_need_polynomial (spO_len (by rintro _ _ ⟨_, _, _, _, rfl, rfl⟩; rfl)) (fun cdv A outer s H vs Q E hr h => ?_)
  obtain ⟨B, ps, o, eB, hv, ⟨qd, d, tq, hs, rfl, rfl⟩, q⟩ := h
  obtain ⟨v, rfl, h1⟩ := all1 hv
  have hu := hu_of hr
  have tk : Takes (cxOf (L2.CX P w) P w K mg base N_need_polynomial "need_polynomial" (defScope s_need_polynomial) f cdv A outer s H E) (fun cls d _ H => E cls d H) := L2.takes_of rfl rfl rfl rfl
  refine ⟨_, (pss_cons (ps_if (pt_not (pt_val (pe_callB call_isi (by rfl) n_isinstance (by decide +kernel) (pa_cons (pv 0) (pa_cons (pe_bltn (v := .ty "tuple") (u := .type "tuple") (by rfl) n_tuple (by decide +kernel) rfl) pa_nil))))) (pss_one (ps_raiseZ R_BP rfl rfl tk (hr.mono (by decide)) (by rfl))) pss_nil)
    (pss_cons (ps_set (i := 1) sc_need_polynomial.nd rfl (by first | exact .inl rfl | exact .inr rfl) pe_non)
    (pss_one (ps_for (L2.passes_of rfl) rfl (pi_enumT (by rfl) n_enumerate (pa_cons (pv 0) pa_nil)) (pg_tup (by rfl) (pgs_cons (pg_name (i := 2) sc_need_polynomial.nd rfl (by first | exact .inl rfl | exact .inr rfl)) (pgs_cons (pg_name (i := 3) sc_need_polynomial.nd rfl (by first | exact .inl rfl | exact .inr rfl)) pgs_nil)))
      (pss_cons (ps_if (PW.pt (pw_or (pt_not (pt_val (pe_call c__is_term.G (hr.mono (by decide)) (by rfl) c__is_term.m c__is_term.k c__is_term.b .nil pass0 (pa_cons (pv 3) pa_nil)))) (pw_or1 (PW.pt (pw_and (pt_cmpR op_notN (pv 1) pe_non (nomark _)) (pw_and1 (pt_cmpR (op_leD (by have h := hr.un; show (A.deeper _).units + 65 < cLine; omega)) (pe_ix ix_tup (pv 3) pe_int (fun _ _ => rfl)) (pv 1) (nomark _)))))))) (pss_one (ps_raiseP R_BP rfl rfl tk (hr.mono (by decide)) (by rfl) (pa_cons (pv 2) pa_nil))) pss_nil)
    (pss_one (ps_set (i := 1) sc_need_polynomial.nd rfl (by first | exact .inl rfl | exact .inr rfl) (pe_ix ix_tup (pv 3) pe_int (fun _ _ => rfl))))))))), ?_⟩
  have hd : De K B v d := tq _ _ h1
  by_cases hx : ∃ xs, d = .tuple xs
  rotate_left
  · have hn : isTu d = false ∧ poAt d = some none := by cases d <;> first | exact ⟨rfl, rfl⟩ | exact absurd ⟨_, rfl⟩ hx
    refine ps_ifT eB (et_is (et_not (et_test (ev_isTuE (p_var (p := IsE K d) rfl hd)))) (by rw [hn.1]; rfl)) fun H1 e1 => ?_
    rw [hn.2] at q
    exact x_rsZ (W := fun cls d _ H => E cls d H) R_BP.rc.r (eB.trans e1) e1 fun d2 B2 H2 g hd => q d2 B2 H2 ((Gr.wide eB e1).trans g) hd
  obtain ⟨xs, rfl⟩ := hx
  have q : OutOk (poO aBP ((chainAt tmB 0 none xs).map some)) B H Q E := q
  refine ps_ifN eB (et_is (et_not (et_test (ev_isTuE (p_var (p := IsE K (.tuple xs)) rfl hd)))) rfl) fun H1 e1 => ?_
  dsimp only
  refine ps_asgN (fun x => [some v, some x, none, none]) (eB.trans e1) (p_c (v := .non)) (fun x B2 H2 g2 hx => ?_) (fun _ => rfl)
  obtain rfl : x = .non := hx
  dsimp only
  refine ps_forE g2.c (src_enT (K := K) (ps := xs.map (IsE K)) (q_cons (p_var rfl (tu_e (de_m g2.b hd))) q_nil)) fun B3 H3 g3 => ?_
  refine ⟨fun i σ H4 => ∃ B4, Gr B3 H3 B4 H4 ∧ ∃ n x y ah, σ = [some v, some y, n, x] ∧ AhP K ah y B4 ∧ (∀ a, ah = some a → ∃ m : Mo, a = moD m) ∧ chainAt tmB 0 none xs = chainAt tmB i ah (xs.drop i), ⟨B3, Gr.refl g3.c, none, none, .non, none, rfl, .inl ⟨rfl, rfl⟩, (fun _ z => nomatch z), rfl⟩, fun i σ H4 _ h => ?_, fun i v2 T σ H4 hi pv px hT => ?_, fun σ H4 pv => ?_⟩
  · obtain ⟨B4, g4, _⟩ := h
    exact g4.b.trans g4.c
  · obtain ⟨B4, g4, n, x, y, ah, rfl, ha, hu, hc⟩ := pv
    rw [List.length_map] at hi
    rw [getD_map hi] at px
    have px4 := de_m g4.b (show De K B3 v2 xs[i] from px)
    have sx := smd_tu hs xs[i] (List.getElem_mem hi)
    rw [List.drop_eq_getElem_cons hi, chainAt] at hc
    refine ⟨T, _, rfl, st_of upd_same, rfl, _, _, rfl, _, _, rfl, rfl, ?_⟩
    have g5 := g4.trans (Gr.wide g4.c (Ex.new (o := .tup [.int (i : Nat), v2]) hT))
    have gs := ((Gr.wide eB e1).trans g2).trans (g3.trans g5)
    dsimp only
    have one : Ev (tCall (spP (RBE K tmB)) [] E0 (tCons (tVar 3) tNil)) [some v, some y, some (.int (i : Nat)), some v2] B4 (.bl (tmB xs[i])) := ev_p (p_callP (ps := [IsE K xs[i]]) (q_cons (p_var rfl px4) q_nil) ⟨_, _, to_idE, sx, rfl, rfl⟩)
    have bad : ∀ (X5 : Cx), Raises X5 (.ref aBP) → ∀ (H5 : Hp) (e5 : Ex _ H5), (tmB xs[i] && (ah.all fun a => dataLt a (it 0 xs[i]))) = false → _ := fun X5 r5 H5 e5 hf => x_rsP (X := X5) (C := aBP) (f := "number") (W := fun cls d _ H => E cls d H) (σ := [some v, some y, some (.int (i : Nat)), some v2]) (t := tCons (tVar 2) tNil) (p := IsV (.int (i : Nat))) r5 (g5.c.trans e5) (gs.a.trans e5) (q_cons (p_varV rfl) q_nil) fun d2 B2 H2 g hd => by
      rw [hc, if_neg (by rw [hf]; exact Bool.false_ne_true)] at q
      exact q d2 B2 H2 ((gs.trans (Gr.wide g5.c e5)).trans g) hd
    cases hp : tmB xs[i] with
    | false =>
      refine ps_ifT g5.c (et_is (et_or (a := true) (b := true) (et_is (et_not (et_test one)) (by rw [hp]; rfl)) fun z => nomatch z) rfl) fun H5 e5 => ?_
      exact bad _ R_BP.rc.r H5 e5 (by rw [hp]; rfl)
    | true =>
      obtain ⟨w1, w2, hz⟩ : ∃ w1 w2, xs[i] = .tuple [w1, w2] := ⟨_, _, tpl2 (by unfold tmB at hp; exact (Bool.and_eq_true_iff.mp hp).1)⟩
      have ei : it 0 xs[i] = w1 := by rw [hz]; rfl
      obtain ⟨m, hm⟩ : ∃ m : Mo, w1 = moD m := by
        rw [← ei]
        unfold tmB at hp
        simp only [Bool.and_eq_true] at hp
        exact moB_ex hp.2.1
      subst hm
      have p0 : EvP (tVar 3) [some v, some y, some (.int (i : Nat)), some v2] B4 (TuP K [IsD K (moD m), IsE K w2]) := p_var rfl (tu_1D (by rw [hz] at px4; exact px4) (nd_mo m))
      have test := et_ah (K := K) (d := moD m) (σ := [some v, some y, some (.int (i : Nat)), some v2]) (i := 1) rfl ha (p_ixT p0 (p_c (v := .int 0)) rfl) (fun a ea => by obtain ⟨u, rfl⟩ := hu a ea; exact alike_mo _ _) (fun z => nomatch z) (by have := deep_mo m; omega)
      cases hb : ah.all fun a => dataLt a (moD m) with
      | false =>
        refine ps_ifT g5.c (et_is (et_or (a := false) (b := true) (et_is (et_not (et_test one)) (by rw [hp]; rfl)) fun _ => et_is test (by rw [hb]; rfl)) rfl) fun H5 e5 => ?_
        exact bad _ R_BP.rc.r H5 e5 (by rw [ei, hb, Bool.and_false])
      | true =>
        refine ps_ifN g5.c (et_is (et_or (a := false) (b := false) (et_is (et_not (et_test one)) (by rw [hp]; rfl)) fun _ => et_is test (by rw [hb]; rfl)) rfl) fun H5 e5 => ?_
        dsimp only
        refine ps_asgN (fun x => [some v, some x, some (.int (i : Nat)), some v2]) (g5.c.trans e5) (p_ixT (K := K) (p := IsD K (moD m)) p0 p_c rfl) (fun x6 B6 H6 g6 hx6 => ?_) (fun _ => rfl)
        refine ⟨B6, (g5.trans (Gr.wide g5.c e5)).trans g6, some (.int (i : Nat)), some v2, x6, some (moD m), rfl, .inr ⟨_, rfl, hx6, _, rfl⟩, (fun a ea => by cases ea; exact ⟨_, rfl⟩), ?_⟩
        rw [hc, if_pos (by rw [hp, ei, hb]; rfl), ei]
  · obtain ⟨B4, g4, n, x, y, ah, rfl, ha, hu, hc⟩ := pv
    rw [hc, List.drop_eq_nil_of_le (by rw [List.length_map]; exact Nat.le_refl _)] at q
    exact q .non B4 H4 (((Gr.wide eB e1).trans g2).trans (g3.trans g4)) rfl

/-- is_polynomial -/
abbrev s_is_polynomial : Stmt := topS 34
abbrev N_is_polynomial : List Str := ["thing"]
theorem sc_is_polynomial : FnScope N_is_polynomial ["thing"] (defScope s_is_polynomial) := ⟨rfl, rfl, rfl, by decide +kernel, rfl, by decide +kernel, by decide +kernel⟩
theorem ok_is_polynomial {f : Addr} {fd : FuncData} (F : Fun K "is_polynomial" "is_polynomial" s_is_polynomial f fd) {aBP : Addr} {f_need_polynomial : Addr} {d_need_polynomial : FuncData} (c_need_polynomial : CalX P w K mg base "need_polynomial" 7 ["thing"] (spO (RpoO K aBP)) f_need_polynomial d_need_polynomial)  (g_BadPolynomial : mg "BadPolynomial" = some (.ref aBP)) (x_BP : PySem.W.exmOne K (.ref aBP) (.ref aBP) = some true) :
    FnOk P w K mg base CX0 8 f fd ["thing"] (spP (RBE K poB)) := by
  refine F.ok sc_is_polynomial (spP_len (by rintro _ _ ⟨_, _, _, _, rfl, rfl⟩; rfl)) (fun cdv A outer s H vs Q E hr h => ?_)
  obtain ⟨B, ps, p, eB, hv, ⟨qd, d, tq, hs, rfl, rfl⟩, q⟩ := h
  obtain ⟨v, rfl, h1⟩ := all1 hv
  have hu := hu_of hr
  refine ⟨_, (pss_cons (ps_try_only (tb := fun W => tDrop (tCallS (spO (RpoO K aBP)) (WE W) (tCons (tVar 0) tNil))) (ts := fun _ _ _ => tRet (tC (.bl false))) (Wout := fun _ _ _ _ => False) rfl rfl ⟨rfl, by decide, Or.inl g_BadPolynomial⟩ L2.takes0 (fun W pn xe tk _ => pss_one (ps_expr (pe_callS c_need_polynomial.G (hr.mono (by decide)) (by rfl) c_need_polynomial.m c_need_polynomial.k c_need_polynomial.b (fun σ => passAt tk σ) (pa_cons (pv 0) pa_nil)))) (fun _ _ _ _ _ _ _ => pss_one (ps_ret pe_bl)))
    (pss_one (ps_ret pe_bl))), ?_⟩
  cases hp : poAt d with
  | none =>
    refine o_call (E := WE _) eB (q_cons (p_var rfl h1) q_nil) ⟨qd, d, tq, hs, rfl, rfl⟩ ?_
    rw [hp]
    intro v1 B1 H1 g1 _
    dsimp only
    refine My.ps_ret g1.c (p_c (v := .bl true)) fun v5 B5 H5 g5 hv5 => q v5 B5 H5 (g1.trans g5) ?_
    rw [show poB d = true from by unfold poB; rw [hp]; rfl]
    exact hv5
  | some n =>
    refine o_call (E := WE _) eB (q_cons (p_var rfl h1) q_nil) ⟨qd, d, tq, hs, rfl, rfl⟩ ?_
    rw [hp]
    have fin : ∀ (B1 H1 : Hp), Gr B H B1 H1 → Q (.bl false) H1 := fun B1 H1 g1 => q _ B1 H1 g1 (by rw [show poB d = false from by unfold poB; rw [hp]; rfl]; rfl)
    cases n with
    | none => exact fun d2 B1 H1 g1 _ => ⟨true, x_BP, fun _ a _ => fin B1 H1 g1, fun z => nomatch z⟩
    | some n => exact fun d2 B1 H1 g1 _ => ⟨true, x_BP, fun _ a _ => fin B1 H1 g1, fun z => nomatch z⟩

end
end K12
namespace K12
set_option autoImplicit false
open PySem PySem.W L2 Evl My Nd
section
variable {P : Program} {w : World} {K : PySem.W.Frag} {mg : Str → Option Value} {base : Heap}





end
end K12
namespace K12
set_option autoImplicit false
open PySem PySem.W L2 Evl My Nd
section
variable {te ta tb : TE} {σ : L2.St} {B H : Hp} {ps : List Pr} {K : PySem.W.Frag} {t : TA}
theorem ev_isN0 {v : V} (h : Ev ta σ B v) : Ev (tOp (fun x y H Q => y = V.non ∧ Q (.bl (decide (x = V.non))) H) ta (tC .non)) σ B (.bl (decide (v = V.non))) := fun H1 a Q k =>
  h H1 a _ fun H2 e2 => ⟨rfl, k H2 e2⟩
end
section
variable {P : Program} {w : World} {K : PySem.W.Frag} {mg : Str → Option Value} {base : Heap}


end
end K12
namespace Nd
set_option autoImplicit false
open PySem PySem.W L2 My Evl
open scoped Rat
def rtP (K : PySem.W.Frag) (r : Rat) : Pr := frP K (fr r)
theorem lg {n k : Nat} (h : n < 2 ^ k) : n.log2 ≤ k := by
  by_cases e : n = 0
  · subst e
    rw [Nat.log2_zero]
    exact Nat.zero_le _
  · exact Nat.le_of_lt ((Nat.log2_lt e).mpr h)
section
variable {te ta tb : TE} {σ : L2.St} {B : Hp} {K : PySem.W.Frag} {r s : Rat}
theorem ev_top (h : EvP te σ B (rtP K r)) : Ev (tOp (rIxT K) te (tC (.int 0))) σ B (.int (fr r).1) := ev_p (p_ixT h p_c rfl)
theorem ev_bot (h : EvP te σ B (rtP K r)) : Ev (tOp (rIxT K) te (tC (.int 1))) σ B (.int (fr r).2) := ev_p (p_ixT h p_c rfl)
theorem ev_mulW {i j : Int} {k : Nat} (ha : Ev ta σ B (.int i)) (hb : Ev tb σ B (.int j)) (hi : i.natAbs.log2 ≤ k) (hj : j.natAbs.log2 ≤ k) (hk : k ≤ 100000 := by decide) : Ev (tOp (rI CMulW fun i j => .int (i * j)) ta tb) σ B (.int (i * j)) := ev_op ha hb (rv_I (by show _ + _ < _; omega))
theorem ev_divW {i j : Int} (ha : Ev ta σ B (.int i)) (hb : Ev tb σ B (.int j)) (h : 0 < j ∧ j.natAbs.log2 < 9000) : Ev (tOp (rI CDivW fun i j => .int (i / j)) ta tb) σ B (.int (i / j)) := ev_op ha hb (rv_I h)
theorem ev_addI {i j : Int} (ha : Ev ta σ B (.int i)) (hb : Ev tb σ B (.int j)) : Ev (tOp (rI0 fun i j => .int (i + j)) ta tb) σ B (.int (i + j)) := ev_op ha hb rv_I0
end
end Nd
namespace K12
set_option autoImplicit false
open PySem PySem.W L2 Evl My Nd
section
variable {P : Program} {w : World} {K : PySem.W.Frag} {mg : Str → Option Value} {base : Heap}



end
end K12
namespace Nd
set_option autoImplicit false
open PySem PySem.W L2 My Evl
section
variable {P : Program} {w : World} {K : PySem.W.Frag} {B H0 Bi B2 H H2 : Hp} {d : Addr} {zs : Pq} {σ : L2.St} {D : Ends} {te ta tb : TE} {i : Nat} {m : Mo} {r : Rat}
end
section
variable {κ β : Type} [DecidableEq κ] {P : Program} {w : World} {K : PySem.W.Frag} {ky : Ky K κ} {vp : β → Pr} {B H0 Bi H : Hp} {d : Addr} {zs : List (κ × β)} {σ : L2.St} {D : Ends} {te : TE} {tu tw : TS} {b : Bool}
end
section
variable {κ β : Type} [DecidableEq κ] {P : Program} {w : World} {K : PySem.W.Frag} {ky : Ky K κ} {vp : β → Pr} {B H0 Bi H : Hp} {d : Addr} {i : Nat} {v : V} {σ : L2.St} {ps : List Pr} {D : Ends} {g : TG} {tbd : TS}
/-- a loop over a tuple while a dict is under way -/
theorem ps_forD (Z : Nat → List (κ × β)) (S : Nat → L2.St → Prop)
    (A : DcAt P w ky vp B H0 d (Z 0) Bi H) (s0 : S 0 σ) (hi : σ[i]? = some (some v)) (h : (TuP K ps).P v Bi)
    (st : ∀ j p v' σ' B' H', ps[j]? = some p → Ex Bi B' → S j σ' → DcAt P w ky vp B H0 d (Z j) B' H' → p.P v' B' → ∀ N : L2.St → Hp → Prop, (∀ σ3 B3 H3, S (j + 1) σ3 → Ex B' B3 → DcAt P w ky vp B H0 d (Z (j + 1)) B3 H3 → N σ3 H3) →
      g v' σ' H' fun σ2 H2 => tbd { D with nx := N, ct := N, bk := D.nx } σ2 H2)
    (q : ∀ σ' B' H', Ex Bi B' → S ps.length σ' → DcAt P w ky vp B H0 d (Z ps.length) B' H' → D.nx σ' H') : tFor (iTup K (tVar i)) g tbd D σ H := by
  obtain ⟨l, xs, rfl, hx, al⟩ := h
  refine ⟨_, hi, l, rfl, ⟨xs, ex_t A.ex hx⟩, ?_⟩
  have w' := walk_tup (K := K) (a := l) (xs := xs)
  rw [al.len] at w'
  refine for_it w' (fun j σ' H' => S j σ' ∧ ∃ B', Ex Bi B' ∧ DcAt P w ky vp B H0 d (Z j) B' H') ⟨s0, Bi, Ex.refl Bi, A⟩ (fun j σ' H' _ pv => ?_) (fun j x σ' H' H2 _ pv y => ?_) fun σ' H' pv => ?_
  · obtain ⟨_, B', e', A'⟩ := pv
    exact ex_t (e'.trans A'.ex) hx
  · obtain ⟨hs, B', e', A'⟩ := pv
    obtain ⟨rfl, y2⟩ := y
    obtain ⟨p, hp, k2⟩ := al.get y2
    exact st j p x σ' B' _ hp e' hs A' (p.m e' k2) _ fun σ3 B3 H3 h1 h2 h3 => ⟨h1, B3, e'.trans h2, h3⟩
  · obtain ⟨hs, B', e', A'⟩ := pv
    exact q σ' B' H' e' hs A'
end
/-- (monomial, number) unpacked -/
theorem tup2 {K : PySem.W.Frag} {p q : Pr} {v : V} {B H : Hp} (h : (TuP K [p, q]).P v B) (e : Ex B H) : ∃ a x y, v = .ref a ∧ SqT K H a [x, y] ∧ p.P x B ∧ q.P y B := by
  obtain ⟨a, xs, rfl, hx, al⟩ := h
  obtain ⟨x, y, rfl, h1, h2⟩ := K12.all2 al
  exact ⟨a, x, y, rfl, ex_t e hx, h1, h2⟩
end Nd
namespace K12
set_option autoImplicit false
open PySem PySem.W L2 Evl My Nd
section
variable {P : Program} {w : World} {K : PySem.W.Frag} {mg : Str → Option Value} {base : Heap}



end
end K12
namespace Nd
set_option autoImplicit false
open PySem PySem.W L2 My Evl
theorem range_pick {α β : Type} (k : α → Bool) (f : α → β) (d : β) : ∀ l : List α, ((List.range l.length).filter fun i => (l[i]?.map k).getD false).map (fun i => (l[i]?.map f).getD d) = (l.filter k).map f
  | [] => rfl
  | x :: l => by
    have ih := range_pick k f d l
    rw [List.length_cons, List.range_succ_eq_map, List.filter_cons, List.filter_map, List.filter_cons]
    have e1 : ((fun i => ((x :: l)[i]?.map k).getD false) ∘ Nat.succ) = fun i => (l[i]?.map k).getD false := by
      funext i
      simp
    rw [e1]
    have e2 : List.map (fun i => ((x :: l)[i]?.map f).getD d) (List.map Nat.succ (List.filter (fun i => (l[i]?.map k).getD false) (List.range l.length))) = (l.filter k).map f := by
      rw [← ih, List.map_map]
      refine List.map_congr_left fun i _ => ?_
      simp
    cases hk : k x with
    | true => simp [hk, e2]
    | false => simp [hk, e2]
end Nd
namespace K12
set_option autoImplicit false
open PySem PySem.W L2 Evl My Nd
section
variable {P : Program} {w : World} {K : PySem.W.Frag} {mg : Str → Option Value} {base : Heap}



end
end K12
namespace Nd
set_option autoImplicit false
open PySem PySem.W L2 My Evl
/-! ### limits of products and derivatives -/
/-- the degree -/
def dg (m : Mo) : Nat := (m.map fun y => y.2.natAbs).sum
theorem dg_at {m : Mo} {y : Dv × Int} (h : y ∈ m) : y.2.natAbs ≤ dg m := by
  obtain ⟨a, b, rfl⟩ := List.append_of_mem h
  unfold dg
  rw [List.map_append, List.sum_append, List.map_cons, List.sum_cons]
  omega
/-! ### one factor less -/
/-! ### tuples cut and joined -/
section
variable {te ta tb : TE} {σ : L2.St} {B : Hp} {K : PySem.W.Frag} {ps qs : List Pr} {p : Pr}
theorem AllP.drop {H : Hp} : ∀ {ps : List Pr} {vs : List V} (n : Nat), AllP ps vs H → AllP (ps.drop n) (vs.drop n) H
  | _, _, 0, h => h
  | [], [], _ + 1, _ => trivial
  | _ :: _, _ :: _, n + 1, h => AllP.drop n h.2
theorem p_catU (ha : EvP ta σ B (TuP K ps)) (hb : EvP tb σ B (TuP K qs)) (hl : ps.length + qs.length ≤ 100000) : EvP (tOp (rCatA K) ta tb) σ B (TuP K (ps ++ qs)) := fun H1 e Q k =>
  ha H1 e _ fun v B2 H2 g x => hb H2 (g.b.trans g.c) _ fun w B3 H3 g3 x3 => by
    obtain ⟨p, xs, rfl, hp, hx⟩ := x
    obtain ⟨q, ys, rfl, hq, hy⟩ := x3
    have l1 := hx.len
    have l2 := hy.len
    have gj := g.join g3
    have hx' := hx.m (both_l (B := B2) (C := B3))
    have hy' := hy.m (both_r (g.c.trans g3.a) g3.c)
    refine ⟨p, q, xs, ys, rfl, rfl, ex_t (g.c.trans g3.a) hp, ex_t g3.c hq, sz_of (by omega), fun e0 => ?_, fun _ e0 => ?_, fun _ _ r hr => ?_⟩
    · subst e0
      have : ps = [] := List.length_eq_zero_iff.mp l1.symm
      subst this
      exact k _ _ _ gj ⟨q, ys, rfl, ex_t (both_r (g.c.trans g3.a) g3.c) hq, hy'⟩
    · subst e0
      have : qs = [] := List.length_eq_zero_iff.mp l2.symm
      subst this
      refine k _ _ _ gj ?_
      rw [List.append_nil]
      exact ⟨p, xs, rfl, ex_t both_l hp, hx'⟩
    · have en : Ex (both B2 B3) (upd (both B2 B3) r (.tup (xs ++ ys))) := Ex.new (fresh_back gj.c hr)
      exact k _ _ _ (gj.trans (Gr.new _ gj.c hr)) ⟨r, xs ++ ys, rfl, st_of upd_same, (hx'.m en).app (hy'.m en)⟩
theorem p_slTo {k : Nat} (h : EvP te σ B (TuP K ps)) (hk : Ev tb σ B (.int (k : Int))) : EvP (tSl (rSlA K) te tNoPart (tPart tb)) σ B (TuP K (ps.take k)) := fun H1 a Q q =>
  h H1 a _ fun v B2 H2 g x => hk H2 (g.b.trans g.c) _ fun H3 e3 => ⟨k, rfl, by
    obtain ⟨l, xs, rfl, hl, al⟩ := x
    refine ⟨l, xs, rfl, ex_t (g.c.trans e3) hl, fun e => ?_, fun _ r hr => ?_⟩
    · rw [HT.sIx_none, HT.sIx_nat] at e
      have := al.len
      refine q _ B2 H3 (g.trans (Gr.wide g.c e3)) ⟨l, xs, rfl, hl, ?_⟩
      rw [List.take_of_length_le (by omega)]
      exact al
    · rw [cutTo]
      exact q _ _ _ ((g.trans (Gr.wide g.c e3)).trans (Gr.new (.tup (xs.take k)) (g.c.trans e3) hr)) ⟨r, _, rfl, st_of upd_same, (AllP.take k al).m (Ex.new (fresh_back (g.c.trans e3) hr))⟩⟩
theorem cutFrom (xs : List V) (k : Nat) : cutV xs (some (k : Int)) none = xs.drop k := by
  unfold cutV
  rw [HT.sIx_none, HT.sIx_nat]
  by_cases h : k ≤ xs.length
  · rw [Nat.min_eq_left h, List.take_of_length_le (by rw [List.length_drop]; exact Nat.le_refl _)]
  · rw [Nat.min_eq_right (by omega), Nat.sub_self, List.take_zero, List.drop_of_length_le (by omega)]
theorem p_slFrom {k : Nat} (h : EvP te σ B (TuP K ps)) (hk : Ev tb σ B (.int (k : Int))) : EvP (tSl (rSlA K) te (tPart tb) tNoPart) σ B (TuP K (ps.drop k)) := fun H1 a Q q =>
  h H1 a _ fun v B2 H2 g x => hk H2 (g.b.trans g.c) _ fun H3 e3 => ⟨k, rfl, by
    obtain ⟨l, xs, rfl, hl, al⟩ := x
    refine ⟨l, xs, rfl, ex_t (g.c.trans e3) hl, fun e => ?_, fun _ r hr => ?_⟩
    · rw [HT.sIx_none, HT.sIx_nat] at e
      have := al.len
      refine q _ B2 H3 (g.trans (Gr.wide g.c e3)) ⟨l, xs, rfl, hl, ?_⟩
      rcases Nat.eq_zero_or_pos k with h0 | h0
      · rw [h0]
        exact al
      · have : xs.length = 0 := by omega
        rw [List.drop_of_length_le (by omega)]
        have e1 : ps = [] := List.length_eq_zero_iff.mp (by omega)
        rw [e1] at al
        exact al
    · rw [cutFrom]
      exact q _ _ _ ((g.trans (Gr.wide g.c e3)).trans (Gr.new (.tup (xs.drop k)) (g.c.trans e3) hr)) ⟨r, _, rfl, st_of upd_same, (AllP.drop k al).m (Ex.new (fresh_back (g.c.trans e3) hr))⟩⟩
end
end Nd
namespace K12
set_option autoImplicit false
open PySem PySem.W L2 Evl My Nd
section
variable {P : Program} {w : World} {K : PySem.W.Frag} {mg : Str → Option Value} {base : Heap}




end
end K12
namespace Nd
set_option autoImplicit false
open PySem PySem.W L2 My Evl
theorem Lim.pre {κ : Type} [DecidableEq κ] {D N : Nat} {p q : List (κ × Rat)} (h : Lim D N (p ++ q)) (i : Nat) : Lim D N (p ++ q.take i) := by
  have e : p ++ q = (p ++ q.take i) ++ q.drop i := by rw [List.append_assoc, List.take_append_drop]
  rw [e] at h
  exact h.l
end Nd
namespace K12
set_option autoImplicit false
open PySem PySem.W L2 Evl My Nd
section
variable {P : Program} {w : World} {K : PySem.W.Frag} {mg : Str → Option Value} {base : Heap}




end
end K12
namespace K12
set_option autoImplicit false
open PySem PySem.W L2 Evl My Nd
section
variable {P : Program} {w : World} {K : PySem.W.Frag} {mg : Str → Option Value} {base : Heap}


end
end K12
namespace Nd
set_option autoImplicit false
open PySem PySem.W L2 My Evl
/-! ### a list of dicts under way -/
def woS (S : List Addr) (H : Hp) : Hp := fun b => if b ∈ S then none else H b
theorem woS_ne {S : List Addr} {b : Addr} {H : Hp} (n : b ∉ S) : woS S H b = H b := if_neg n
theorem woS_some {S : List Addr} {b : Addr} {H : Hp} {o : HO} (h : woS S H b = some o) : b ∉ S ∧ H b = some o := by
  unfold woS at h
  split at h
  · cases h
  · rename_i n
    exact ⟨n, h⟩
theorem woS_ex {S : List Addr} {H : Hp} : Ex (woS S H) H := fun _ _ e => (woS_some e).2
theorem woS_none {B H : Hp} {S : List Addr} (e : Ex B (woS S H)) {b : Addr} (hb : b ∈ S) : B b = none := by
  cases q : B b with
  | none => rfl
  | some o => exact absurd hb (woS_some (e _ _ q)).1
theorem gr_sideS {B H B1 H1 B2 H2 : Hp} {S : List Addr} (g : Gr B H B1 (woS S H1)) (hD : ∀ d ∈ S, H1 d ≠ none) (k : Gr B1 H1 B2 H2) : Gr B H B2 (woS S H2) :=
  ⟨fun b o e => by
    obtain ⟨n, q⟩ := woS_some (g.a b o e)
    rw [woS_ne n]
    exact k.a b o q, g.b.trans k.b, fun b o e => by
    have n : b ∉ S := fun z => by
      have := k.d b (woS_none g.c z) (hD b z)
      rw [e] at this
      cases this
    rw [woS_ne n]
    exact k.c b o e, fun x hb hh => k.d x (g.d x hb hh) (has woS_ex (has g.a hh)), fun z => k.e (g.e z)⟩
section
variable {κ β : Type} [DecidableEq κ]
structure LdAt (P : Program) (w : World) {K : PySem.W.Frag} (ky : Ky K κ) (vp : β → Pr) (B H0 : Hp) (L : Addr) (n : Nat) (Z : Nat → List (κ × β)) (Bi H : Hp) : Prop where
  ex_ : ∃ ds : List Addr, Gr B H0 Bi (woS (L :: ds) H) ∧ H L = some (.lst (ds.map .ref)) ∧ (L :: ds).Nodup ∧ ds.length = n ∧ (∀ (k : Nat) (d : Addr), ds[k]? = some d → ∃ xs, H d = some (DN P w d xs) ∧ KG ky vp (Z k) xs Bi) ∧ ∀ d ∈ L :: ds, H0 d = none
variable {P : Program} {w : World} {K : PySem.W.Frag} {ky : Ky K κ} {vp : β → Pr} {B H0 Bi B2 H H2 : Hp} {L : Addr} {n : Nat} {Z Z' : Nat → List (κ × β)} {σ : L2.St} {D : Ends} {i : Nat} {ty tv tj : TE} {k : κ} {f : β} {j : Nat}
theorem LdAt.ex (A : LdAt P w ky vp B H0 L n Z Bi H) : Ex Bi H := by
  obtain ⟨ds, g, _⟩ := A.ex_
  exact g.c.trans woS_ex
theorem ld_on {ds : List Addr} (h1 : H L = some (.lst (ds.map .ref))) (h2 : ∀ (k : Nat) (d : Addr), ds[k]? = some d → ∃ xs, H d = some (DN P w d xs) ∧ KG ky vp (Z k) xs Bi) : ∀ d ∈ L :: ds, H d ≠ none := fun d hd => by
  rcases List.mem_cons.mp hd with rfl | hd
  · rw [h1]
    exact fun z => nomatch z
  · obtain ⟨k, hk⟩ := List.mem_iff_getElem?.mp hd
    obtain ⟨xs, h, _⟩ := h2 k d hk
    rw [h]
    exact fun z => nomatch z
theorem LdAt.step (A : LdAt P w ky vp B H0 L n Z Bi H) (q : Gr Bi H B2 H2) : LdAt P w ky vp B H0 L n Z B2 H2 := by
  obtain ⟨ds, g, h1, h2, h3, h4, h5⟩ := A.ex_
  exact ⟨ds, gr_sideS g (ld_on h1 h4) q, q.a _ _ h1, h2, h3, fun k d hk => by
    obtain ⟨xs, h, al⟩ := h4 k d hk
    exact ⟨xs, q.a _ _ h, al.m q.b⟩, h5⟩
theorem LdAt.lst (A : LdAt P w ky vp B H0 L n Z Bi H) : ∃ xs, H L = some (.lst xs) ∧ xs.length = n := by
  obtain ⟨ds, g, h1, h2, h3, _⟩ := A.ex_
  exact ⟨_, h1, by rw [List.length_map]; exact h3⟩
theorem LdAt.fin (A : LdAt P w ky vp B H0 L n Z Bi H) : ∃ B', Gr B H0 B' H ∧ (LsP ((List.range n).map fun k => DcP P w ky vp (Z k))).P (.ref L) B' := by
  obtain ⟨ds, g, h1, h2, h3, h4, h5⟩ := A.ex_
  have on := ld_on h1 h4
  have inS : ∀ x, x ∈ L :: ds → (fun x => if x ∈ L :: ds then H x else Bi x) x = H x := fun x hx => if_pos hx
  have up : Ex Bi (fun x => if x ∈ L :: ds then H x else Bi x) := fun b o e => by
    have n : b ∉ L :: ds := fun z => by
      rw [woS_none g.c z] at e
      cases e
    show (if b ∈ L :: ds then H b else Bi b) = some o
    rw [if_neg n]
    exact e
  refine ⟨fun x => if x ∈ L :: ds then H x else Bi x, ⟨g.a.trans woS_ex, g.b.trans up, fun b o e => ?_, fun x hb hh => ?_, fun z b qs q => ?_⟩, L, ds.map .ref, rfl, (inS L List.mem_cons_self).trans h1, ?_⟩
  · by_cases m : b ∈ L :: ds
    · exact (inS b m).symm.trans e
    · have e : (if b ∈ L :: ds then H b else Bi b) = some o := e
      rw [if_neg m] at e
      exact A.ex _ _ e
  · have m : x ∉ L :: ds := fun z => hh (h5 x z)
    show (if x ∈ L :: ds then H x else Bi x) = none
    rw [if_neg m]
    exact g.d x hb hh
  · by_cases m : b ∈ L :: ds
    · have q2 : H b = some (.tbl qs) := (inS b m).symm.trans q
      rcases List.mem_cons.mp m with rfl | m
      · rw [h1] at q2
        cases q2
      · obtain ⟨k, hk⟩ := List.mem_iff_getElem?.mp m
        obtain ⟨xs, h, _⟩ := h4 k b hk
        rw [h] at q2
        cases q2
    · have q : (if b ∈ L :: ds then H b else Bi b) = some (.tbl qs) := q
      rw [if_neg m] at q
      exact g.e z b qs q
  · refine AllP.ix (by rw [List.length_map, List.length_map, List.length_range, h3]) fun k p v hp hv => ?_
    rw [List.getElem?_map] at hp hv
    obtain ⟨d, hd, rfl⟩ := Option.map_eq_some_iff.mp hv
    obtain ⟨k', hk', rfl⟩ := Option.map_eq_some_iff.mp hp
    obtain ⟨_, e⟩ := List.getElem?_eq_some_iff.mp hk'
    rw [List.getElem_range] at e
    subst e
    obtain ⟨xs, x1, x2⟩ := h4 k d hd
    have dm : d ∈ L :: ds := List.mem_cons_of_mem _ (List.mem_of_getElem? hd)
    exact ⟨d, xs, Bi, rfl, (inS d dm).trans x1, woS_none g.c dm, up, x2⟩
end
/-! ### loops while something is under way -/
section
variable {K : PySem.W.Frag} {Bi H : Hp} {i : Nat} {v : V} {σ : L2.St} {ps : List Pr} {D : Ends} {g : TG} {tbd : TS}
end
end Nd
namespace Nd
set_option autoImplicit false
open PySem PySem.W L2 My Evl
/-! ### by powers of one derivative -/
theorem take_snoc {α : Type} {p : List α} {i : Nat} {t : α} (h : p[i]? = some t) : p.take (i + 1) = p.take i ++ [t] := by
  rw [List.take_add_one, h]
  rfl
/-! the walk over one monomial -/
end Nd
namespace K12
set_option autoImplicit false
open PySem PySem.W L2 Evl My Nd
section
variable {P : Program} {w : World} {K : PySem.W.Frag} {mg : Str → Option Value} {base : Heap}


end
end K12
namespace K12
set_option autoImplicit false
open PySem PySem.W L2 Evl My Nd
section
variable {P : Program} {w : World} {K : PySem.W.Frag} {mg : Str → Option Value} {base : Heap}


end
end K12
namespace Nd
set_option autoImplicit false
open PySem PySem.W L2 My Evl LamX NdefX PyProof.Rows
/-! ### the greatest by keys -/
section
variable {α : Type}
end
/-! ### leaders -/
structure IsLead (r : Rk) (us : List Dv) (u : Dv) : Prop where
  m : u ∈ us
  g : ∀ v ∈ us, v = u ∨ r.lt v u
/-! ### polynomials of a ranking, within limits -/
def Sz (b : Nat) (p : Pq) : Prop := ∃ D N, 0 < D ∧ D < 2 ^ b ∧ N < 2 ^ b ∧ Lim D N p
structure PG (r : Rk) (p : Pq) : Prop where
  c : PoC p
  of : ∀ t ∈ p, ∀ y ∈ t.1, y.1.Of r
  dg : ∀ t ∈ p, Nd.dg t.1 ≤ 10
  ln : p.length ≤ 100
  sz : Sz 1000 p
theorem mo_len {m : Mo} (h : MoC m) : m.length ≤ dg m := by
  have hp := h.p
  clear h
  induction m with
  | nil => exact Nat.le_refl _
  | cons y m ih =>
    have h1 := hp y List.mem_cons_self
    have h2 := ih fun x hx => hp x (List.mem_cons_of_mem _ hx)
    unfold dg at *
    rw [List.map_cons, List.sum_cons, List.length_cons]
    omega
theorem ups_of {α : Type} {R : α → α → Prop} {f : α → PyData} (hR : ∀ {a b}, R a b → dataLt (f a) (f b) = true) {l : List α} (h : l.Pairwise R) : Ups f l := fun i hi => hR (List.pairwise_iff_getElem.mp h i (i + 1) (by omega) hi (by omega))
theorem moOk_of {r : Rk} {m : Mo} (h : MoC m) (of : ∀ y ∈ m, y.1.Of r) : MoOk r m := ⟨fun x hx => ⟨of x hx, h.p x hx⟩, ups_of (R := fun a b => Od.lt a.1 b.1 = true) (fun h => h) h.c.up⟩
theorem PG.ok {r : Rk} {p : Pq} (h : PG r p) : PoOk r (toPo p) := by
  refine ⟨fun t ht => ?_, ?_⟩
  · obtain ⟨s, hs, rfl⟩ := List.mem_map.mp ht
    exact ⟨moOk_of (h.c.m s hs) (h.of s hs), ⟨fr_pos s.2, fr_low s.2⟩, fun e => h.c.c.nz s hs ((fr_num0 s.2).mp e)⟩
  · refine ups_of (R := fun a b => Od.lt a.1 b.1 = true) (fun h => h) ?_
    unfold toPo
    rw [List.pairwise_map]
    exact h.c.c.up
theorem dvs_to (p : Pq) : dvs (toPo p) = p.flatMap fun t => t.1.map (·.1) := by
  unfold dvs toPo
  rw [List.flatMap_map]
  rfl
theorem PG.dvs {r : Rk} {p : Pq} (h : PG r p) : (Nd.dvs (toPo p)).length ≤ 1000 := by
  have : ∀ l : Pq, (∀ t ∈ l, t.1.length ≤ 10) → (l.flatMap fun t => t.1.map (·.1)).length ≤ 10 * l.length := by
    intro l hl
    induction l with
    | nil => exact Nat.le_refl _
    | cons t l ih =>
      rw [List.flatMap_cons, List.length_append, List.length_map, List.length_cons]
      have := ih fun x hx => hl x (List.mem_cons_of_mem _ hx)
      have := hl t List.mem_cons_self
      omega
  rw [dvs_to]
  have h1 := this p fun t ht => Nat.le_trans (mo_len (h.c.m t ht)) (h.dg t ht)
  have := h.ln
  omega
end Nd
namespace K12
set_option autoImplicit false
open PySem PySem.W L2 Evl My Nd LamX NdefX
section
variable {P : Program} {w : World} {K : PySem.W.Frag} {mg : Str → Option Value} {base : Heap} {T : List (Addr × Str)}

end
end K12
namespace Nd
set_option autoImplicit false
open PySem PySem.W L2 My Evl LamX
end Nd
namespace K12
set_option autoImplicit false
open PySem PySem.W L2 Evl My Nd LamX NdefX
section
variable {P : Program} {w : World} {K : PySem.W.Frag} {mg : Str → Option Value} {base : Heap} {T : List (Addr × Str)}
end
end K12
namespace Nd
set_option autoImplicit false
open PySem PySem.Spec PySem.W PySem.Calls PyProof.Rows L2 My Evl LamX NdefX
/-! ### sorted(.., reverse=True) of a list by data -/
/-! ### keys of monomials -/
end Nd
namespace K12
set_option autoImplicit false
open PySem PySem.W L2 Evl My Nd LamX NdefX
section
variable {P : Program} {w : World} {K : PySem.W.Frag} {mg : Str → Option Value} {base : Heap} {T : List (Addr × Str)}





end
end K12
namespace Nd
set_option autoImplicit false
open PySem PySem.W L2 My Evl LamX NdefX
end Nd
namespace K12
set_option autoImplicit false
open PySem PySem.W L2 Evl My Nd LamX NdefX
section
variable {P : Program} {w : World} {K : PySem.W.Frag} {mg : Str → Option Value} {base : Heap} {T : List (Addr × Str)}




end
end K12
namespace K12
open PySem L2 My
/-- a draw's state at d -/
def DSt (H : Hp) (d : Addr) (n : Nat) : Prop := ∃ l c t : Int, H d = some (.dK [(.inr "left", .int l), (.inr "cell", .int c), (.inr "turns", .int t)]) ∧ 0 ≤ l ∧ 0 ≤ t ∧ t ≤ n
/-- all but d as it was -/
def SameBut (d : Addr) (H H' : Hp) : Prop := ∀ b o, b ≠ d → H b = some o → H' b = some o
def spMixed : Sp := fun vs H Q _ => ∃ c k : Int, vs = [.int c, .int k] ∧ 0 ≤ k ∧ k ≤ 2 ^ 40 ∧ ∀ (m : Int) (H' : Hp), 0 ≤ m → m < 2147483647 → Same H H' → Q (.int m) H'
def spDraw : Sp := fun vs H Q _ => ∃ c k : Int, vs = [.int c, .int k] ∧ 0 ≤ k ∧ k ≤ 1000 ∧ ∀ (d : Addr) (H' : Hp), H d = none → DSt H' d 1000000 → Same H H' → Q (.ref d) H'
def spDigit : Sp := fun vs H Q _ => ∃ (d : Addr) (z : Int) (n : Nat), vs = [.ref d, .int z] ∧ 0 < z ∧ z < 1073741824 ∧ DSt H d n ∧ n ≤ 2 ^ 39 ∧ ∀ (m : Int) (H' : Hp), 0 ≤ m → m < z → DSt H' d (n + 4) → SameBut d H H' → Q (.int m) H'

abbrev s_Lmixed : Stmt := topS 36
abbrev N_Lmixed : List Str := ["_law_cell", "_law_k", "_law_mixed_here"]
theorem sc_Lmixed : FnScope N_Lmixed ["_law_cell", "_law_k"] (defScope s_Lmixed) := ⟨rfl, rfl, rfl, by decide +kernel, rfl, by decide +kernel, by decide +kernel⟩
abbrev s_Ldraw : Stmt := topS 37
abbrev N_Ldraw : List Str := ["_law_cell", "_law_k"]
theorem sc_Ldraw : FnScope N_Ldraw ["_law_cell", "_law_k"] (defScope s_Ldraw) := ⟨rfl, rfl, rfl, by decide +kernel, rfl, by decide +kernel, by decide +kernel⟩
section
variable {P : Program} {w : World} {K : PySem.W.Frag} {mg : Str → Option Value} {base : Heap}
theorem ok_Lmixed {f : Addr} {fd : FuncData} (F : Fun K "_law_mixed" "_law_mixed" s_Lmixed f fd) : FnOk P w K mg base CX0 1 f fd ["_law_cell", "_law_k"] spMixed := by
  refine F.ok sc_Lmixed (fun vs H Q E h => ?_) (fun cdv A outer s H vs Q E hr h => ?_)
  · obtain ⟨c, k, rfl, _⟩ := h
    rfl
  · obtain ⟨c, k, rfl, hk0, hk, q⟩ := h
    refine ⟨_, (pss_cons (ps_set (i := 2) sc_Lmixed.nd rfl (by first | exact .inl rfl | exact .inr rfl) (pe_op op_add (pe_op op_add (pe_op op_mod (pv 0) (pe_ix ix_list (pe_lst (pa_cons pe_int (pa_cons pe_int (pa_cons pe_int (pa_cons pe_int pa_nil))))) (pe_op op_mod (pv 1) pe_int) (fun _ _ => rfl))) (pe_op op_mul pe_int (pv 1))) pe_int))
    (pss_one (ps_ret (pe_op op_mod (pe_op op_mul (pe_op op_mod (pe_op op_mul (pv 2) (pv 2)) pe_int) pe_int) pe_int)))), ?_⟩
    walk_at "go"
    refine ⟨My.small (by decide), fun p hp => ?_⟩
    walk_at "go"
    obtain ⟨v, hv, e⟩ := My.atIn [V.int 1000000007, V.int 998244353, V.int 2147483629, V.int 1000000009] (k % 4) (by omega) (by show k % 4 < 4; omega)
    obtain ⟨y, rfl, hy⟩ : ∃ y, v = V.int y ∧ 0 < y ∧ y < 2147483647 := by
      simp only [List.mem_cons, List.not_mem_nil, or_false] at hv
      rcases hv with rfl | rfl | rfl | rfl <;> exact ⟨_, rfl, by decide⟩

    refine ⟨p, _, _, _, rfl, rfl, My.lstNew, e, ?_⟩
    have h1 := Int.emod_nonneg c (b := y) (by omega)
    have h2 := Int.emod_lt_of_pos c (b := y) (by omega)
    refine ⟨_, _, rfl, rfl, hy.1, ?_⟩
    walk_at "go"
    exact q _ _ (Int.emod_nonneg _ (by decide)) (Int.emod_lt_of_pos _ (by decide)) (My.new hp)
theorem ok_Ldraw {f : Addr} {fd : FuncData} (F : Fun K "_law_draw" "_law_draw" s_Ldraw f fd) : FnOk P w K mg base CX0 1 f fd ["_law_cell", "_law_k"] spDraw := by
  refine F.ok sc_Ldraw (fun vs H Q E h => ?_) (fun cdv A outer s H vs Q E hr h => ?_)
  · obtain ⟨c, k, rfl, _⟩ := h
    rfl
  · obtain ⟨c, k, rfl, hk0, hk, q⟩ := h
    have hu := hu_of hr
    refine ⟨_, (pss_one (ps_ret (pe_disp (pps_cons pe_str (pe_ifExp (pt_cmpR op_ge (pv 0) (pe_op op_pow pe_int pe_int) (nomark _)) (pv 0) pe_int) (pps_cons pe_str (pv 0) (pps_cons pe_str (pe_op op_mul pe_int (pv 1)) pps_nil))) rfl rfl (by simp) (by decide)))), ?_⟩
    intro p hp
    walk_at "go"
    refine ite2 (fun h => ?_) (fun h => ?_)
    · walk_at "go"
      refine ⟨upd_same, [(.inr "left", .int c), (.inr "cell", .int c), (.inr "turns", .int (1000 * k))], rfl, (by show 3 ≤ 15; decide), ?_⟩
      refine q _ _ hp ⟨c, c, 1000 * k, ?_, ?_, by omega, by omega⟩ ?_
      · rw [upd_same]; rfl
      · have := of_decide_eq_true h
        simp at this
        omega
      · exact My.new2 hp
    · walk_at "go"
      refine ⟨upd_same, [(.inr "left", .int 0), (.inr "cell", .int c), (.inr "turns", .int (1000 * k))], rfl, (by show 3 ≤ 15; decide), ?_⟩
      refine q _ _ hp ⟨0, c, 1000 * k, ?_, by omega, by omega, by omega⟩ ?_
      · rw [upd_same]; rfl
      · exact My.new2 hp
theorem sb_trans {d : Addr} {H H1 H2 : Hp} (a : SameBut d H H1) (b : SameBut d H1 H2) : SameBut d H H2 := fun c o n e => b c o n (a c o n e)
theorem sb_same {d : Addr} {H H1 : Hp} (a : Same H H1) : SameBut d H H1 := fun c o _ e => a c o e
theorem sb_upd {d : Addr} {H : Hp} {o : HO} : SameBut d H (upd H d o) := fun c u n e => by rw [upd_ne n]; exact e
theorem dget_left {H : Hp} {d : Addr} {a b c : V} (h : H d = some (.dK [(.inr "left", a), (.inr "cell", b), (.inr "turns", c)])) : DGet H d (.str "left") (some a) := DGet.k (k := .inr "left") h
theorem dget_cell {H : Hp} {d : Addr} {a b c : V} (h : H d = some (.dK [(.inr "left", a), (.inr "cell", b), (.inr "turns", c)])) : DGet H d (.str "cell") (some b) := DGet.k (k := .inr "cell") h
theorem dget_turns {H : Hp} {d : Addr} {a b c : V} (h : H d = some (.dK [(.inr "left", a), (.inr "cell", b), (.inr "turns", c)])) : DGet H d (.str "turns") (some c) := DGet.k (k := .inr "turns") h
theorem dput_left {H : Hp} {d : Addr} {a b c v : V} (h : H d = some (.dK [(.inr "left", a), (.inr "cell", b), (.inr "turns", c)])) : DPut H d (.str "left") v (upd H d (.dK [(.inr "left", v), (.inr "cell", b), (.inr "turns", c)])) := DPut.k (k := .inr "left") h (by show 3 < sizeLine; decide)
theorem dput_turns {H : Hp} {d : Addr} {a b c v : V} (h : H d = some (.dK [(.inr "left", a), (.inr "cell", b), (.inr "turns", c)])) : DPut H d (.str "turns") v (upd H d (.dK [(.inr "left", a), (.inr "cell", b), (.inr "turns", v)])) := DPut.k (k := .inr "turns") h (by show 3 < sizeLine; decide)

abbrev s_Ldigit : Stmt := topS 38
abbrev N_Ldigit : List Str := ["_law_state", "_law_size", "_law_j", "_law_found"]
theorem sc_Ldigit : FnScope N_Ldigit ["_law_state", "_law_size"] (defScope s_Ldigit) := ⟨rfl, rfl, rfl, by decide +kernel, rfl, by decide +kernel, by decide +kernel⟩
theorem ok_Ldigit {f fM : Addr} {fd fdM : FuncData} (F : Fun K "_law_digit" "_law_digit" s_Ldigit f fd) (G : FnOk P w K mg base CX0 1 fM fdM ["_law_cell", "_law_k"] spMixed)
    (n_range : mg "range" = none) (m_Lmixed : mg "_law_mixed" = some (.ref fM)) (k_Lmixed : PySem.W.keepIn K (.ref fM) = true) (b_Lmixed : Binds K fdM ["_law_cell", "_law_k"] []) : FnOk P w K mg base CX0 2 f fd ["_law_state", "_law_size"] spDigit := by
  refine F.ok sc_Ldigit (fun vs H Q E h => ?_) (fun cdv A outer s H vs Q E hr h => ?_)
  · obtain ⟨d, z, n, rfl, _⟩ := h
    rfl
  · obtain ⟨d, z, n, rfl, hz, hz2, ⟨l, c, t, hd, hl, ht, htn⟩, hn, q⟩ := h
    have hu := hu_of hr
    refine ⟨_, (pss_cons (ps_if (pt_cmpR op_eq (pe_dget hu (pv 0) pe_str (fun _ _ => rfl)) pe_int (nomark _)) (pss_one (ps_for PassesOwn.never rfl (pi_range1 (by rfl) n_range (pa_cons pe_int pa_nil)) (pg_name (i := 2) sc_Ldigit.nd rfl (by first | exact .inl rfl | exact .inr rfl))
      (pss_cons (ps_dput hu (pv 0) pe_str (pe_op op_add (pe_dget hu (pv 0) pe_str (fun _ _ => rfl)) pe_int) rfl)
    (pss_one (ps_dput hu (pv 0) pe_str (pe_op op_add (pe_op op_mul (pe_dget hu (pv 0) pe_str (fun _ _ => rfl)) pe_int) (pe_call G (hr.mono (by decide)) (by rfl) m_Lmixed k_Lmixed b_Lmixed .nil pass0 (pa_cons (pe_dget hu (pv 0) pe_str (fun _ _ => rfl)) (pa_cons (pe_dget hu (pv 0) pe_str (fun _ _ => rfl)) pa_nil)))) rfl))))) pss_nil)
    (pss_cons (ps_set (i := 3) sc_Ldigit.nd rfl (by first | exact .inl rfl | exact .inr rfl) (pe_op op_mod (pe_dget hu (pv 0) pe_str (fun _ _ => rfl)) (pv 1)))
    (pss_cons (ps_dput hu (pv 0) pe_str (pe_op op_fdiv (pe_dget hu (pv 0) pe_str (fun _ _ => rfl)) (pv 1)) rfl)
    (pss_one (ps_ret (pv 3)))))), ?_⟩
    -- what follows the if, from any state
    have rest : ∀ (x : Option V) (l t : Int) (H1 : Hp), H1 d = some (.dK [(.inr "left", .int l), (.inr "cell", .int c), (.inr "turns", .int t)]) → 0 ≤ l → 0 ≤ t → t ≤ (n + 4 : Nat) → SameBut d H H1 →
      ∀ D : Ends, D.rt = Q → tSeq (tAsg (tOp (rI (fun _ j => 0 < j) fun i j => .int (i % j)) (tDGet (tVar 0) (tC (.str "left"))) (tVar 1)) (gName 3)) (tSeq (sDPut (tVar 0) (tC (.str "left")) (tOp (rI CDiv fun i j => .int (i / j)) (tDGet (tVar 0) (tC (.str "left"))) (tVar 1))) (tRet (tVar 3))) D [some (.ref d), some (.int z), x, none] H1 := by
      intro x l t H1 h1 hl ht htn sb D hD
      walk_at "go"
      refine ⟨_, _, rfl, dget_left h1, ?_⟩
      walk_at "go"
      refine ⟨_, _, rfl, dget_left h1, ?_⟩
      walk_at "go"
      refine ⟨_, _, rfl, dput_left h1, ?_⟩
      walk_at "go"
      show D.rt _ _
      rw [hD]
      exact q _ _ (Int.emod_nonneg _ (by omega)) (Int.emod_lt_of_pos _ hz) ⟨_, _, _, upd_same, Int.ediv_nonneg hl (by omega), ht, htn⟩ (sb_trans sb sb_upd)
    walk_at "go"
    refine ⟨_, _, rfl, dget_left hd, ?_⟩
    walk_at "go"
    refine ite2 (fun h => ?_) (fun h => ?_)
    · walk_at "go"
      refine ⟨by decide, by decide, for_range (lo := 0) (n := 4) (fun i σ H1 => ∃ (x : Option V) (l t : Int), σ = [some (.ref d), some (.int z), x, none] ∧ H1 d = some (.dK [(.inr "left", .int l), (.inr "cell", .int c), (.inr "turns", .int t)]) ∧ 0 ≤ l ∧ 0 ≤ t ∧ t ≤ (n + i : Nat) ∧ SameBut d H H1)
        ⟨none, l, t, rfl, hd, hl, ht, by omega, fun c o n e => e⟩ ?_ ?_⟩
      · rintro i σ H1 hi ⟨x, l1, t1, rfl, h1, hl1, ht1, ht2, sb⟩
        walk_at "go"
        refine ⟨_, _, rfl, dget_turns h1, ?_⟩
        walk_at "go"
        refine ⟨_, _, rfl, dput_turns h1, ?_⟩
        walk_at "go"
        refine ⟨_, _, rfl, dget_left upd_same, ?_⟩
        walk_at "go"
        refine ⟨_, _, rfl, dget_cell upd_same, ?_⟩
        walk_at "go"
        refine ⟨_, _, rfl, dget_turns upd_same, ?_⟩
        refine ⟨c, t1 + 1, rfl, by omega, by omega, fun m H2 hm0 hm1 S => ?_⟩
        walk_at "go"
        refine ⟨_, _, rfl, dput_left (S _ _ upd_same), ?_⟩
        refine ⟨_, _, _, rfl, upd_same, ?_, by omega, by omega, sb_trans sb (sb_trans sb_upd (sb_trans (sb_same S) sb_upd))⟩
        have := Int.mul_nonneg hl1 (by decide : (0 : Int) ≤ 2147483647)
        omega
      · rintro σ H1 ⟨x, l1, t1, rfl, h1, hl1, ht1, ht2, sb⟩
        exact rest x l1 t1 H1 h1 hl1 ht1 ht2 sb _ rfl
    · exact rest none l t H hd hl ht (by omega) (fun c o n e => e) _ rfl
end
end K12
namespace K12
open PySem L2 My
def one (c : Nat) : Str := ⟨#[c]⟩
theorem DSt.le {H : Hp} {d : Addr} {n m : Nat} (h : DSt H d n) (k : n ≤ m) : DSt H d m := by
  obtain ⟨l, c, t, a, b, e, f⟩ := h
  exact ⟨l, c, t, a, b, e, by omega⟩
theorem DSt.same {H H' : Hp} {d : Addr} {n : Nat} (h : DSt H d n) (k : Same H H') : DSt H' d n := by
  obtain ⟨l, c, t, a, b⟩ := h
  exact ⟨l, c, t, k _ _ a, b⟩
theorem DSt.ne {H : Hp} {d p : Addr} {n : Nat} (h : DSt H d n) (k : H p = none) : d ≠ p := by
  obtain ⟨l, c, t, a, b⟩ := h
  exact ne_of_none a k
theorem DSt.upd {H : Hp} {d p : Addr} {n : Nat} {o : HO} (h : DSt H d n) (k : d ≠ p) : DSt (upd H p o) d n := by
  obtain ⟨l, c, t, a, b⟩ := h
  exact ⟨l, c, t, by rw [upd_ne k]; exact a, b⟩
end K12

namespace K12
set_option autoImplicit false
open PySem PySem.W L2 Evl My LamX
/-- what a draw leaves: the state's dict at d changed, all else kept; B' known behind, without d -/
structure GrD (d : Addr) (B H B' H' : Hp) : Prop where
  s : SameBut d H H'
  b : Ex B B'
  c : Ex B' H'
  d : B' d = none
  n : NoTab B → NoTab B'
  f : ∀ x, B x = none → H x ≠ none → B' x = none
theorem GrD.refl {d : Addr} {B H : Hp} (e : Ex B H) (h : B d = none) : GrD d B H B H := ⟨fun _ _ _ e => e, Ex.refl B, e, h, id, fun _ h _ => h⟩
theorem GrD.trans {d : Addr} {B H B1 H1 B2 H2 : Hp} (g : GrD d B H B1 H1) (k : GrD d B1 H1 B2 H2) : GrD d B H B2 H2 := ⟨sb_trans g.s k.s, g.b.trans k.b, k.c, k.d, fun z => k.n (g.n z), fun x hb hh => if n : x = d then n ▸ k.d else k.f x (g.f x hb hh) (by cases e : H x with | none => exact absurd e hh | some o => rw [g.s x o n e]; exact fun z => nomatch z)⟩
theorem ex_sb {d : Addr} {B H H' : Hp} (e : Ex B H) (h : B d = none) (s : SameBut d H H') : Ex B H' := fun b o k => s b o (ne_of_none k h) (e b o k)
theorem GrD.same {d : Addr} {B H H' : Hp} (e : Ex B H) (h : B d = none) (s : SameBut d H H') : GrD d B H B H' := ⟨s, Ex.refl B, ex_sb e h s, h, id, fun _ h _ => h⟩
theorem GrD.gr {d : Addr} {B H B' H' : Hp} {n : Nat} (g : Gr B H B' H') (h : B d = none) (hd : DSt H d n) : GrD d B H B' H' := ⟨fun b o _ e => g.a b o e, g.b, g.c, g.d d h (by obtain ⟨l, c, t, e, _⟩ := hd; rw [e]; exact fun z => nomatch z), g.e, fun x hb hh => g.d x hb hh⟩
theorem DSt.ex {H H' : Hp} {d : Addr} {n : Nat} (h : DSt H d n) (e : Ex H H') : DSt H' d n := by
  obtain ⟨l, c, t, a, b⟩ := h
  exact ⟨l, c, t, e _ _ a, b⟩
section
variable {P : Program} {w : World} {K : PySem.W.Frag} {mg : Str → Option Value} {base : Heap}


end
end K12

namespace K12
set_option autoImplicit false
open PySem PySem.W L2 Evl My LamX
/-- names in a list -/
def NlP (ns : List Str) : Pr := ⟨fun v H => ∃ a, v = .ref a ∧ H a = some (.lst (ns.map V.str)), fun e ⟨a, h1, h2⟩ => ⟨a, h1, e _ _ h2⟩⟩
def spDer : Sp := fun vs H Q _ => ∃ (B : Hp) (d : Addr) (n hi : Nat) (r : Rk) (vn : V), vs = [.ref d, vn, .int (r.axs.length : Nat), .int (hi : Nat)] ∧ hi ≤ 20 ∧ r.Ok ∧ (NlP r.ns).P vn B ∧ Ex B H ∧ B d = none ∧ DSt H d n ∧ n ≤ 2 ^ 36 ∧
  ∀ (u : Dv) (B' H' : Hp) (v : V), u.Of r → u.i + u.j ≤ hi → GrD d B H B' H' → DSt H' d (n + 20) → (DvP u).P v B' → Q v H'
theorem ax_two (r : Rk) : (r.axs.length = 2) ↔ (Str.ofString "y") ∈ r.axs := by
  have : ∀ a : Fin 3, ((axsOf a).length = 2) ↔ (Str.ofString "y") ∈ axsOf a := by decide +kernel
  exact this r.ax
section
variable {P : Program} {w : World} {K : PySem.W.Frag} {mg : Str → Option Value} {base : Heap}

/-- _law_derivative -/
abbrev s_Lderivative : Stmt := topS 45
abbrev N_Lderivative : List Str := ["_law_state", "_law_names", "_law_axes", "_law_high", "_law_name", "_law_total", "_law_j"]
theorem sc_Lderivative : FnScope N_Lderivative ["_law_state", "_law_names", "_law_axes", "_law_high"] (defScope s_Lderivative) := ⟨rfl, rfl, rfl, by decide +kernel, rfl, by decide +kernel, by decide +kernel⟩
theorem ok_Lderivative {f : Addr} {fd : FuncData} (F : Fun K "_law_derivative" "_law_derivative" s_Lderivative f fd)  {f_Ldigit : Addr} {d_Ldigit : FuncData} (c_Ldigit : Cal P w K mg base "_law_digit" 2 ["_law_state", "_law_size"] spDigit f_Ldigit d_Ldigit) (n_len : mg "len" = none)  :
    FnOk P w K mg base CX0 3 f fd ["_law_state", "_law_names", "_law_axes", "_law_high"] spDer := by
  refine F.ok sc_Lderivative (fun vs H Q E h => by obtain ⟨B, d, n, hi, r, vn, rfl, _⟩ := h; rfl) (fun cdv A outer s H vs Q E hr h => ?_)
  obtain ⟨B, d, n, hi, r, vn, rfl, hhi, hok, hN, hE, hBd, hd, hn, q⟩ := h
  have hu := hu_of hr
  refine ⟨_, (pss_cons (ps_par (i := 4) (j := 5) rfl sc_Lderivative.nd rfl rfl (by decide) rfl rfl (pa_cons (pe_ix ix_list (pv 1) (pe_call c_Ldigit.G (hr.mono (by decide)) (by rfl) c_Ldigit.m c_Ldigit.k c_Ldigit.b .nil pass0 (pa_cons (pv 0) (pa_cons (pe_callB call_len_seq (by rfl) n_len (by decide +kernel) (pa_cons (pv 1) pa_nil)) pa_nil))) (fun _ _ => rfl)) (pa_cons (pe_call c_Ldigit.G (hr.mono (by decide)) (by rfl) c_Ldigit.m c_Ldigit.k c_Ldigit.b .nil pass0 (pa_cons (pv 0) (pa_cons (pe_op op_add (pv 3) pe_int) pa_nil))) pa_nil)) (by rfl))
    (pss_cons (ps_set (i := 6) sc_Lderivative.nd rfl (by first | exact .inl rfl | exact .inr rfl) (pe_ifExp (pt_cmpR op_eq (pv 2) pe_int (nomark _)) (pe_call c_Ldigit.G (hr.mono (by decide)) (by rfl) c_Ldigit.m c_Ldigit.k c_Ldigit.b .nil pass0 (pa_cons (pv 0) (pa_cons (pe_op op_add (pv 5) pe_int) pa_nil))) pe_int))
    (pss_one (ps_ret (pe_tup (pa_cons (pv 4) (pa_cons (pe_op op_sub (pv 5) (pv 6)) (pa_cons (pv 6) pa_nil)))))))), ?_⟩
  obtain ⟨a, rfl, ha⟩ := hN
  have hle := hok.le
  have hne := hok.ne
  have sq : ∀ {H' : Hp}, Ex B H' → SqL K H' a (r.ns.map V.str) := fun e => sq_of (e _ _ ha)
  refine ⟨.ref a, rfl, .ref d, rfl, .ref a, rfl, a, _, rfl, .inl (sq hE), d, _, n, rfl, by rw [List.length_map]; omega, by rw [List.length_map]; omega, hd, by omega, fun m H1 m0 m1 hd1 S1 => ?_⟩
  have e1 := ex_sb hE hBd S1
  rw [List.length_map] at m1
  obtain ⟨k, rfl⟩ : ∃ k : Nat, m = (k : Int) := ⟨m.toNat, by omega⟩
  have hk : k < r.ns.length := by omega
  refine ⟨a, _, _, _, rfl, rfl, sq e1, atI_nat (by rw [List.getElem?_map, List.getElem?_eq_getElem hk]; rfl), ?_⟩
  refine ⟨.ref d, rfl, .int (hi : Nat), rfl, _, _, rfl, rfl, d, _, n + 4, rfl, by omega, by omega, hd1, by omega, fun t H2 t0 t1 hd2 S2 => ?_⟩
  have e2 := ex_sb e1 hBd S2
  refine ⟨_, _, rfl, ?_⟩
  dsimp only
  have fin : ∀ (j : Int) (H3 : Hp), 0 ≤ j → j ≤ t → (j = 0 ∨ (Str.ofString "y") ∈ r.axs) → DSt H3 d (n + 12) → GrD d B H B H3 → tRet (tTup (tCons (tVar 4) (tCons (tOp (rI0 fun i j => .int (i - j)) (tVar 5) (tVar 6)) (tCons (tVar 6) tNil)))) { nx := fun _ H' => Q .non H', rt := Q } [some (.ref d), some (.ref a), some (.int (r.axs.length : Nat)), some (.int (hi : Nat)), some (.str r.ns[k]), some (.int t), some (.int j)] H3 := fun j H3 j0 j1 hy hd3 g3 => by
    refine My.ps_ret g3.c (p_dv (u := ⟨r.ns[k], t - j, j⟩) rfl rfl rfl (q_cons (p_varV rfl) (q_cons (p_ev (ev_op (ev_var rfl) (ev_var rfl) rv_I0)) (q_cons (p_varV rfl) q_nil)))) fun v B4 H4 g4 hv => ?_
    exact q _ _ _ v ⟨List.getElem_mem hk, by show 0 ≤ t - j; omega, j0, hy⟩ (by show t - j + j ≤ (hi : Int); omega) (g3.trans (GrD.gr g4 hBd hd3)) ((hd3.ex g4.a).le (by omega)) hv
  have g2 : GrD d B H B H2 := GrD.same hE hBd (sb_trans S1 S2)
  refine ⟨_, rfl, rfl, ?_⟩
  by_cases h2 : r.axs.length = 2
  · have : decide (V.int (r.axs.length : Nat) = V.int 2) = true := by rw [h2]; rfl
    rw [this]
    refine ⟨_, rfl, ?_⟩
    refine iteT ?_
    refine ⟨.ref d, rfl, .int t, rfl, _, _, rfl, rfl, d, t + 1, n + 8, rfl, by omega, by omega, hd2.le (by omega), by omega, fun j H3 j0 j1 hd3 S3 => ?_⟩
    exact fin j H3 j0 (by omega) (.inr ((ax_two r).mp h2)) (hd3.le (by omega)) (g2.trans (GrD.same e2 hBd S3))
  · have : decide (V.int (r.axs.length : Nat) = V.int 2) = false := by
      rw [decide_eq_false_iff_not]
      intro z
      injection z with z
      omega
    rw [this]
    refine ⟨_, rfl, ?_⟩
    refine iteF ?_
    exact fin 0 H2 (by omega) (by omega) (.inl rfl) (hd2.le (by omega)) g2

end
end K12

namespace K12
set_option autoImplicit false
open PySem PySem.W L2 Evl My LamX
section
variable {P : Program} {w : World} {K : PySem.W.Frag} {mg : Str → Option Value} {base : Heap}


end
end K12
namespace K12
set_option autoImplicit false
open PySem PySem.W L2 Evl My Nd LamX NdefX
theorem DSt.ne0 {H : Hp} {d : Addr} {n : Nat} (h : DSt H d n) : H d ≠ none := by
  obtain ⟨l, c, t, e, _⟩ := h
  rw [e]
  exact fun z => nomatch z
theorem tabs_lst {T : List (Addr × Str)} {p : Addr} {H : Hp} {xs : List V} {o : HO} (t : Tabs T H) (hp : H p = some (.lst xs)) : Tabs T (upd H p o) := by
  have at_ : ∀ {b : Addr} {u : HO}, H b = some u → (∀ ys, u ≠ .lst ys) → wo p H b = some u := fun {b u} h n => by
    rw [wo_ne fun z => by
      subst z
      rw [hp] at h
      exact n xs (Option.some.inj h).symm]
    exact h
  refine Tabs.ext (H := wo p H) (fun q hq => ?_) fun b u e => by
    obtain ⟨n, k⟩ := wo_some e
    rw [upd_ne n]
    exact k
  obtain ⟨ps, h1, h2, h3⟩ := t q hq
  refine ⟨ps, at_ h1 (fun _ z => nomatch z), h2, fun pos cv hc => ?_⟩
  obtain ⟨c, e1, e2⟩ := h3 pos cv hc
  exact ⟨c, e1, at_ e2 (fun _ z => nomatch z)⟩
section
variable {t u : TS} {D : Ends} {σ : L2.St} {H : Hp} {te ta tb : TE} {tx tr : TA} {g : TG} {Q : VK} {r : R2}
theorem b_seq (h : t { D with nx := u D } σ H) : tSeq t u D σ H := h
theorem b_asg (h : te σ H fun x H1 => g x σ H1 D.nx) : tAsg te g D σ H := h
theorem b_op (h : ta σ H fun x H1 => tb σ H1 fun y H2 => r x y H2 Q) : tOp r ta tb σ H Q := h
theorem b_ret (h : te σ H D.rt) : tRet te D σ H := h
theorem b_tup (h : tx σ H fun xs H1 => xs.length ≤ sizeLine ∧ ∀ p, H1 p = none → Q (.ref p) (upd H1 p (.tup xs))) : tTup tx σ H Q := h
theorem b_cons {Q : List V → Hp → Prop} (h : ta σ H fun x H1 => tr σ H1 fun xs H2 => Q (x :: xs) H2) : tCons ta tr σ H Q := h
end
/-- what is known in B of a heap H with tables T and the draws' state at d, of at most n turns -/
structure Kx (T : List (Addr × Str)) (d : Addr) (n : Nat) (B H : Hp) : Prop where
  e : Ex B H
  nt : NoTab B
  t : Tabs T H
  z : B d = none
  s : DSt H d n
/-- what stays: all but the tables and the state -/
structure GX (d : Addr) (B H B' H' : Hp) : Prop where
  a : ∀ b o, b ≠ d → H b = some o → (∀ ps, o ≠ .tbl ps) → H' b = some o
  b : Ex B B'
  f : ∀ x o, x ≠ d → B x = none → H x = some o → (∀ ps, o ≠ .tbl ps) → B' x = none
section
variable {T : List (Addr × Str)} {d : Addr} {n m : Nat} {B H B1 H1 B2 H2 : Hp}
theorem GX.refl : GX d B H B H := ⟨fun _ _ _ e _ => e, Ex.refl B, fun _ _ _ h _ _ => h⟩
theorem GX.trans (g : GX d B H B1 H1) (k : GX d B1 H1 B2 H2) : GX d B H B2 H2 := ⟨fun b o n e z => k.a b o n (g.a b o n e z) z, g.b.trans k.b, fun x o n hb hh z => k.f x o n (g.f x o n hb hh z) (g.a x o n hh z) z⟩
theorem GX.gr (g : Gr B H B1 H1) : GX d B H B1 H1 := ⟨fun b o _ e _ => g.a b o e, g.b, fun x o _ hb hh _ => g.d x hb (by rw [hh]; exact fun z => nomatch z)⟩
theorem GX.gt (g : GT T B H B1 H1) : GX d B H B1 H1 := ⟨fun b o _ e z => g.a b o e z, g.b, fun x o _ hb hh z => g.f x o hb hh z⟩
theorem GX.sb (S : SameBut d H H1) : GX d B H B H1 := ⟨fun b o n e _ => S b o n e, Ex.refl B, fun _ _ _ h _ _ => h⟩
theorem GX.ex (e : Ex H H1) : GX d B H B H1 := ⟨fun b o _ h _ => e b o h, Ex.refl B, fun _ _ _ h _ _ => h⟩
theorem Kx.gr (k : Kx T d n B H) (g : Gr B H B1 H1) : Kx T d n B1 H1 := ⟨g.c, g.e k.nt, k.t.ext g.a, g.d d k.z k.s.ne0, k.s.ex g.a⟩
theorem Kx.ex (k : Kx T d n B H) (e : Ex H H1) : Kx T d n B H1 := ⟨k.e.trans e, k.nt, k.t.ext e, k.z, k.s.ex e⟩
theorem Kx.gt (k : Kx T d n B H) (g : GT T B H B1 H1) : Kx T d n B1 H1 := by
  obtain ⟨l, c, t, a, b⟩ := k.s
  exact ⟨g.c, g.e k.nt, g.t k.t, g.f d _ k.z a (fun _ z => nomatch z), l, c, t, g.a _ _ a (fun _ z => nomatch z), b⟩
theorem Kx.sb (k : Kx T d n B H) (S : SameBut d H H1) (hd : DSt H1 d m) : Kx T d m B H1 := by
  obtain ⟨l, c, t, a, b⟩ := k.s
  exact ⟨fun b o e => S b o (ne_of_none e k.z) (k.e b o e), k.nt, tabs_but k.t a S, k.z, hd⟩
theorem Kx.le (k : Kx T d n B H) (h : n ≤ m) : Kx T d m B H := ⟨k.e, k.nt, k.t, k.z, k.s.le h⟩
theorem x_digit {i : Nat} {z : Int} {te : TE} {σ : L2.St} {Q : VK} (k : Kx T d n B H) (hi : σ[i]? = some (some (.ref d))) (he : Ev te σ B (.int z)) (z0 : 0 < z) (z1 : z < 1073741824) (hn : n ≤ 2 ^ 39)
    (q : ∀ (m : Int) H', 0 ≤ m → m < z → Kx T d (n + 4) B H' → GX d B H B H' → Q (.int m) H') : tCall spDigit [] E0 (tCons (tVar i) (tCons te tNil)) σ H Q :=
  ⟨.ref d, hi, he H k.e _ fun H2 e2 => ⟨d, z, n, rfl, z0, z1, (k.ex e2).s, hn, fun m H' m0 m1 hd S => q m H' m0 m1 ((k.ex e2).sb S hd) ((GX.ex e2).trans (GX.sb S))⟩⟩
end
/-- the digit's thing of a list -/
theorem pick {ps : List Pr} {xs : List V} {B : Hp} (h : AllP ps xs B) {m : Int} (m0 : 0 ≤ m) (m1 : m < ps.length) : ∃ (i : Nat) (p : Pr) (v : V), i < ps.length ∧ m = (i : Nat) ∧ ps[i]? = some p ∧ atI xs m = some v ∧ p.P v B := by
  obtain ⟨i, rfl⟩ : ∃ i : Nat, m = (i : Nat) := ⟨m.toNat, by omega⟩
  have hi : i < ps.length := by omega
  obtain ⟨v, hv, pv⟩ := h.at (i := i) (p := ps[i]) (List.getElem?_eq_getElem hi)
  exact ⟨i, ps[i], v, hi, rfl, List.getElem?_eq_getElem hi, atI_nat hv, pv⟩
section
variable {te tb : TE} {σ : L2.St} {B : Hp} {K : PySem.W.Frag} {r : Rk}
end

end K12
namespace Nd
set_option autoImplicit false
open PySem PySem.W L2 My Evl LamX NdefX
/-- a monomial of the law's, its tuple known as it stands -/
def moF (K : PySem.W.Frag) (m : Mo) : Pr := FuP (m.map (pwP K))
theorem mf_mo {K : PySem.W.Frag} {m : Mo} {v : V} {H : Hp} (h : (moF K m).P v H) : (moP K m).P v H := fu_tu h
def kyF (K : PySem.W.Frag) : Ky K Mo := ⟨moF K, moD, fun m v H h => to_mo m v H (mf_mo h), fun ⟨a, _, _, h, _⟩ => ⟨a, h⟩, keyish_mo, nkm_inj, deep_nkm⟩
theorem all_conv {α : Type} {f g : α → Pr} (hc : ∀ x v H, (f x).P v H → (g x).P v H) {H : Hp} : ∀ {l : List α} {xs : List V}, AllP (l.map f) xs H → AllP (l.map g) xs H
  | [], [], _ => trivial
  | _ :: _, _ :: _, h => ⟨hc _ _ _ h.1, all_conv hc h.2⟩
theorem tmF_tm {K : PySem.W.Frag} (t : Mo × Rat) (v : V) (H : Hp) (h : (TuP K [moF K t.1, rtP K t.2]).P v H) : (TuP K [moP K t.1, rtP K t.2]).P v H := by
  obtain ⟨l, xs, rfl, hl, al⟩ := h
  refine ⟨l, xs, rfl, hl, ?_⟩
  obtain ⟨a, b, rfl, h1, h2⟩ := K12.all2 al
  exact ⟨mf_mo h1, h2, trivial⟩
/-- a polynomial of the law's, its tuple known as it stands -/
def fpP (K : PySem.W.Frag) (p : Pq) : Pr := FuP (p.map fun t => TuP K [moF K t.1, rtP K t.2])
theorem fp_po {K : PySem.W.Frag} {p : Pq} {v : V} {H : Hp} (h : (fpP K p).P v H) : (poP K (toPo p)).P v H := by
  obtain ⟨l, xs, rfl, hl, al⟩ := fu_tu (K := K) h
  refine ⟨l, xs, rfl, hl, ?_⟩
  have e : (toPo p).map (tmP K) = p.map fun t => TuP K [moP K t.1, rtP K t.2] := by
    unfold toPo
    rw [List.map_map]
    rfl
  rw [e]
  exact all_conv tmF_tm al
def Rlow2 (K : PySem.W.Frag) : List Pr → Pr → Prop := fun ps z => ∃ n d : Int, d ≠ 0 ∧ d.natAbs < 2 ^ 4000 ∧ ps = [IsV (.int n), IsV (.int d)] ∧ z = rtP K (Rat.divInt n d)
section
variable {κ β : Type} [DecidableEq κ] {P : Program} {w : World} {K : PySem.W.Frag} {ky : Ky K κ} {vp : β → Pr} {σ : L2.St} {B : Hp} {zs : List (κ × β)} {i : Nat} {v : V} {k : κ} {f : β} {ty : TE}
/-- d[k], d as it is known -/
theorem p_getP (hi : σ[i]? = some (some v)) (hv : (DcP P w ky vp zs).P v B) (hk : EvP ty σ B (ky.kp k)) (hf : valG zs k = some f) : EvP (tDGetN P w K (tVar i) ty) σ B (vp f) := fun H a Q q => by
  obtain ⟨d, xs, B0, rfl, hd, n0, e0, al⟩ := hv
  refine ⟨.ref d, hi, hk H a _ fun y B2 H2 g py => ?_⟩
  obtain ⟨b, rfl⟩ := ky.rf py
  have al2 := al.m (e0.trans g.b)
  rcases al.look k with ⟨h1, _⟩ | ⟨f', u, h1, h2, h3⟩
  · rw [hf] at h1
    cases h1
  · rw [hf] at h1
    obtain rfl := Option.some.inj h1
    exact ⟨d, b, xs, _, u, rfl, rfl, g.a _ _ (a _ _ hd), al2.ok g.c, ky.at_ ((ky.kp k).m g.c py), h2, q u B2 H2 g ((vp f).m (e0.trans g.b) h3)⟩
/-- sorted(d), d as it is known -/
theorem p_sortP (hi : σ[i]? = some (some v)) (hv : (DcP P w ky vp zs).P v B) (hal : AllAlike (zs.map fun z => ky.kd z.1)) (hsk : Sortable (zs.map fun z => ky.kd z.1)) (hdep : ∀ z ∈ zs, (ky.kd z.1).depth ≤ 50) :
    EvP (tSortN P w K (tVar i)) σ B (LsP ((srtZ ky.kd (zs.map (·.1))).map ky.kp)) := fun H a Q q => by
  obtain ⟨d, xs, B0, rfl, hd, n0, e0, al⟩ := hv
  have km := al.m (e0.trans a)
  have lx := km.len
  have kb := al.m e0
  have akp : ∀ {C : Hp} {zs : List (κ × β)} {xs : List NV}, KG ky vp zs xs C → AllP ((zs.map (·.1)).map ky.kp) (xs.map fun x => V.ref x.2.1) C := by
    intro C zs
    induction zs with
    | nil =>
      intro xs h
      match xs, h with
      | [], _ => exact trivial
    | cons z zs ih =>
      intro xs h
      match xs, h with
      | x :: xs, h => exact ⟨h.1.2.1, ih h.2⟩
  have e1 : zs.map (fun z => ky.kd z.1) = (zs.map (·.1)).map ky.kd := by rw [List.map_map]; rfl
  refine ⟨.ref d, hi, d, xs, zs.map fun z => ky.kd z.1, rfl, a _ _ hd, by rw [List.length_map, lx], hal, hsk, fun e he => ?_, ?_, fun b hb => ?_⟩
  · obtain ⟨z, hz, rfl⟩ := List.mem_map.mp he
    exact hdep z hz
  · rw [e1]
    exact toAll_all (toAll_map _ ky.to) (akp km)
  · have h1 := byKey_Z ky.kp ky.kd (akp kb)
    rw [← e1] at h1
    exact q _ (upd B b (.lst (byKey (xs.map fun x => V.ref x.2.1) (zs.map fun z => ky.kd z.1)))) _ (Gr.new _ a hb) ⟨b, _, rfl, upd_same, h1.m (Ex.new (fresh_back a hb))⟩
end
end Nd
namespace K12
set_option autoImplicit false
open PySem PySem.W L2 Evl My Nd LamX NdefX
theorem int_abs (i : Int) : (if i < 0 then -i else i) = (i.natAbs : Int) := by split <;> omega
section
variable {P : Program} {w : World} {K : PySem.W.Frag} {mg : Str → Option Value} {base : Heap} {T : List (Addr × Str)}
theorem lowest_end {n : Int} {d : Nat} (hd : 0 < d) : fr (Rat.divInt n (d : Int)) = (n / (Nat.gcd d n.natAbs : Nat), (d : Int) / (Nat.gcd d n.natAbs : Nat)) := by
  have h := fr_lowest (n := n) (d := (d : Int)) (by omega)
  rw [h, Nat.gcd_comm]
  rfl

/-- _law_lowest -/
abbrev s_Llowest : Stmt := topS 39
abbrev N_Llowest : List Str := ["_law_top", "_law_bottom", "_law_one", "_law_other"]
theorem sc_Llowest : FnScope N_Llowest ["_law_top", "_law_bottom"] (defScope s_Llowest) := ⟨rfl, rfl, rfl, by decide +kernel, rfl, by decide +kernel, by decide +kernel⟩
theorem ok_Llowest {f : Addr} {fd : FuncData} (F : Fun K "_law_lowest" "_law_lowest" s_Llowest f fd)   (n_abs : mg "abs" = none)  :
    FnOk P w K mg base CX0 1 f fd ["_law_top", "_law_bottom"] (spP (Rlow2 K)) := by
  refine F.ok sc_Llowest (spP_len (by rintro _ _ ⟨_, _, _, _, rfl, rfl⟩; rfl)) (fun cdv A outer s H vs Q E hr h => ?_)
  obtain ⟨B, ps, p, eB, hv, ⟨n, d, hd, hs, rfl, rfl⟩, q⟩ := h
  obtain ⟨v0, v1, rfl, h0, h1⟩ := all2 hv
  have hu := hu_of hr
  refine ⟨_, (pss_cons (ps_asg (pe_ifExp (pt_cmpR op_lt (pv 1) pe_int (nomark _)) (pe_tup (pa_cons (pe_op op_sub pe_int (pv 0)) (pa_cons (pe_op op_sub pe_int (pv 1)) pa_nil))) (pe_tup (pa_cons (pv 0) (pa_cons (pv 1) pa_nil)))) (pg_tup (by rfl) (pgs_cons (pg_name (i := 0) sc_Llowest.nd rfl (by first | exact .inl rfl | exact .inr rfl)) (pgs_cons (pg_name (i := 1) sc_Llowest.nd rfl (by first | exact .inl rfl | exact .inr rfl)) pgs_nil))))
    (pss_cons (ps_par (i := 2) (j := 3) rfl sc_Llowest.nd rfl rfl (by decide) rfl rfl (pa_cons (pv 1) (pa_cons (pe_callB call_abs (by rfl) n_abs (by decide +kernel) (pa_cons (pv 0) pa_nil)) pa_nil)) (by rfl))
    (pss_cons (ps_while PassesOwn.never (pt_cmpR op_gt (pv 3) pe_int (nomark _))
      (pss_one (ps_par (i := 2) (j := 3) rfl sc_Llowest.nd rfl rfl (by decide) rfl rfl (pa_cons (pv 3) (pa_cons (pe_op op_mod (pv 2) (pv 3)) pa_nil)) (by rfl))))
    (pss_one (ps_ret (pe_tup (pa_cons (pe_op op_fdivW (pv 0) (pv 2)) (pa_cons (pe_op op_fdivW (pv 1) (pv 2)) pa_nil)))))))), ?_⟩
  obtain rfl : v0 = _ := h0
  obtain rfl : v1 = _ := h1
  -- a bottom above nought
  obtain ⟨n', d', hd', hs', e'⟩ : ∃ (n' : Int) (d' : Nat), 0 < d' ∧ d' < 2 ^ 4000 ∧ Rat.divInt n d = Rat.divInt n' (d' : Int) ∧ EvP (tIf (tTest (tOp (rI0 fun i j => .bl (decide (i < j))) (tVar 1) (tC (.int 0)))) (tTup (tCons (tOp (rI0 fun i j => .int (i - j)) (tC (.int 0)) (tVar 0)) (tCons (tOp (rI0 fun i j => .int (i - j)) (tC (.int 0)) (tVar 1)) tNil))) (tTup (tCons (tVar 0) (tCons (tVar 1) tNil)))) [some (.int n), some (.int d), none, none] B (TuP K [IsV (.int n'), IsV (.int (d' : Nat))]) := by
    have tst := et_test (σ := [some (.int n), some (.int d), none, none]) (H := B) (ev_op (r := rI0 fun i j => .bl (decide (i < j))) (ev_var (i := 1) rfl) (ev_c (v := .int 0)) rv_I0)
    by_cases c : d < 0
    · refine ⟨-n, (-d).toNat, by omega, by omega, ?_, ed_if tst (fun _ => p_tup (K := K) (q_cons (p_ev (ev_is (ev_op ev_c (ev_var rfl) rv_I0) (by congr 1; omega))) (q_cons (p_ev (ev_is (ev_op ev_c (ev_var rfl) rv_I0) (by congr 1; omega))) q_nil)) (by show 2 ≤ 100000; decide)) fun h => absurd c (of_decide_eq_false h)⟩
      rw [show ((-d).toNat : Int) = -d by omega, Rat.neg_divInt_neg]
    · refine ⟨n, d.toNat, by omega, by omega, ?_, ed_if tst (fun h => absurd (of_decide_eq_true h) c) fun _ => p_tup (K := K) (q_cons (p_varV rfl) (q_cons (p_ev (ev_is (ev_var rfl) (by congr 1; omega))) q_nil)) (by show 2 ≤ 100000; decide)⟩
      rw [show (d.toNat : Int) = d by omega]
  obtain ⟨e1, ev⟩ := e'
  refine ev H eB _ fun v B2 H2 g2 hv => ?_
  obtain ⟨a, y1, y2, rfl, hq, m1, m2⟩ := tup2 hv g2.c
  obtain rfl : y1 = _ := m1
  obtain rfl : y2 = _ := m2
  refine ⟨a, _, rfl, hq, rfl, _, _, rfl, _, _, rfl, rfl, ?_⟩
  dsimp only
  refine ⟨_, rfl, _, rfl, n', rfl, _, _, rfl, ?_⟩
  rw [int_abs]
  dsimp only
  refine ⟨fun m σ H3 => ∃ a b : Nat, m = b ∧ 0 < a ∧ σ = [some (.int n'), some (.int (d' : Nat)), some (.int (a : Nat)), some (.int (b : Nat))] ∧ Nat.gcd a b = Nat.gcd d' n'.natAbs ∧ Ex H2 H3, ⟨_, d', n'.natAbs, rfl, hd', rfl, rfl, Ex.refl H2⟩, fun m σ H3 hw => ?_⟩
  obtain ⟨a, b, rfl, ha, rfl, hg, e3⟩ := hw
  refine et_test (ev_op (r := rI0 fun i j => .bl (decide (j < i))) (ev_var (i := 3) (v := .int (m : Nat)) rfl) (ev_c (v := .int 0)) rv_I0) H3 (Ex.refl H3) _ fun H4 e4 => ?_
  by_cases c : m = 0
  · rw [if_neg (by simp [c])]
    have ea : a = Nat.gcd d' n'.natAbs := by
      rw [← hg, c, Nat.gcd_zero_right]
    have al : a < 2 ^ 4000 := by
      rw [ea]
      exact Nat.lt_of_le_of_lt (Nat.gcd_le_left _ hd') hs'
    have dv : 0 < (a : Int) ∧ ((a : Int)).natAbs.log2 < 9000 := ⟨by omega, by rw [Int.natAbs_natCast]; exact Nat.lt_of_le_of_lt (lg al) (by decide)⟩
    have g4 : Gr B H B2 H4 := g2.trans (Gr.wide g2.c (e3.trans e4))
    dsimp only
    refine My.ps_ret g4.c (p_tup (K := K) (ps := [IsV (.int (n' / (a : Int))), IsV (.int ((d' : Int) / (a : Int)))]) (q_cons (p_ev (ev_divW (ev_var rfl) (ev_var rfl) dv)) (q_cons (p_ev (ev_divW (ev_var rfl) (ev_var rfl) dv)) q_nil)) (by show 2 ≤ 100000; decide)) fun v B5 H5 g5 hp => q v B5 H5 (g4.trans g5) ?_
    show (frP K (fr (Rat.divInt n d))).P v B5
    rw [e1, lowest_end hd', ← ea]
    exact hp
  · rw [if_pos (by simp; omega)]
    refine ⟨fun σ H' => σ = [some (.int n'), some (.int (d' : Nat)), some (.int (m : Nat)), some (.int ((a % m : Nat) : Int))] ∧ Ex H2 H', fun σ H' h => ⟨a % m, Nat.mod_lt _ (by omega), m, a % m, rfl, by omega, h.1, by rw [← hg, Nat.gcd_comm a m]; exact (Nat.gcd_rec m a ▸ Nat.gcd_comm _ _), h.2⟩, ?_⟩
    refine ⟨_, rfl, _, rfl, _, rfl, ⟨(a : Int), (m : Int), rfl, rfl, by omega, _, _, rfl, ?_⟩⟩
    exact ⟨rfl, e3.trans e4⟩

end
end K12
namespace Nd
set_option autoImplicit false
open PySem PySem.W L2 My Evl LamX NdefX
section
variable {κ β : Type} [DecidableEq κ] [Od κ] [Lean.Grind.CommRing β] [DecidableEq β]
theorem keys_cf {kd : κ → PyData} (hlt : ∀ a b, dataLt (kd a) (kd b) = Od.lt a b) {zs : List (κ × β)} (nd : (zs.map (·.1)).Nodup) : ((srtZ kd (zs.map (·.1))).filter fun k => decide (co zs k ≠ 0)).map (fun k => (k, co zs k)) = cf zs := by
  have pm := srtZ_perm kd (zs.map (·.1))
  have pw := List.pairwise_mergeSort (leZ_tr kd) (leZ_tot kd) (zs.map (·.1))
  have nd2 : (srtZ kd (zs.map (·.1))).Nodup := pm.nodup_iff.mpr nd
  have up : (srtZ kd (zs.map (·.1))).Pairwise fun a b => Od.lt a b = true := List.Pairwise.imp₂ (S := fun a b => a ≠ b) (fun a b h n => by
    have h : (!dataLt (kd b) (kd a)) = true := h
    rw [hlt] at h
    rcases Od.tri n with c | c
    · exact c
    · rw [c] at h
      cases h) pw nd2
  have upf := up.sublist (List.filter_sublist (p := fun k => decide (co zs k ≠ 0)))
  have cn : Cn (((srtZ kd (zs.map (·.1))).filter fun k => decide (co zs k ≠ 0)).map fun k => (k, co zs k)) := ⟨List.pairwise_map.mpr upf, fun z hz => by
    obtain ⟨k, hk, rfl⟩ := List.mem_map.mp hz
    exact of_decide_eq_true (List.mem_filter.mp hk).2⟩
  refine cf_eq cn fun k => ?_
  by_cases hk : k ∈ (srtZ kd (zs.map (·.1))).filter fun k => decide (co zs k ≠ 0)
  · exact co_one cn.nd (z := (k, co zs k)) (List.mem_map.mpr ⟨k, hk, rfl⟩)
  · rw [co_none (k := k) (fun z hz e => by
      obtain ⟨j, hj, rfl⟩ := List.mem_map.mp hz
      exact hk (e ▸ hj))]
    by_cases hm : k ∈ zs.map (·.1)
    · by_cases h0 : co zs k = 0
      · exact h0.symm
      · exact absurd (List.mem_filter.mpr ⟨pm.mem_iff.mpr hm, _root_.decide_eq_true h0⟩) hk
    · exact (co_none fun z hz e => hm (List.mem_map.mpr ⟨z, hz, e⟩)).symm
end
section
variable {κ β : Type} [DecidableEq κ] {P : Program} {w : World} {K : PySem.W.Frag} {ky : Ky K κ} {vp : β → Pr} {B H0 Bi H : Hp} {d : Addr} {i : Nat} {v : V} {σ : L2.St} {ps : List Pr} {D : Ends} {g : TG} {tbd : TS}
/-- a loop over a list while a dict is under way -/
theorem ps_forDL (Z : Nat → List (κ × β)) (S : Nat → L2.St → Prop)
    (A : DcAt P w ky vp B H0 d (Z 0) Bi H) (s0 : S 0 σ) (hi : σ[i]? = some (some v)) (h : (LqP K ps).P v Bi)
    (st : ∀ j p v' σ' B' H', ps[j]? = some p → Ex Bi B' → S j σ' → DcAt P w ky vp B H0 d (Z j) B' H' → p.P v' B' → ∀ N : L2.St → Hp → Prop, (∀ σ3 B3 H3, S (j + 1) σ3 → Ex B' B3 → DcAt P w ky vp B H0 d (Z (j + 1)) B3 H3 → N σ3 H3) →
      g v' σ' H' fun σ2 H2 => tbd { D with nx := N, ct := N, bk := D.nx } σ2 H2)
    (q : ∀ σ' B' H', Ex Bi B' → S ps.length σ' → DcAt P w ky vp B H0 d (Z ps.length) B' H' → D.nx σ' H') : tFor (iList K (tVar i)) g tbd D σ H := by
  obtain ⟨l, xs, rfl, hx, al⟩ := h
  refine ⟨_, hi, l, rfl, ⟨xs, ex_l A.ex hx⟩, ?_⟩
  have w' := walk_list (K := K) (a := l) (xs := xs)
  rw [al.len] at w'
  refine for_it w' (fun j σ' H' => S j σ' ∧ ∃ B', Ex Bi B' ∧ DcAt P w ky vp B H0 d (Z j) B' H') ⟨s0, Bi, Ex.refl Bi, A⟩ (fun j σ' H' _ pv => ?_) (fun j x σ' H' H2 _ pv y => ?_) fun σ' H' pv => ?_
  · obtain ⟨_, B', e', A'⟩ := pv
    exact ex_l (e'.trans A'.ex) hx
  · obtain ⟨hs, B', e', A'⟩ := pv
    obtain ⟨rfl, y2⟩ := y
    obtain ⟨p, hp, k2⟩ := al.get y2
    exact st j p x σ' B' _ hp e' hs A' (p.m e' k2) _ fun σ3 B3 H3 h1 h2 h3 => ⟨h1, B3, e'.trans h2, h3⟩
  · obtain ⟨hs, B', e', A'⟩ := pv
    exact q σ' B' H' e' hs A'
end
theorem hu9 {k : Nat} {A : Around} (hr : Room k A) : A.units + 9 < cLine := by
  have h := hr.un
  omega
theorem hu10 {k : Nat} {A : Around} (hr : Room k A) : A.units + 10 < cLine := by
  have h := hr.un
  omega
def Sm1 (r : Rat) : Prop := r.num.natAbs < 2 ^ 1000 ∧ r.den < 2 ^ 1000
def pqL (K : PySem.W.Frag) (q : Pq) : List Pr := q.map fun t => TuP K [moF K t.1, rtP K t.2]
def Rlm (K : PySem.W.Frag) : List Pr → Pr → Prop := fun ps z => ∃ l : Mo, (∀ u, 0 ≤ co l u) ∧ l.length ≤ 10000 ∧ ps = [moP K l] ∧ z = moF K (cf l)
def Radd0 (K : PySem.W.Frag) (f : List Pr → Pr) : List Pr → Pr → Prop := fun ps z => ∃ (D N : Nat) (p q : Pq) (c : Rat), 0 < D ∧ D < 2 ^ 1000 ∧ N < 2 ^ 1000 ∧ Lim D N (p ++ scP q c) ∧ (∀ t ∈ q, Sm1 t.2) ∧ Sm1 c ∧ (p.map (·.1)).Nodup ∧ p.length + q.length ≤ 50000 ∧
  ps = [fpP K p, f (pqL K q), rtP K c] ∧ z = fpP K (addP p (scP q c))
def Radd (K : PySem.W.Frag) : List Pr → Pr → Prop := Radd0 K (LqP K)
theorem sm1_lg {r : Rat} (h : Sm1 r) : (fr r).1.natAbs < 2 ^ 1000 ∧ (fr r).2.natAbs < 2 ^ 1000 := h
theorem mul_lg {a b : Int} {m n : Nat} (h : a.natAbs < 2 ^ m) (k : b.natAbs < 2 ^ n) : (a * b).natAbs < 2 ^ (m + n) := by
  rw [Int.natAbs_mul, Nat.pow_add]
  exact Nat.mul_lt_mul'' h k
theorem add_val (r s c : Rat) : Rat.divInt ((fr r).1 * ((fr s).2 * (fr c).2) + (fr s).1 * (fr c).1 * (fr r).2) ((fr r).2 * ((fr s).2 * (fr c).2)) = r + s * c := by
  have pr := fr_pos r
  have ps := fr_pos s
  have pc := fr_pos c
  have h1 : (fr s).2 * (fr c).2 ≠ 0 := Int.mul_ne_zero (by omega) (by omega)
  rw [← Rat.divInt_add_divInt _ _ (by omega) h1, ← Rat.divInt_mul_divInt, fr_val, fr_val, fr_val]
theorem pq_at {K : PySem.W.Frag} {q : Pq} {j : Nat} {p : Pr} (h : (pqL K q)[j]? = some p) : ∃ t, q[j]? = some t ∧ p = TuP K [moF K t.1, rtP K t.2] := by
  unfold pqL at h
  rw [List.getElem?_map] at h
  obtain ⟨t, ht, rfl⟩ := Option.map_eq_some_iff.mp h
  exact ⟨t, ht, rfl⟩
theorem sc_take (q : Pq) (c : Rat) {j : Nat} {t : Mo × Rat} (h : q[j]? = some t) : (scP q c).take (j + 1) = (scP q c).take j ++ [(t.1, t.2 * c)] := by
  have : (scP q c)[j]? = some (t.1, t.2 * c) := by
    unfold scP
    rw [List.getElem?_map, h]
    rfl
  exact take_snoc this
end Nd
namespace K12
set_option autoImplicit false
open PySem PySem.W L2 Evl My Nd LamX NdefX
section
variable {P : Program} {w : World} {K : PySem.W.Frag} {mg : Str → Option Value} {base : Heap} {T : List (Addr × Str)}

/-- _law_monomial -/
abbrev s_Lmonomial : Stmt := topS 41
abbrev N_Lmonomial : List Str := ["_law_pairs", "_law_rises", "_law_derivative_here", "_law_rise"]
theorem sc_Lmonomial : FnScope N_Lmonomial ["_law_pairs"] (defScope s_Lmonomial) := ⟨rfl, rfl, rfl, by decide +kernel, rfl, by decide +kernel, by decide +kernel⟩
theorem ok_Lmonomial {f : Addr} {fd : FuncData} (F : Fun K "_law_monomial" "_law_monomial" s_Lmonomial f fd)   (n_tuple : mg "tuple" = none) (n_sorted : mg "sorted" = none)  :
    FnOk P w K mg base CX0 1 f fd ["_law_pairs"] (spP (Rlm K)) := by
  refine F.ok sc_Lmonomial (spP_len (by rintro _ _ ⟨_, _, _, rfl, rfl⟩; rfl)) (fun cdv A outer s H vs Q E hr h => ?_)
  obtain ⟨B, ps, z, eB, hv, ⟨l, hco, hn, rfl, rfl⟩, q⟩ := h
  obtain ⟨v0, rfl, h0⟩ := all1 hv
  have hu := hu_of hr
  refine ⟨_, (pss_cons (ps_set (i := 1) sc_Lmonomial.nd rfl (by first | exact .inl rfl | exact .inr rfl) pe_dnewN)
    (pss_cons (ps_for PassesOwn.never rfl (pi_tup (pv 0)) (pg_tup (by rfl) (pgs_cons (pg_name (i := 2) sc_Lmonomial.nd rfl (by first | exact .inl rfl | exact .inr rfl)) (pgs_cons (pg_name (i := 3) sc_Lmonomial.nd rfl (by first | exact .inl rfl | exact .inr rfl)) pgs_nil)))
      (pss_one (ps_dputN (by have h := hr.un; show (A.deeper _).units + 9 < cLine; omega) (pv 1) (pv 2) (pe_op op_add (pe_dget2N (by have h := hr.un; show (A.deeper _).units + 9 < cLine; omega) (pv 1) (pv 2) pe_int (by exact ⟨rfl, rfl, rfl, rfl⟩)) (pv 3)) rfl)))
    (pss_one (ps_ret (pe_callTy call_tupleF (by rfl) n_tuple (by decide +kernel) (pa_cons (pe_lc (tt := tTest (tOp (rI0 fun i j => .bl (decide (j < i))) (tDGetN P w K (tVar 1) (tVar 2)) (tC (.int 0)))) (te := tTup (tCons (tVar 2) (tCons (tDGetN P w K (tVar 1) (tVar 2)) tNil))) (own := [("_law_derivative_here", 2)]) rfl sc_Lmonomial.nd (pi_list (pe_sortN hr (by rfl) n_sorted (pv 1))) (blkOk_by (N := N_Lmonomial) (sc := defScope s_Lmonomial) (by decide +kernel)) (fun _ _ _ _ _ => (pg_name (i := 2) sc_Lmonomial.nd rfl (Or.inl rfl))) (fun _ _ _ _ _ => (pts_one (pt_cmpR op_gt (pe_dgetN (hu9 hr) (pv 1) (pv 2) (fun _ _ => rfl)) pe_int (nomark _)))) (fun _ _ _ _ _ => (pe_tup (pa_cons (pv 2) (pa_cons (pe_dgetN (hu9 hr) (pv 1) (pv 2) (fun _ _ => rfl)) pa_nil))))) pa_nil)))))), ?_⟩
  have nn : (([] : Mo).map (·.1)).Nodup := List.nodup_nil
  refine dc_nul (ky := kyD K) (vp := fun i => IsV (.int i)) eB fun d H2 hd A2 => ?_
  dsimp only
  refine ps_forD (fun j => addAll [] (l.take j)) (fun j σ => ∃ x y, σ = [some v0, some (.ref d), x, y]) A2 ⟨_, _, rfl⟩ rfl h0 (fun j p v' σ' B' H' hj e' hs A' pv N hN => ?_) fun σ' B' H' e' hs A' => ?_
  · obtain ⟨x, y, rfl⟩ := hs
    rw [List.getElem?_map] at hj
    obtain ⟨t, ht, rfl⟩ := Option.map_eq_some_iff.mp hj
    obtain ⟨a, y1, y2, rfl, hq, m1, m2⟩ := tup2 pv A'.ex
    refine ⟨a, _, rfl, hq, rfl, _, _, rfl, _, _, rfl, rfl, ?_⟩
    have len := addAll_len (l := l.take j) (zs := ([] : Mo))
    rw [List.length_take, List.length_nil] at len
    obtain rfl : y2 = .int t.2 := m2
    refine ps_put (f := co (addAll [] (l.take j)) t.1 + t.2) rfl A' (a_op (x := .int (co (addAll [] (l.take j)) t.1)) (y := .int t.2) ?_ (a_ev (p_var rfl rfl)) (fun H Q q => ⟨_, _, rfl, rfl, q⟩)) (p_var rfl m1) (by omega) fun B4 H4 e4 A4 => ?_
    · have := a_get2 (ky := kyD K) (vp := fun i => IsV (.int i)) (f0 := 0) (k := t.1) (ty := tVar 2) (tx := tC (.int 0)) (σ := [some v0, some (.ref d), some y1, some (.int t.2)]) (P := P) (w := w) (B := B) (H0 := H) (d := d) (zs := addAll [] (l.take j)) (Bi := B') (i := 1) rfl (p_var rfl m1) p_c
      rw [val_co (addAll_nd nn)] at this
      exact this
    · refine hN _ B4 H4 ⟨_, _, rfl⟩ e4 ?_
      show DcAt P w (kyD K) (fun i => IsV (.int i)) B H d (addAll [] (l.take (j + 1))) B4 H4
      rw [take_snoc ht, addAll_app]
      exact A4
  · obtain ⟨x, y, rfl⟩ := hs
    have A' : DcAt P w (kyD K) (fun i => IsV (.int i)) B H d (addAll [] (l.take ((l.map (pwP K)).length))) B' H' := A'
    rw [List.length_map, List.take_length] at A'
    obtain ⟨B5, g5, hP⟩ := A'.fin hd
    have nd := addAll_nd (l := l) nn
    have cok : ∀ k, co (addAll [] l) k = co l k := fun k => by rw [addAll_co nn, List.nil_append]
    have len := addAll_len (l := l) (zs := ([] : Mo))
    rw [List.length_nil] at len
    -- sorted, noughts left out
    have main := p_lc (K := K) (g := gName 2) (tt := tTest (tOp (rI0 fun i j => .bl (decide (j < i))) (tDGetN P w K (tVar 1) (tVar 2)) (tC (.int 0)))) (te := tTup (tCons (tVar 2) (tCons (tDGetN P w K (tVar 1) (tVar 2)) tNil))) (vs := [2]) (σ := [some v0, some (.ref d), x, y]) (B := B5)
      (p_lq (p_sortP (P := P) (w := w) (ky := kyD K) (vp := fun i => IsV (.int i)) (zs := addAll [] l) (i := 1) rfl hP (AllAlike.of (enc := fun z : Dv × Int => z.1.D) (bs := addAll [] l) fun u v => alike_dv u.1 v.1) (Sortable.tuples (fun u => ⟨_, _, rfl⟩)) (fun z _ => by have := deep_dv z.1; show z.1.D.depth ≤ 50; omega)))
      (by rw [List.length_map]; unfold srtZ; rw [List.length_mergeSort, List.length_map]; omega)
      (fun i => ((srtZ (kyD K).kd ((addAll [] l).map (·.1)))[i]?.map fun k => decide (co (addAll [] l) k ≠ 0)).getD false) (fun i => ((srtZ (kyD K).kd ((addAll [] l).map (·.1)))[i]?.map fun k => pwP K (k, co (addAll [] l) k)).getD (IsV .non)) fun i p v B1 hi e pv => ?_
    · rw [List.length_map, range_pick] at main
      have e9 : ((srtZ (kyD K).kd ((addAll [] l).map (·.1))).filter fun k => decide (co (addAll [] l) k ≠ 0)).map (fun k => pwP K (k, co (addAll [] l) k)) = (cf l).map (pwP K) := by
        have h1 := keys_cf (kd := (kyD K).kd) (fun a b => rfl) nd
        have h2 : cf (addAll [] l) = cf l := cf_ext cok
        rw [← h2, ← h1, List.map_map]
        rfl
      rw [e9] at main
      exact My.ps_ret g5.c (p_tupOfF (p_lq main)) fun v B6 H6 g6 hp => q v B6 H6 (g5.trans g6) hp
    · rw [List.getElem?_map] at hi
      obtain ⟨k, hk, rfl⟩ := Option.map_eq_some_iff.mp hi
      have km : k ∈ (addAll [] l).map (·.1) := (srtZ_perm _ _).mem_iff.mp (List.mem_of_getElem? hk)
      have hval : valG (addAll [] l) k = some (co (addAll [] l) k) := by
        have h1 := val_co nd k
        cases hv : valG (addAll [] l) k with
        | none =>
          have := val_no.mp hv
          rw [hasG_mem.mpr km] at this
          cases this
        | some f =>
          rw [hv] at h1
          rw [← h1]
          rfl
      have get : EvP (tDGetN P w K (tVar 1) (tVar 2)) [some v0, some (.ref d), some v, y] B1 (IsV (.int (co (addAll [] l) k))) := p_getP (ky := kyD K) (vp := fun i => IsV (.int i)) rfl ((DcP P w (kyD K) _ _).m e hP) (p_var rfl pv) hval
      refine ⟨[some v0, some (.ref d), some v, y], rfl, fun H2 Q e q => q, et_is (et_test (ev_op (ev_p get) ev_c rv_I0)) ?_, fun _ => ?_⟩
      · rw [hk]
        show decide (0 < co (addAll [] l) k) = decide (co (addAll [] l) k ≠ 0)
        have := hco k
        rw [cok]
        by_cases h0 : co l k = 0
        · simp [h0]
        · simp [h0]
          omega
      · rw [hk]
        exact p_tup (K := K) (ps := [DvP k, IsV (.int (co (addAll [] l) k))]) (q_cons (p_var rfl pv) (q_cons get q_nil)) (by show 2 ≤ 100000; decide)

end
end K12
namespace Nd
set_option autoImplicit false
open PySem PySem.W L2 My Evl LamX NdefX
section
variable {κ β : Type} [DecidableEq κ] {P : Program} {w : World} {K : PySem.W.Frag} {ky : Ky K κ} {vp : β → Pr} {σ : L2.St} {B : Hp} {zs : List (κ × β)} {i : Nat} {v : V} {k : κ} {f : β} {ty : TE}
/-- sorted(d), d as it is known -/
theorem p_sortM (hi : σ[i]? = some (some v)) (hv : (DcP P w ky vp zs).P v B) (hal : AllAlike (zs.map fun z => ky.kd z.1)) (hsk : ∀ d ∈ (zs.map fun z => ky.kd z.1), ∃ xs, d = PyData.tuple xs) (hdep : ∀ z ∈ zs, (ky.kd z.1).depth ≤ 50) :
    EvP (tSortM P w K (tVar i)) σ B (LsP ((srtZ ky.kd (zs.map (·.1))).map ky.kp)) := fun H a Q q => by
  obtain ⟨d, xs, B0, rfl, hd, n0, e0, al⟩ := hv
  have km := al.m (e0.trans a)
  have lx := km.len
  have kb := al.m e0
  have akp : ∀ {C : Hp} {zs : List (κ × β)} {xs : List NV}, KG ky vp zs xs C → AllP ((zs.map (·.1)).map ky.kp) (xs.map fun x => V.ref x.2.1) C := by
    intro C zs
    induction zs with
    | nil =>
      intro xs h
      match xs, h with
      | [], _ => exact trivial
    | cons z zs ih =>
      intro xs h
      match xs, h with
      | x :: xs, h => exact ⟨h.1.2.1, ih h.2⟩
  have e1 : zs.map (fun z => ky.kd z.1) = (zs.map (·.1)).map ky.kd := by rw [List.map_map]; rfl
  refine ⟨.ref d, hi, d, xs, zs.map fun z => ky.kd z.1, rfl, a _ _ hd, by rw [List.length_map, lx], hal, hsk, fun e he => ?_, ?_, fun b hb => ?_⟩
  · obtain ⟨z, hz, rfl⟩ := List.mem_map.mp he
    exact hdep z hz
  · rw [e1]
    exact toAll_all (toAll_map _ ky.to) (akp km)
  · have h1 := byKey_Z ky.kp ky.kd (akp kb)
    rw [← e1] at h1
    exact q _ (upd B b (.lst (byKey (xs.map fun x => V.ref x.2.1) (zs.map fun z => ky.kd z.1)))) _ (Gr.new _ a hb) ⟨b, _, rfl, upd_same, h1.m (Ex.new (fresh_back a hb))⟩
end
end Nd

namespace K12
set_option autoImplicit false
open PySem PySem.W L2 Evl My Nd LamX NdefX
section
variable {P : Program} {w : World} {K : PySem.W.Frag} {mg : Str → Option Value} {base : Heap} {T : List (Addr × Str)}

/-- _law_added -/
abbrev s_Ladded : Stmt := topS 40
abbrev N_Ladded : List Str := ["_law_one", "_law_other", "_law_number_here", "_law_terms", "_law_monomial_here", "_law_own", "_law_top", "_law_bottom", "_law_far", "_law_low"]
theorem sc_Ladded : FnScope N_Ladded ["_law_one", "_law_other", "_law_number_here"] (defScope s_Ladded) := ⟨rfl, rfl, rfl, by decide +kernel, rfl, by decide +kernel, by decide +kernel⟩
theorem ok_Ladded {f : Addr} {fd : FuncData} (F : Fun K "_law_added" "_law_added" s_Ladded f fd)  {f_Llowest : Addr} {d_Llowest : FuncData} (c_Llowest : Cal P w K mg base "_law_lowest" 1 ["_law_top", "_law_bottom"] (spP (Rlow2 K)) f_Llowest d_Llowest) (n_dict : mg "dict" = none) (n_tuple : mg "tuple" = none) (n_sorted : mg "sorted" = none)  :
    FnOk P w K mg base CX0 2 f fd ["_law_one", "_law_other", "_law_number_here"] (spP (Radd K)) := by
  refine F.ok sc_Ladded (spP_len (by rintro _ _ ⟨_, _, _, _, _, _, _, _, _, _, _, _, _, rfl, rfl⟩; rfl)) (fun cdv A outer s H vs Q E hr h => ?_)
  obtain ⟨B, ps, z, eB, hv, ⟨D, N, p, q, c, hD, hD2, hN2, hl, hq1, hc1, ndp, hn, rfl, rfl⟩, k⟩ := h
  obtain ⟨v0, v1, v2, rfl, h0, h1, h2⟩ := all3 hv
  have hu := hu_of hr
  refine ⟨_, (pss_cons (ps_set (i := 3) sc_Ladded.nd rfl (by first | exact .inl rfl | exact .inr rfl) (pe_callTy (call_dictN rfl (hu10 hr)) (by rfl) n_dict (by decide +kernel) (pa_cons (pv 0) pa_nil)))
    (pss_cons (ps_for PassesOwn.never rfl (pi_list (pv 1)) (pg_tup (by rfl) (pgs_cons (pg_name (i := 4) sc_Ladded.nd rfl (by first | exact .inl rfl | exact .inr rfl)) (pgs_cons (pg_name (i := 5) sc_Ladded.nd rfl (by first | exact .inl rfl | exact .inr rfl)) pgs_nil)))
      (pss_cons (ps_asg (pe_dget2N (by have h := hr.un; show (A.deeper _).units + 9 < cLine; omega) (pv 3) (pv 4) (pe_tup (pa_cons pe_int (pa_cons pe_int pa_nil))) (by exact ⟨rfl, rfl, rfl, rfl⟩)) (pg_tup (by rfl) (pgs_cons (pg_name (i := 6) sc_Ladded.nd rfl (by first | exact .inl rfl | exact .inr rfl)) (pgs_cons (pg_name (i := 7) sc_Ladded.nd rfl (by first | exact .inl rfl | exact .inr rfl)) pgs_nil))))
    (pss_cons (ps_par (i := 8) (j := 9) rfl sc_Ladded.nd rfl rfl (by decide) rfl rfl (pa_cons (pe_op op_mulW (pe_ix ix_tup (pv 5) pe_int (fun _ _ => rfl)) (pe_ix ix_tup (pv 2) pe_int (fun _ _ => rfl))) (pa_cons (pe_op op_mulW (pe_ix ix_tup (pv 5) pe_int (fun _ _ => rfl)) (pe_ix ix_tup (pv 2) pe_int (fun _ _ => rfl))) pa_nil)) (by rfl))
    (pss_one (ps_dputN (by have h := hr.un; show (A.deeper _).units + 9 < cLine; omega) (pv 3) (pv 4) (pe_call c_Llowest.G (hr.mono (by decide)) (by rfl) c_Llowest.m c_Llowest.k c_Llowest.b .nil pass0 (pa_cons (pe_op op_add (pe_op op_mulW (pv 6) (pv 9)) (pe_op op_mulW (pv 8) (pv 7))) (pa_cons (pe_op op_mulW (pv 7) (pv 9)) pa_nil))) rfl)))))
    (pss_one (ps_ret (pe_callTy call_tupleF (by rfl) n_tuple (by decide +kernel) (pa_cons (pe_lc (tt := tTest (tOp rNe (tOp (rIxT K) (tDGetN P w K (tVar 3) (tVar 4)) (tC (.int 0))) (tC (.int 0)))) (te := tTup (tCons (tVar 4) (tCons (tDGetN P w K (tVar 3) (tVar 4)) tNil))) (own := [("_law_monomial_here", 4)]) rfl sc_Ladded.nd (pi_list (pe_sortM hr (by rfl) n_sorted (pv 3))) (blkOk_by (N := N_Ladded) (sc := defScope s_Ladded) (by decide +kernel)) (fun _ _ _ _ _ => (pg_name (i := 4) sc_Ladded.nd rfl (Or.inl rfl))) (fun _ _ _ _ _ => (pts_one (pt_cmpR op_ne (pe_ix ix_tup (pe_dgetN (hu9 hr) (pv 3) (pv 4) (fun _ _ => rfl)) pe_int (fun _ _ => rfl)) pe_int (nomark _)))) (fun _ _ _ _ _ => (pe_tup (pa_cons (pv 4) (pa_cons (pe_dgetN (hu9 hr) (pv 3) (pv 4) (fun _ _ => rfl)) pa_nil))))) pa_nil)))))), ?_⟩
  have bD : D < 2 ^ 4000 := Nat.lt_trans hD2 (Nat.pow_lt_pow_right (by decide) (by decide))
  have bN : N < 2 ^ 4000 := Nat.lt_trans hN2 (Nat.pow_lt_pow_right (by decide) (by decide))
  refine ps_dictN (ky := kyF K) (vp := rtP K) (zs := p) eB (p_var (i := 0) (σ := [some v0, some v1, some v2, none, none, none, none, none, none, none]) rfl h0) ndp fun d B2 H2 hd e2 A2 => ?_
  dsimp only
  refine ps_forDL (fun j => addAll p ((scP q c).take j)) (fun j σ => ∃ a b e f g h, σ = [some v0, some v1, some v2, some (.ref d), a, b, e, f, g, h]) A2 ⟨_, _, _, _, _, _, rfl⟩ rfl ((LqP K (pqL K q)).m e2 h1) (fun j pr v' σ' B' H' hj e' hs A' pv F hF => ?_) fun σ' B' H' e' hs A' => ?_
  · obtain ⟨a4, a5, a6, a7, a8, a9, rfl⟩ := hs
    obtain ⟨t, ht, rfl⟩ := pq_at hj
    obtain ⟨w0, y1, y2, rfl, hq, m1, m2⟩ := tup2 pv A'.ex
    refine ⟨w0, _, rfl, hq, rfl, _, _, rfl, _, _, rfl, rfl, ?_⟩
    have htm := List.mem_of_getElem? ht
    have hjl : j < q.length := (List.getElem?_eq_some_iff.mp ht).1
    have slen : (scP q c).length = q.length := by unfold scP; rw [List.length_map]
    have len := addAll_len (l := (scP q c).take j) (zs := p)
    rw [List.length_take, slen] at len
    -- what stands there
    have GA := a_get2 (σ := [some v0, some v1, some v2, some (.ref d), some y1, some y2, a6, a7, a8, a9]) (ky := kyF K) (vp := rtP K) (f0 := 0) (k := t.1) (ty := tVar 4) (tx := tTup (tCons (tC (.int 0)) (tCons (tC (.int 1)) tNil))) (P := P) (w := w) (B := B) (H0 := H) (d := d) (zs := addAll p ((scP q c).take j)) (Bi := B') (i := 3) rfl (p_var (i := 4) rfl m1) (p_tup (K := K) (ps := [IsV (.int 0), IsV (.int 1)]) (q_cons p_c (q_cons p_c q_nil)) (by show 2 ≤ 100000; decide))
    dsimp only
    unfold tSeq
    unfold tAsg
    refine GA B' H' (Ex.refl B') A' _ fun v3 B3 H3 e3 A3 pv3 => ?_
    rw [val_co (addAll_nd ndp), addAll_co ndp] at pv3
    obtain ⟨w3, z1, z2, rfl, hq3, n1, n2⟩ := tup2 pv3 A3.ex
    obtain rfl : z1 = _ := n1
    obtain rfl : z2 = _ := n2
    refine ⟨w3, _, rfl, hq3, rfl, _, _, rfl, _, _, rfl, rfl, ?_⟩
    generalize hr : co (p ++ (scP q c).take j) t.1 = r at A3 ⊢
    have smr : Sm1 r := by
      have := (hl.pre j).co t.1
      rw [hr] at this
      obtain ⟨s1, s2⟩ := ab_small hD this.1
      exact ⟨Nat.lt_of_le_of_lt (Nat.le_trans s1 this.2) hN2, Nat.lt_of_le_of_lt s2 hD2⟩
    have m2' := (rtP K t.2).m e3 m2
    have h2' := (rtP K c).m (e2.trans (e'.trans e3)) h2
    obtain ⟨r1, r2⟩ := sm1_lg smr
    obtain ⟨t1, t2⟩ := sm1_lg (hq1 t htm)
    obtain ⟨c1, c2⟩ := sm1_lg hc1
    have far := mul_lg t1 c1
    have low := mul_lg t2 c2
    dsimp only
    refine (q_cons (p_ev (ev_mulW (k := 1000) (ev_top (K := K) (p_var (i := 5) (σ := [some v0, some v1, some v2, some (.ref d), some y1, some y2, some (.int (fr r).1), some (.int (fr r).2), a8, a9]) rfl m2')) (ev_top (K := K) (p_var (i := 2) rfl h2')) (lg t1) (lg c1))) (q_cons (p_ev (ev_mulW (k := 1000) (ev_bot (K := K) (p_var (i := 5) rfl m2')) (ev_bot (K := K) (p_var (i := 2) rfl h2')) (lg t2) (lg c2))) q_nil)) H3 A3.ex _ fun vs B4 H4 g4 al => ?_
    obtain ⟨u1, u2, rfl, k1, k2⟩ := all2 al
    obtain rfl : u1 = _ := k1
    obtain rfl : u2 = _ := k2
    have A4 := A3.step g4
    refine ⟨_, _, rfl, ?_⟩
    dsimp only
    have val := add_val r t.2 c
    refine ps_put (f := r + t.2 * c) rfl A4 (a_ev (p_callP (ps := [IsV _, IsV _]) (q_cons (p_ev (ev_addI (ev_mulW (k := 2000) (ev_var (i := 6) rfl) (ev_var (i := 9) rfl) (lg (Nat.lt_of_lt_of_le r1 (Nat.pow_le_pow_right (by decide) (by decide)))) (lg low)) (ev_mulW (k := 2000) (ev_var (i := 8) rfl) (ev_var (i := 7) rfl) (lg far) (lg (Nat.lt_of_lt_of_le r2 (Nat.pow_le_pow_right (by decide) (by decide))))))) (q_cons (p_ev (ev_mulW (k := 2000) (ev_var (i := 7) rfl) (ev_var (i := 9) rfl) (lg (Nat.lt_of_lt_of_le r2 (Nat.pow_le_pow_right (by decide) (by decide)))) (lg low))) q_nil)) ⟨_, _, ?_, ?_, rfl, by rw [val]⟩)) (p_var rfl ((moF K t.1).m (e3.trans g4.b) m1)) (by omega) fun B5 H5 e5 A5 => ?_
    · have := fr_pos r
      have := fr_pos t.2
      have := fr_pos c
      exact Int.mul_ne_zero (by omega) (Int.mul_ne_zero (by omega) (by omega))
    · exact Nat.lt_of_lt_of_le (mul_lg r2 low) (Nat.pow_le_pow_right (by decide) (by decide))
    · refine hF _ B5 H5 ⟨_, _, _, _, _, _, rfl⟩ (e3.trans (g4.b.trans e5)) ?_
      show DcAt P w (kyF K) (rtP K) B H d (addAll p ((scP q c).take (j + 1))) B5 H5
      rw [sc_take q c ht, addAll_app]
      have e9 : addAll (addAll p ((scP q c).take j)) [(t.1, t.2 * c)] = putG (addAll p ((scP q c).take j)) t.1 (r + t.2 * c) := by
        show addG _ _ _ = _
        unfold addG
        rw [addAll_co ndp, hr]
      rw [e9]
      exact A5
  · obtain ⟨a4, a5, a6, a7, a8, a9, rfl⟩ := hs
    have slen : (scP q c).length = q.length := by unfold scP; rw [List.length_map]
    have A' : DcAt P w (kyF K) (rtP K) B H d (addAll p ((scP q c).take (pqL K q).length)) B' H' := A'
    rw [show (pqL K q).length = (scP q c).length by rw [slen]; unfold pqL; rw [List.length_map], List.take_length] at A'
    obtain ⟨B5, g5, hP⟩ := A'.fin hd
    have nd := addAll_nd (l := scP q c) ndp
    have len := addAll_len (l := scP q c) (zs := p)
    generalize hZ : addAll p (scP q c) = Z at nd len hP
    have cfe : cf Z = addP p (scP q c) := by
      rw [← hZ]
      exact cf_ext fun k => addAll_co ndp k
    have main := p_lc (K := K) (g := gName 4) (tt := tTest (tOp rNe (tOp (rIxT K) (tDGetN P w K (tVar 3) (tVar 4)) (tC (.int 0))) (tC (.int 0)))) (te := tTup (tCons (tVar 4) (tCons (tDGetN P w K (tVar 3) (tVar 4)) tNil))) (vs := [4]) (σ := [some v0, some v1, some v2, some (.ref d), a4, a5, a6, a7, a8, a9]) (B := B5)
      (p_lq (p_sortM (P := P) (w := w) (ky := kyF K) (vp := rtP K) (zs := Z) (i := 3) rfl hP (AllAlike.of (enc := fun z : Mo × Rat => moD z.1) (bs := Z) fun u v => alike_mo u.1 v.1) (fun d hd => by obtain ⟨z, _, rfl⟩ := List.mem_map.mp hd; exact ⟨_, rfl⟩) (fun z _ => by have := deep_mo z.1; show (moD z.1).depth ≤ 50; omega)))
      (by rw [List.length_map]; unfold srtZ; rw [List.length_mergeSort, List.length_map]; omega)
      (fun i => ((srtZ (kyF K).kd (Z.map (·.1)))[i]?.map fun k => decide (co Z k ≠ 0)).getD false) (fun i => ((srtZ (kyF K).kd (Z.map (·.1)))[i]?.map fun k => TuP K [moF K k, rtP K (co Z k)]).getD (IsV .non)) fun i p v B1 hi e pv => ?_
    · rw [List.length_map, range_pick] at main
      have e9 : ((srtZ (kyF K).kd (Z.map (·.1))).filter fun k => decide (co Z k ≠ 0)).map (fun k => TuP K [moF K k, rtP K (co Z k)]) = (cf Z).map fun t => TuP K [moF K t.1, rtP K t.2] := by
        have h1 := keys_cf (kd := (kyF K).kd) (fun a b => rfl) nd
        rw [← h1, List.map_map]
        rfl
      rw [e9, cfe] at main
      exact My.ps_ret g5.c (p_tupOfF (p_lq main)) fun v B6 H6 g6 hp => k v B6 H6 (g5.trans g6) hp
    · rw [List.getElem?_map] at hi
      obtain ⟨m, hm, rfl⟩ := Option.map_eq_some_iff.mp hi
      have km : m ∈ Z.map (·.1) := (srtZ_perm _ _).mem_iff.mp (List.mem_of_getElem? hm)
      have hval : valG Z m = some (co Z m) := by
        have h1 := val_co nd m
        cases hv : valG Z m with
        | none =>
          have := val_no.mp hv
          rw [hasG_mem.mpr km] at this
          cases this
        | some f =>
          rw [hv] at h1
          rw [← h1]
          rfl
      have get : EvP (tDGetN P w K (tVar 3) (tVar 4)) [some v0, some v1, some v2, some (.ref d), some v, a5, a6, a7, a8, a9] B1 (rtP K (co Z m)) := p_getP (ky := kyF K) (vp := rtP K) rfl ((DcP P w (kyF K) _ _).m e hP) (p_var rfl pv) hval
      refine ⟨[some v0, some v1, some v2, some (.ref d), some v, a5, a6, a7, a8, a9], rfl, fun H2 Q e q => q, et_is (et_test (ev_op (ev_top get) (ev_c (v := .int 0)) (rv_ne rfl))) ?_, fun _ => ?_⟩
      · rw [hm]
        show (!decide (V.int (fr (co Z m)).1 = V.int 0)) = decide (co Z m ≠ 0)
        by_cases h : co Z m = 0
        · rw [h]
          rfl
        · have : (fr (co Z m)).1 ≠ 0 := fun e => h ((fr_num0 _).mp e)
          simp [h, this]
      · rw [hm]
        exact p_tup (K := K) (ps := [moF K m, rtP K (co Z m)]) (q_cons (p_var rfl pv) (q_cons get q_nil)) (by show 2 ≤ 100000; decide)

end
end K12
namespace Nd
set_option autoImplicit false
open PySem PySem.W L2 My Evl LamX NdefX
theorem sm1_of {D N : Nat} {r : Rat} (hD : 0 < D) (hD2 : D < 2 ^ 1000) (hN : N < 2 ^ 1000) (h : Wh D r ∧ ab D r ≤ N) : Sm1 r := by
  obtain ⟨s1, s2⟩ := ab_small hD h.1
  exact ⟨Nat.lt_of_le_of_lt (Nat.le_trans s1 h.2) hN, Nat.lt_of_le_of_lt s2 hD2⟩
end Nd
namespace K12
set_option autoImplicit false
open PySem PySem.W L2 Evl My Nd LamX NdefX
section
variable {P : Program} {w : World} {K : PySem.W.Frag} {mg : Str → Option Value} {base : Heap} {T : List (Addr × Str)}

end
end K12
namespace Nd
set_option autoImplicit false
open PySem PySem.W L2 My Evl LamX NdefX
theorem dg_cons (y : Dv × Int) (m : Mo) : dg (y :: m) = y.2.natAbs + dg m := by
  unfold dg
  rw [List.map_cons, List.sum_cons]
theorem dg_ins (k : Dv) (v : Int) : ∀ l : Mo, dg (ins k v l) ≤ v.natAbs + dg l
  | [] => by
    unfold ins
    split
    · exact Nat.zero_le _
    · exact Nat.le_refl _
  | y :: l => by
    unfold ins
    split
    · split
      · rw [dg_cons]
        omega
      · rw [dg_cons, dg_cons]
        show (y.2 + v).natAbs + dg l ≤ _
        omega
    · split
      · split
        · omega
        · rw [dg_cons]
          exact Nat.le_refl _
      · rw [dg_cons, dg_cons]
        have := dg_ins k v l
        omega
theorem dg_cf : ∀ l : Mo, dg (cf l) ≤ dg l
  | [] => Nat.le_refl _
  | y :: l => by
    show dg (ins y.1 y.2 (cf l)) ≤ _
    have h1 := dg_ins y.1 y.2 (cf l)
    have h2 := dg_cf l
    rw [dg_cons]
    omega
/-- the law's numbers -/
def NumOk (r : Rat) : Prop := r ≠ 0 ∧ Wh 6 r ∧ ab 6 r ≤ 30
theorem num_all : ∀ t ∈ [1, -1, 2, -2, 3, 1, (5 : Int)], ∀ b ∈ [1, 1, 1, 2, (3 : Int)], Rat.divInt t b ≠ 0 ∧ Rat.divInt t b * (((6 : Nat) : Int) : Rat) = ((t * (6 / b) : Int) : Rat) ∧ (t * (6 / b)).natAbs ≤ 30 := by decide +kernel
theorem num_ok {t b : Int} (ht : t ∈ [1, -1, 2, -2, 3, 1, (5 : Int)]) (hb : b ∈ [1, 1, 1, 2, (3 : Int)]) : NumOk (Rat.divInt t b) := by
  obtain ⟨h1, h2, h3⟩ := num_all t ht b hb
  exact ⟨h1, ⟨_, h2⟩, by rw [ab_of h2]; exact h3⟩
/-- the law's polynomials -/
structure LP (r : Rk) (n : Nat) (p : Pq) : Prop where
  c : PoC p
  of : ∀ t ∈ p, ∀ y ∈ t.1, y.1.Of r
  dg : ∀ t ∈ p, Nd.dg t.1 ≤ 3
  ln : p.length ≤ n
  lm : Lim 6 (30 * n) p
  o : ∀ t ∈ p, ∀ y ∈ t.1, y.1.i + y.1.j ≤ 4
theorem lp_nil {r : Rk} : LP r 0 [] := ⟨poc_nil, fun _ h => absurd h List.not_mem_nil, fun _ h => absurd h List.not_mem_nil, Nat.le_refl _, Lim.nil, fun _ h => absurd h List.not_mem_nil⟩
def onesL (us : List Dv) : Mo := us.map fun u => (u, 1)
theorem dg_ones : ∀ us : List Dv, dg (onesL us) = us.length
  | [] => rfl
  | u :: us => by
    show dg ((u, 1) :: onesL us) = _
    rw [dg_cons, dg_ones us, List.length_cons]
    show (1 : Int).natAbs + _ = _
    omega
theorem co_ones (us : List Dv) (u : Dv) : 0 ≤ co (onesL us) u := co_nn (fun x hx => by
  obtain ⟨v, _, rfl⟩ := List.mem_map.mp hx
  exact (by decide : (0 : Int) ≤ 1)) u
theorem LP.add {r : Rk} {n : Nat} {p : Pq} (h : LP r n p) {us : List Dv} (hu : ∀ u ∈ us, Dv.Of u r ∧ u.i + u.j ≤ 4) (hl : us.length ≤ 3) {s : Rat} (hs : NumOk s) : LP r (n + 1) (addP p [(cf (onesL us), s)]) := by
  have one : PoC [(cf (onesL us), s)] := ⟨⟨List.pairwise_singleton _ _, fun z hz => by rw [List.mem_singleton.mp hz]; exact hs.1⟩, fun t ht => by rw [List.mem_singleton.mp ht]; exact moc_cf (co_ones us)⟩
  have key : ∀ t ∈ addP p [(cf (onesL us), s)], t.1 = cf (onesL us) ∨ ∃ z ∈ p, z.1 = t.1 := fun t ht => by
    have := cf_key ht
    rw [List.map_append, List.mem_append] at this
    rcases this with h1 | h1
    · obtain ⟨z, hz, e⟩ := List.mem_map.mp h1
      exact .inr ⟨z, hz, e⟩
    · exact .inl (List.mem_singleton.mp h1)
  refine ⟨poc_add h.c one, fun t ht y hy => ?_, fun t ht => ?_, Nat.le_trans (addP_len _ _) (Nat.add_le_add_right h.ln 1), ?_, fun t ht y hy => ?_⟩
  · rcases key t ht with e | ⟨z, hz, e⟩
    · rw [e] at hy
      have := cf_key hy
      obtain ⟨x, hx, e2⟩ := List.mem_map.mp this
      obtain ⟨u, hu', rfl⟩ := List.mem_map.mp hx
      rw [← e2]
      exact (hu u hu').1
    · exact h.of z hz y (e ▸ hy)
  · rcases key t ht with e | ⟨z, hz, e⟩
    · rw [e]
      have := dg_cf (onesL us)
      rw [dg_ones] at this
      omega
    · rw [← e]
      exact h.dg z hz
  · have l1 : Lim 6 30 [(cf (onesL us), s)] := ⟨fun t ht => by rw [List.mem_singleton.mp ht]; exact hs.2.1, by rw [wt_cons]; show ab 6 s + 0 ≤ 30; have := hs.2.2; omega⟩
    exact ((h.lm.app l1).cf).le (by omega)
  · rcases key t ht with e | ⟨z, hz, e⟩
    · rw [e] at hy
      have := cf_key hy
      obtain ⟨x, hx, e2⟩ := List.mem_map.mp this
      obtain ⟨u, hu', rfl⟩ := List.mem_map.mp hx
      rw [← e2]
      exact (hu u hu').2
    · exact h.o z hz y (e ▸ hy)
end Nd
namespace K12
set_option autoImplicit false
open PySem PySem.W L2 Evl My Nd LamX NdefX
section
variable {T : List (Addr × Str)} {d : Addr} {n m : Nat} {B H B1 H1 B2 H2 : Hp}
theorem GX.gd (g : GrD d B H B1 H1) : GX d B H B1 H1 := ⟨fun b o n e _ => g.s b o n e, g.b, fun x o _ hb hh _ => g.f x hb (by rw [hh]; exact fun z => nomatch z)⟩
theorem Kx.gd (k : Kx T d n B H) (g : GrD d B H B1 H1) (hd : DSt H1 d m) : Kx T d m B1 H1 := by
  have kk := k.sb g.s hd
  exact ⟨g.c, g.n k.nt, kk.t, g.d, hd⟩
theorem GX.lst {D : Addr} {o : HO} (g : GX d B H B1 H1) (hD : H D = none) : GX d B H B1 (upd H1 D o) := ⟨fun b u n e z => by
  by_cases h : b = D
  · subst h
    rw [hD] at e
    cases e
  · rw [upd_ne h]
    exact g.a b u n e z, g.b, g.f⟩
theorem x_der {σ : L2.St} {i0 i1 i2 i3 hi : Nat} {r : Rk} {vn : V} {Q : VK} (k : Kx T d n B H) (h0 : σ[i0]? = some (some (.ref d))) (h1 : σ[i1]? = some (some vn)) (h2 : σ[i2]? = some (some (.int (r.axs.length : Nat)))) (h3 : σ[i3]? = some (some (.int (hi : Nat)))) (hhi : hi ≤ 20) (ok : r.Ok) (hN : (NlP r.ns).P vn B) (hn : n ≤ 2 ^ 36)
    (q : ∀ (u : Dv) B' H' v, u.Of r → u.i + u.j ≤ hi → Kx T d (n + 20) B' H' → GX d B H B' H' → (DvP u).P v B' → Q v H') : tCall spDer [] E0 (tCons (tVar i0) (tCons (tVar i1) (tCons (tVar i2) (tCons (tVar i3) tNil)))) σ H Q :=
  ⟨_, h0, _, h1, _, h2, _, h3, B, d, n, hi, r, vn, rfl, hhi, ok, hN, k.e, k.z, k.s, hn, fun u B' H' v hu hh g hd hv => q u B' H' v hu hh (k.gd g hd) (GX.gd g) hv⟩
theorem x_pickI {K : PySem.W.Frag} {ks : List Int} {ta : TA} {σ : L2.St} {i : Nat} {z : Int} {Q : VK} (k : Kx T d n B H) (hl : EvPs ta σ B (ks.map fun i => IsV (.int i))) (hi : σ[i]? = some (some (.ref d))) (hz : z = (ks.length : Nat)) (h0 : 0 < ks.length) (h1 : ks.length < 1000) (hn : n ≤ 2 ^ 38)
    (q : ∀ (j : Nat) (hj : j < ks.length) B' H', Kx T d (n + 4) B' H' → GX d B H B' H' → Q (.int ks[j]) H') : tOp (rIxL K) (tLst ta) (tCall spDigit [] E0 (tCons (tVar i) (tCons (tC (.int z)) tNil))) σ H Q := by
  subst hz
  refine p_lst hl (by rw [List.length_map]; omega) H k.e _ fun v B1 H1 g hv => ?_
  refine x_digit (k.gr g) hi ev_c (by omega) (by omega) (by omega) fun m H2 m0 m1 k2 g2 => ?_
  obtain ⟨l, xs, rfl, hx, al⟩ := hv
  obtain ⟨j, p, w, hj, rfl, hp, hat, hw⟩ := pick al m0 (by rw [List.length_map]; exact m1)
  rw [List.getElem?_map] at hp
  obtain ⟨c, hc, rfl⟩ := Option.map_eq_some_iff.mp hp
  obtain ⟨hj2, rfl⟩ := List.getElem?_eq_some_iff.mp hc
  obtain rfl : w = _ := hw
  exact ⟨l, xs, _, _, rfl, rfl, sq_of (k2.e _ _ hx), hat, q j hj2 B1 H2 k2 ((GX.gr g).trans g2)⟩
/-- a comprehension over a range, with draws -/
theorem x_lcR {α : Type} {f : α → Pr} {ok : α → Prop} {te : TE} {σ : L2.St} {jx jv c : Nat} {Q : VK} (k : Kx T d n B H) (hj : σ[jx]? = some (some (.int (m : Nat)))) (hm : m ≤ 1000) (hw : ∀ x, wipe ((wipe σ [jv]).set jv (some x)) [jv] = wipe σ [jv])
    (step : ∀ (i : Nat) (B1 H1 : Hp) (Q' : VK), i < m → Kx T d (n + c * i) B1 H1 → GX d B H B1 H1 → (∀ (a : α) v B2 H2, ok a → Kx T d (n + c * (i + 1)) B2 H2 → GX d B1 H1 B2 H2 → (f a).P v B2 → Q' v H2) → te ((wipe σ [jv]).set jv (some (.int (i : Nat)))) H1 Q')
    (q : ∀ (as : List α) v B' H', (∀ a ∈ as, ok a) → as.length = m → Kx T d (n + c * m) B' H' → GX d B H B' H' → (LsP (as.map f)).P v B' → Q v H') :
    tLc (iRng1 (tCons (tVar jx) tNil)) (gName jv) tYes te [jv] σ H Q := by
  refine ⟨_, hj, (m : Int), rfl, by omega, by omega, fun D hD => ?_⟩
  have hDd : D ≠ d := fun e => k.s.ne0 (e ▸ hD)
  have hBD : B D = none := fresh_back k.e hD
  have a0 : AllP (([] : List α).map f) [] B := trivial
  refine lc_range (lo := 0) (n := (m : Int).toNat) (fun i H' => ∃ B1 as acc, (∀ a ∈ as, ok a) ∧ as.length = i ∧ Kx T d (n + c * i) B1 H' ∧ GX d B H B1 H' ∧ B1 D = none ∧ H' D = some (.lst acc) ∧ AllP (as.map f) acc B1)
    ⟨B, [], [], fun a h => absurd h List.not_mem_nil, rfl, k.ex (Ex.new hD), GX.ex (Ex.new hD), hBD, upd_same, a0⟩ (fun i H' hi h => ?_) fun H' h => ?_
  · obtain ⟨B1, as, acc, h1, h2, h3, h4, h5, h6, h7⟩ := h
    refine ⟨hw _, ?_⟩
    dsimp only [tYes]
    rw [if_pos rfl, Int.zero_add]
    refine step i B1 H' _ (by omega) h3 h4 fun a v B2 H2 oa k2 g2 hv => ?_
    have hD2 : H2 D = some (.lst acc) := g2.a D _ hDd h6 (fun _ z => nomatch z)
    have hB2 : B2 D = none := g2.f D _ hDd h5 h6 (fun _ z => nomatch z)
    have hlen := h7.len
    rw [List.length_map] at hlen
    refine ⟨acc, hD2, small1000 (by omega), B2, as ++ [a], acc ++ [v], ?_, by rw [List.length_append, h2]; rfl, ?_, (h4.trans g2).lst hD, hB2, upd_same, ?_⟩
    · intro b hb
      rcases List.mem_append.mp hb with hb | hb
      · exact h1 b hb
      · rw [List.mem_singleton.mp hb]
        exact oa
    · refine ⟨fun b o e => ?_, k2.nt, tabs_lst k2.t hD2, k2.z, k2.s.upd hDd.symm⟩
      rw [upd_ne (fun z => by subst z; rw [hB2] at e; cases e)]
      exact k2.e b o e
    · rw [List.map_append]
      exact (h7.m g2.b).app ⟨hv, trivial⟩
  · obtain ⟨B1, as, acc, h1, h2, h3, h4, h5, h6, h7⟩ := h
    have ne : Ex B1 (upd B1 D (.lst acc)) := Ex.new h5
    refine q as _ (upd B1 D (.lst acc)) H' h1 (by rw [h2]; omega) ?_ ?_ ⟨D, acc, rfl, upd_same, h7.m ne⟩
    · refine ⟨fun b o e => ?_, nt_upd h3.nt (fun _ z => nomatch z), h3.t, by rw [upd_ne hDd.symm]; exact h3.z, ?_⟩
      · by_cases z : b = D
        · subst z
          rw [upd_same] at e
          rw [← e]
          exact h6
        · rw [upd_ne z] at e
          exact h3.e b o e
      · have e : (m : Int).toNat = m := Int.toNat_natCast m
        rw [e] at h3
        exact h3.s
    · exact ⟨h4.a, h4.b.trans ne, fun x o n hb hh z => by
        rw [upd_ne (fun e => by subst e; rw [hD] at hh; cases hh)]
        exact h4.f x o n hb hh z⟩
end
section
variable {t u : TS} {D : Ends} {σ : L2.St} {H : Hp} {tc ta tb : TE} {tt : TT} {g : TG} {Q : VK}
theorem b_forD (h : tc σ H fun v H1 => ∃ j : Int, [v] = [V.int j] ∧ -(2 ^ 62) ≤ j ∧ j < 2 ^ 62 ∧ ∃ W : Nat → Nat → L2.St → Hp → Prop, (∃ m, W 0 m σ H1) ∧ ∀ i m σ H, W i m σ H →
      ((Itr 0 j.toNat).stop i H ∧ D.nx σ H) ∨ ((Itr 0 j.toNat).go i H ∧ ∃ N : L2.St → Hp → Prop, (∀ σ' H', N σ' H' → ∃ m', m' < m ∧ W (i + 1) m' σ' H') ∧ ∀ x H', (Itr 0 j.toNat).yld i H x H' → g x σ H' fun σ2 H2 => t { D with nx := N, ct := N, bk := D.nx } σ2 H2)) : tFor (iRng1 (tCons tc tNil)) g t D σ H := h
end
def spNum (K : PySem.W.Frag) (T : List (Addr × Str)) : Sp := fun vs H Q _ => ∃ (B : Hp) (d : Addr) (n : Nat), vs = [.ref d] ∧ Kx T d n B H ∧ n ≤ 2 ^ 36 ∧ ∀ (r : Rat) (v : V) (B' H' : Hp), NumOk r → Kx T d (n + 8) B' H' → GX d B H B' H' → (rtP K r).P v B' → Q v H'
def spPoly (K : PySem.W.Frag) (T : List (Addr × Str)) : Sp := fun vs H Q _ => ∃ (B : Hp) (d : Addr) (n : Nat) (r : Rk) (vn : V), vs = [.ref d, vn, .int (r.axs.length : Nat), .int (5 : Nat), .int (3 : Nat)] ∧ r.Ok ∧ (NlP r.ns).P vn B ∧ Kx T d n B H ∧ n ≤ 2 ^ 35 ∧
  ∀ (p : Pq) (v : V) (B' H' : Hp), LP r 5 p → Kx T d (n + 600) B' H' → GX d B H B' H' → (fpP K p).P v B' → Q v H'
section
variable {P : Program} {w : World} {K : PySem.W.Frag} {mg : Str → Option Value} {base : Heap} {T : List (Addr × Str)}

/-- _law_number -/
abbrev s_Lnumber : Stmt := topS 44
abbrev N_Lnumber : List Str := ["_law_state", "_law_top"]
theorem sc_Lnumber : FnScope N_Lnumber ["_law_state"] (defScope s_Lnumber) := ⟨rfl, rfl, rfl, by decide +kernel, rfl, by decide +kernel, by decide +kernel⟩
theorem ok_Lnumber {f : Addr} {fd : FuncData} (F : Fun K "_law_number" "_law_number" s_Lnumber f fd)  {f_Ldigit : Addr} {d_Ldigit : FuncData} (c_Ldigit : Cal P w K mg base "_law_digit" 2 ["_law_state", "_law_size"] spDigit f_Ldigit d_Ldigit) {f_Llowest : Addr} {d_Llowest : FuncData} (c_Llowest : Cal P w K mg base "_law_lowest" 1 ["_law_top", "_law_bottom"] (spP (Rlow2 K)) f_Llowest d_Llowest)   :
    FnOk P w K mg base CX0 3 f fd ["_law_state"] (spNum K T) := by
  refine F.ok sc_Lnumber (fun vs H Q E h => by obtain ⟨B, d, n, rfl, _⟩ := h; rfl) (fun cdv A outer s H vs Q E hr h => ?_)
  obtain ⟨B, d, n, rfl, k, hn, q⟩ := h
  have hu := hu_of hr
  refine ⟨_, (pss_cons (ps_set (i := 1) sc_Lnumber.nd rfl (by first | exact .inl rfl | exact .inr rfl) (pe_ix ix_list (pe_lst (pa_cons pe_int (pa_cons (pe_un un_neg pe_int) (pa_cons pe_int (pa_cons (pe_un un_neg pe_int) (pa_cons pe_int (pa_cons pe_int (pa_cons pe_int pa_nil)))))))) (pe_call c_Ldigit.G (hr.mono (by decide)) (by rfl) c_Ldigit.m c_Ldigit.k c_Ldigit.b .nil pass0 (pa_cons (pv 0) (pa_cons pe_int pa_nil))) (fun _ _ => rfl)))
    (pss_one (ps_ret (pe_call c_Llowest.G (hr.mono (by decide)) (by rfl) c_Llowest.m c_Llowest.k c_Llowest.b .nil pass0 (pa_cons (pv 1) (pa_cons (pe_ix ix_list (pe_lst (pa_cons pe_int (pa_cons pe_int (pa_cons pe_int (pa_cons pe_int (pa_cons pe_int pa_nil)))))) (pe_call c_Ldigit.G (hr.mono (by decide)) (by rfl) c_Ldigit.m c_Ldigit.k c_Ldigit.b .nil pass0 (pa_cons (pv 0) (pa_cons pe_int pa_nil))) (fun _ _ => rfl)) pa_nil)))))), ?_⟩
  refine x_pickI (K := K) (ks := [1, -1, 2, -2, 3, 1, 5]) k (q_cons p_c (q_cons (p_ev (ev_un ev_c ru_neg)) (q_cons p_c (q_cons (p_ev (ev_un ev_c ru_neg)) (q_cons p_c (q_cons p_c (q_cons p_c q_nil))))))) rfl rfl (by decide) (by decide) (by omega) fun j hj B1 H1 k1 g1 => ?_
  dsimp only [gName]
  refine ⟨_, rfl, ?_⟩
  refine x_pickI (K := K) (ks := [1, 1, 1, 2, 3]) k1 (q_cons p_c (q_cons p_c (q_cons p_c (q_cons p_c (q_cons p_c q_nil))))) rfl rfl (by decide) (by decide) (by omega) fun j2 hj2 B2 H2 k2 g2 => ?_
  have hb := List.getElem_mem hj2
  have hb0 : [1, 1, 1, 2, (3 : Int)][j2] ≠ 0 ∧ [1, 1, 1, 2, (3 : Int)][j2].natAbs < 2 ^ 4000 := by
    have : ∀ b ∈ [1, 1, 1, 2, (3 : Int)], b ≠ 0 ∧ b.natAbs ≤ 3 := by decide
    obtain ⟨h1, h2⟩ := this _ hb
    exact ⟨h1, Nat.lt_of_le_of_lt h2 (by decide +kernel)⟩
  refine ⟨B2, [IsV _, IsV _], _, k2.e, ⟨rfl, rfl, trivial⟩, ⟨_, _, hb0.1, hb0.2, rfl, rfl⟩, fun v B3 H3 g3 hv => ?_⟩
  exact q _ v B3 H3 (num_ok (List.getElem_mem hj) hb) (k2.gr g3) ((g1.trans g2).trans (GX.gr g3)) hv

/-- _law_poly -/
abbrev s_Lpoly : Stmt := topS 46
abbrev N_Lpoly : List Str := ["_law_state", "_law_names", "_law_axes", "_law_size", "_law_high", "_law_found", "_law_turn", "_law_wide", "_law_pairs", "_law_j"]
theorem sc_Lpoly : FnScope N_Lpoly ["_law_state", "_law_names", "_law_axes", "_law_size", "_law_high"] (defScope s_Lpoly) := ⟨rfl, rfl, rfl, by decide +kernel, rfl, by decide +kernel, by decide +kernel⟩
theorem ok_Lpoly {f : Addr} {fd : FuncData} (F : Fun K "_law_poly" "_law_poly" s_Lpoly f fd)  {f_Ldigit : Addr} {d_Ldigit : FuncData} (c_Ldigit : Cal P w K mg base "_law_digit" 2 ["_law_state", "_law_size"] spDigit f_Ldigit d_Ldigit) {f_Lderivative : Addr} {d_Lderivative : FuncData} (c_Lderivative : Cal P w K mg base "_law_derivative" 3 ["_law_state", "_law_names", "_law_axes", "_law_high"] spDer f_Lderivative d_Lderivative) {f_Lmonomial : Addr} {d_Lmonomial : FuncData} (c_Lmonomial : Cal P w K mg base "_law_monomial" 1 ["_law_pairs"] (spP (Rlm K)) f_Lmonomial d_Lmonomial) {f_Lnumber : Addr} {d_Lnumber : FuncData} (c_Lnumber : Cal P w K mg base "_law_number" 3 ["_law_state"] (spNum K T) f_Lnumber d_Lnumber) {f_Ladded : Addr} {d_Ladded : FuncData} (c_Ladded : Cal P w K mg base "_law_added" 2 ["_law_one", "_law_other", "_law_number_here"] (spP (Radd K)) f_Ladded d_Ladded) (n_range : mg "range" = none) (n_tuple : mg "tuple" = none)  :
    FnOk P w K mg base CX0 4 f fd ["_law_state", "_law_names", "_law_axes", "_law_size", "_law_high"] (spPoly K T) := by
  refine F.ok sc_Lpoly (fun vs H Q E h => by obtain ⟨B, d, n, r, vn, rfl, _⟩ := h; rfl) (fun cdv A outer s H vs Q E hr h => ?_)
  obtain ⟨B, d, n, r, vn, rfl, hok, hN, k, hn, q⟩ := h
  have hu := hu_of hr
  refine ⟨_, (pss_cons (ps_set (i := 5) sc_Lpoly.nd rfl (by first | exact .inl rfl | exact .inr rfl) (pe_tupF pa_nil))
    (pss_cons (ps_for PassesOwn.never rfl (pi_range1 (by rfl) n_range (pa_cons (pe_op op_add pe_int (pe_call c_Ldigit.G (hr.mono (by decide)) (by rfl) c_Ldigit.m c_Ldigit.k c_Ldigit.b .nil pass0 (pa_cons (pv 0) (pa_cons (pv 3) pa_nil)))) pa_nil)) (pg_name (i := 6) sc_Lpoly.nd rfl (by first | exact .inl rfl | exact .inr rfl))
      (pss_cons (ps_set (i := 7) sc_Lpoly.nd rfl (by first | exact .inl rfl | exact .inr rfl) (pe_ix ix_list (pe_lst (pa_cons pe_int (pa_cons pe_int (pa_cons pe_int (pa_cons pe_int (pa_cons pe_int (pa_cons pe_int pa_nil))))))) (pe_call c_Ldigit.G (hr.mono (by decide)) (by rfl) c_Ldigit.m c_Ldigit.k c_Ldigit.b .nil pass0 (pa_cons (pv 0) (pa_cons pe_int pa_nil))) (fun _ _ => rfl)))
    (pss_cons (ps_setLc (i := 8) (own := [("_law_j", 9)]) rfl sc_Lpoly.nd rfl rfl (sw_true rfl rfl rfl (by decide +kernel)) (pi_range1 (by rfl) n_range (pa_cons (pv 7) pa_nil)) (blkOk_by (N := N_Lpoly) (sc := defScope s_Lpoly) (by decide +kernel)) (fun _ _ _ _ _ => (pg_name (i := 9) sc_Lpoly.nd rfl (Or.inl rfl))) (fun _ _ _ _ _ => pts_nil) (fun _ _ _ _ _ => (pe_tup (pa_cons (pe_call c_Lderivative.G (hr.mono (by decide)) (by rfl) c_Lderivative.m c_Lderivative.k c_Lderivative.b .nil pass0 (pa_cons (pv 0) (pa_cons (pv 1) (pa_cons (pv 2) (pa_cons (pv 4) pa_nil))))) (pa_cons pe_int pa_nil)))))
    (pss_one (ps_set (i := 5) sc_Lpoly.nd rfl (by first | exact .inl rfl | exact .inr rfl) (pe_call c_Ladded.G (hr.mono (by decide)) (by rfl) c_Ladded.m c_Ladded.k c_Ladded.b .nil pass0 (pa_cons (pv 5) (pa_cons (pe_lst (pa_cons (pe_tup (pa_cons (pe_call c_Lmonomial.G (hr.mono (by decide)) (by rfl) c_Lmonomial.m c_Lmonomial.k c_Lmonomial.b .nil pass0 (pa_cons (pe_callTy call_tuple_of (by rfl) n_tuple (by decide +kernel) (pa_cons (pv 8) pa_nil)) pa_nil)) (pa_cons (pe_call c_Lnumber.G (hr.mono (by decide)) (by rfl) c_Lnumber.m c_Lnumber.k c_Lnumber.b .nil pass0 (pa_cons (pv 0) pa_nil)) pa_nil))) pa_nil)) (pa_cons (pe_tup (pa_cons pe_int (pa_cons pe_int pa_nil))) pa_nil)))))))))
    (pss_one (ps_ret (pv 5))))), ?_⟩
  refine My.ps_asg k.e (p_tupFu q_nil (by show 0 ≤ 100000; decide)) fun v5 B2 H2 g2 h5 => ?_
  have k2 := k.gr g2
  dsimp only
  refine b_seq (b_forD (b_op ?_))
  show tCall spDigit [] E0 (tCons (tVar 0) (tCons (tVar 3) tNil)) _ _ _
  refine x_digit (z := (5 : Nat)) k2 rfl (ev_var rfl) (by decide) (by decide) (by omega) fun m H3 m0 m1 k3 g3 => ?_
  refine ⟨1, m, rfl, rfl, 1 + m, rfl, by omega, by omega, for_range (lo := 0) (n := (1 + m).toNat) (fun t σ H' => ∃ B' p vf x6 x7 x8, Kx T d (n + 4 + 72 * t) B' H' ∧ GX d B2 H3 B' H' ∧ LP r t p ∧ (fpP K p).P vf B' ∧ σ = [some (.ref d), some vn, some (.int (r.axs.length : Nat)), some (.int (5 : Nat)), some (.int (3 : Nat)), some vf, x6, x7, x8, none])
    ⟨B2, [], v5, none, none, none, k3, GX.refl, lp_nil, h5, rfl⟩ (fun t σ H' ht pv => ?_) (fun σ H' pv => ?_)⟩
  · obtain ⟨B', p, vf, x6, x7, x8, k', g', hp, hf, rfl⟩ := pv
    have ht5 : t < 5 := by omega
    refine b_seq (b_asg ?_)
    refine x_pickI (K := K) (ks := [0, 1, 1, 2, 2, 3]) k' (q_cons p_c (q_cons p_c (q_cons p_c (q_cons p_c (q_cons p_c (q_cons p_c q_nil)))))) rfl rfl (by decide) (by decide) (by omega) fun j hj B4 H4 k4 g4 => ?_
    have hw : ∃ wd : Nat, [0, 1, 1, 2, 2, (3 : Int)][j] = (wd : Int) ∧ wd ≤ 3 := by
      have : ∀ b ∈ [0, 1, 1, 2, 2, (3 : Int)], 0 ≤ b ∧ b ≤ 3 := by decide
      have h := this _ (List.getElem_mem hj)
      exact ⟨[0, 1, 1, 2, 2, (3 : Int)][j].toNat, by omega, by omega⟩
    obtain ⟨wd, ew, hwd⟩ := hw
    rw [ew]
    have hN4 := (NlP r.ns).m (g2.b.trans (g'.b.trans g4.b)) hN
    dsimp only [gName, List.set_cons_succ, List.set_cons_zero]
    refine b_seq (b_asg ?_)
    refine x_lcR (α := Dv) (f := fun u => pwP K (u, 1)) (ok := fun u => u.Of r ∧ u.i + u.j ≤ 4) (jx := 7) (jv := 9) (c := 20) (m := wd) k4 rfl (by omega) (fun x => rfl) (fun i B5 H5 Q' hi k5 g5 st => ?_) fun us v8 B5 H5 hus hlen k5 g5 h8 => ?_
    · have st' := st
      refine x_der (hi := 3) (r := r) k5 rfl rfl rfl rfl (by decide) hok ((NlP r.ns).m g5.b hN4) (by omega) fun u B6 H6 v hu ho k6 g6 hv => ?_
      refine ⟨by show 2 ≤ sizeLine; decide, fun pp hpp => ?_⟩
      have g7 := Gr.new (B := B6) (.tup [v, .int 1]) k6.e hpp
      exact st u _ _ _ ⟨hu, by omega⟩ ((k6.gr g7).le (by omega)) (g6.trans (GX.gr g7)) ⟨pp, _, rfl, st_of upd_same, (DvP u).m g7.b hv, rfl, trivial⟩
    · dsimp only [gName, List.set_cons_succ, List.set_cons_zero]
      have hf5 := (fpP K p).m (g4.b.trans g5.b) hf
      have e8 : us.map (fun u => pwP K (u, 1)) = (onesL us).map (pwP K) := by
        unfold onesL
        rw [List.map_map]
        rfl
      rw [e8] at h8
      have hul : us.length ≤ 3 := by omega
      -- the polynomial so far
      refine b_asg ?_
      refine ⟨vf, rfl, ?_⟩
      refine (p_callP (ps := [moP K (onesL us)]) (σ := [some (.ref d), some vn, some (.int (r.axs.length : Nat)), some (.int (5 : Nat)), some (.int (3 : Nat)), some vf, some (.int (0 + (t : Nat))), some (.int (wd : Nat)), some v8, none]) (q_cons (p_tupOf (p_lq (p_var (i := 8) rfl h8))) q_nil) ⟨onesL us, co_ones us, by unfold onesL; rw [List.length_map]; omega, rfl, rfl⟩) H5 k5.e _ fun w1 B7 H7 g7 hw1 => ?_
      have k7 := k5.gr g7
      refine ⟨_, rfl, B7, d, n + 4 + 72 * t + 4 + 20 * wd, rfl, k7, by omega, fun s w2 B8 H8 hs k8 g8 hw2 => ?_⟩
      refine ⟨by show 2 ≤ sizeLine; decide, fun p1 hp1 => ⟨by show 1 ≤ sizeLine; decide, fun p2 hp2 => ⟨by show 2 ≤ sizeLine; decide, fun p3 hp3 => ?_⟩⟩⟩
      have n1 := Gr.new (B := B8) (.tup [w1, w2]) k8.e hp1
      have k9 := k8.gr n1
      have n2 := Gr.new (.lst [.ref p1]) k9.e hp2
      have k10 := k9.gr n2
      have n3 := Gr.new (.tup [.int 1, .int 1]) k10.e hp3
      have k11 := k10.gr n3
      have gg := (n1.trans n2).trans n3
      have hp' := hp.add hus hul hs
      have l1 : Lim 6 30 [(cf (onesL us), s)] := ⟨fun t ht => by rw [List.mem_singleton.mp ht]; exact hs.2.1, by rw [wt_cons]; show ab 6 s + 0 ≤ 30; have := hs.2.2; omega⟩
      have e1 : scP [(cf (onesL us), s)] 1 = [(cf (onesL us), s)] := by
        show [(cf (onesL us), s * 1)] = _
        rw [Rat.mul_one]
      have tw : ∀ k, k ≤ 1000 → k < 2 ^ 1000 := fun k h => Nat.lt_of_le_of_lt h (by decide +kernel)
      refine ⟨_, [fpP K p, LqP K (pqL K [(cf (onesL us), s)]), rtP K 1], fpP K (addP p [(cf (onesL us), s)]), k11.e, ⟨(fpP K p).m (g7.b.trans (g8.b.trans gg.b)) hf5, ⟨p2, _, rfl, sq_of (n3.b _ _ upd_same), ⟨?_, trivial⟩⟩, ?_, trivial⟩, ⟨6, 30 * (t + 1), p, [(cf (onesL us), s)], 1, by decide, tw _ (by decide), tw _ (by omega), ?_, fun z hz => ?_, ?_, hp.c.c.nd, ?_, rfl, ?_⟩, fun vr B9 H9 g9 hr9 => ?_⟩
      · exact ⟨p1, _, rfl, st_of ((n2.b.trans n3.b) _ _ upd_same), (moF K _).m (g8.b.trans gg.b) hw1, (rtP K s).m gg.b hw2, trivial⟩
      · exact ⟨p3, _, rfl, st_of upd_same, rfl, rfl, trivial⟩
      · rw [e1]
        exact (hp.lm.app l1).le (by omega)
      · rw [List.mem_singleton.mp hz]
        exact sm1_of (D := 6) (N := 30) (by decide) (tw _ (by decide)) (tw _ (by decide)) ⟨hs.2.1, hs.2.2⟩
      · exact ⟨tw _ (by decide), tw _ (by decide)⟩
      · have := hp.ln
        show _ + 1 ≤ 50000
        omega
      · rw [e1]
      · dsimp only [gName, List.set_cons_succ, List.set_cons_zero]
        refine ⟨B9, _, vr, _, _, _, (k11.gr g9).le (by omega), ((((g'.trans g4).trans g5).trans (GX.gr g7)).trans g8).trans (GX.gr (gg.trans g9)), hp', hr9, rfl⟩
  · obtain ⟨B', p, vf, x6, x7, x8, k', g', hp, hf, rfl⟩ := pv
    have hp5 : LP r 5 p := ⟨hp.c, hp.of, hp.dg, by have := hp.ln; omega, hp.lm.le (by omega), hp.o⟩
    refine My.ps_ret k'.e (p_var rfl hf) fun v B6 H6 g6 hv => ?_
    exact q p v B6 H6 hp5 ((k'.gr g6).le (by omega)) ((GX.gr g2).trans (g3.trans (g'.trans (GX.gr g6)))) hv

end
end K12
namespace Nd
set_option autoImplicit false
open PySem PySem.W L2 My Evl LamX NdefX
end Nd
namespace K12
set_option autoImplicit false
open PySem PySem.W L2 Evl My Nd LamX NdefX
section
variable {P : Program} {w : World} {K : PySem.W.Frag} {mg : Str → Option Value} {base : Heap} {T : List (Addr × Str)}


end
end K12
namespace K12
set_option autoImplicit false
open PySem PySem.W L2 Evl My Nd LamX NdefX
/-- _law_kinds -/
abbrev s_Lkinds : Stmt := topS 47
abbrev N_Lkinds : List Str := ["_law_error", "_law_kinds_here", "_law_kind", "_law_holds"]
theorem sc_Lkinds : FnScope N_Lkinds ["_law_error"] (defScope s_Lkinds) := ⟨rfl, rfl, rfl, by decide +kernel, rfl, by decide +kernel, by decide +kernel⟩
section
variable {P : Program} {w : World} {K : PySem.W.Frag} {mg : Str → Option Value} {base : Heap} {T : List (Addr × Str)}
theorem ok_Lkinds {f : Addr} {fd : FuncData} {cx : Nat → Addr} (F : Fun K "_law_kinds" "_law_kinds" s_Lkinds f fd) (T : XT K mg cx) : FnOk P w K mg base CX0 1 f fd ["_law_error"] (spKinds cx) := by
  refine F.ok sc_Lkinds (fun vs H Q E h => ?_) (fun cdv A outer s H vs Q E hr h => ?_)
  · obtain ⟨i, v, B, _, rfl, _⟩ := h
    rfl
  · obtain ⟨i, v, B, hi, rfl, eB, hv, q⟩ := h
    have hu := hu_of hr
    refine ⟨_, (pss_cons (ps_set (i := 1) sc_Lkinds.nd rfl (by first | exact .inl rfl | exact .inr rfl) (pe_lst (pa_cons (pe_tup (pa_cons pe_str (pa_cons (pe_callB call_xis (by rfl) T.n_isinstance (by decide +kernel) (pa_cons (pv 0) (pa_cons (pe_globR (by rfl) T.g_BadRow) pa_nil))) pa_nil))) (pa_cons (pe_tup (pa_cons pe_str (pa_cons (pe_callB call_xis (by rfl) T.n_isinstance (by decide +kernel) (pa_cons (pv 0) (pa_cons (pe_globR (by rfl) T.g_BadPolynomial) pa_nil))) pa_nil))) pa_nil))))
    (pss_cons (ps_set (i := 1) sc_Lkinds.nd rfl (by first | exact .inl rfl | exact .inr rfl) (pe_op op_cat (pv 1) (pe_lst (pa_cons (pe_tup (pa_cons pe_str (pa_cons (pe_callB call_xis (by rfl) T.n_isinstance (by decide +kernel) (pa_cons (pv 0) (pa_cons (pe_globR (by rfl) T.g_BadRanking) pa_nil))) pa_nil))) (pa_cons (pe_tup (pa_cons pe_str (pa_cons (pe_callB call_xis (by rfl) T.n_isinstance (by decide +kernel) (pa_cons (pv 0) (pa_cons (pe_globR (by rfl) T.g_BadChain) pa_nil))) pa_nil))) pa_nil)))))
    (pss_cons (ps_set (i := 1) sc_Lkinds.nd rfl (by first | exact .inl rfl | exact .inr rfl) (pe_op op_cat (pv 1) (pe_lst (pa_cons (pe_tup (pa_cons pe_str (pa_cons (pe_callB call_xis (by rfl) T.n_isinstance (by decide +kernel) (pa_cons (pv 0) (pa_cons (pe_globR (by rfl) T.g_BadData) pa_nil))) pa_nil))) (pa_cons (pe_tup (pa_cons pe_str (pa_cons (pe_callB call_xis (by rfl) T.n_isinstance (by decide +kernel) (pa_cons (pv 0) (pa_cons (pe_globR (by rfl) T.g_BadJet) pa_nil))) pa_nil))) pa_nil)))))
    (pss_cons (ps_set (i := 1) sc_Lkinds.nd rfl (by first | exact .inl rfl | exact .inr rfl) (pe_op op_cat (pv 1) (pe_lst (pa_cons (pe_tup (pa_cons pe_str (pa_cons (pe_callB call_xis (by rfl) T.n_isinstance (by decide +kernel) (pa_cons (pv 0) (pa_cons (pe_globR (by rfl) T.g_BadPaper) pa_nil))) pa_nil))) (pa_cons (pe_tup (pa_cons pe_str (pa_cons (pe_callB call_xis (by rfl) T.n_isinstance (by decide +kernel) (pa_cons (pv 0) (pa_cons (pe_globR (by rfl) T.g_Twice) pa_nil))) pa_nil))) pa_nil)))))
    (pss_cons (ps_set (i := 1) sc_Lkinds.nd rfl (by first | exact .inl rfl | exact .inr rfl) (pe_op op_cat (pv 1) (pe_lst (pa_cons (pe_tup (pa_cons pe_str (pa_cons (pe_callB call_xis (by rfl) T.n_isinstance (by decide +kernel) (pa_cons (pv 0) (pa_cons (pe_globR (by rfl) T.g_OutOfPlace) pa_nil))) pa_nil))) (pa_cons (pe_tup (pa_cons pe_str (pa_cons (pe_callB call_xis (by rfl) T.n_isinstance (by decide +kernel) (pa_cons (pv 0) (pa_cons (pe_globR (by rfl) T.g_TooGreat) pa_nil))) pa_nil))) pa_nil)))))
    (pss_cons (ps_set (i := 1) sc_Lkinds.nd rfl (by first | exact .inl rfl | exact .inr rfl) (pe_op op_cat (pv 1) (pe_lst (pa_cons (pe_tup (pa_cons pe_str (pa_cons (pe_callB call_xis (by rfl) T.n_isinstance (by decide +kernel) (pa_cons (pv 0) (pa_cons (pe_globR (by rfl) T.g_NoUnknown) pa_nil))) pa_nil))) (pa_cons (pe_tup (pa_cons pe_str (pa_cons (pe_callB call_xis (by rfl) T.n_isinstance (by decide +kernel) (pa_cons (pv 0) (pa_cons (pe_globR (by rfl) T.g_NoEquation) pa_nil))) pa_nil))) pa_nil)))))
    (pss_cons (ps_set (i := 1) sc_Lkinds.nd rfl (by first | exact .inl rfl | exact .inr rfl) (pe_op op_cat (pv 1) (pe_lst (pa_cons (pe_tup (pa_cons pe_str (pa_cons (pe_callB call_xis (by rfl) T.n_isinstance (by decide +kernel) (pa_cons (pv 0) (pa_cons (pe_globR (by rfl) T.g_NoCase) pa_nil))) pa_nil))) (pa_cons (pe_tup (pa_cons pe_str (pa_cons (pe_callB call_xis (by rfl) T.n_isinstance (by decide +kernel) (pa_cons (pv 0) (pa_cons (pe_globR (by rfl) T.g_Nothing) pa_nil))) pa_nil))) pa_nil)))))
    (pss_cons (ps_set (i := 1) sc_Lkinds.nd rfl (by first | exact .inl rfl | exact .inr rfl) (pe_op op_cat (pv 1) (pe_lst (pa_cons (pe_tup (pa_cons pe_str (pa_cons (pe_callB call_xis (by rfl) T.n_isinstance (by decide +kernel) (pa_cons (pv 0) (pa_cons (pe_globR (by rfl) T.g_Contradicted) pa_nil))) pa_nil))) (pa_cons (pe_tup (pa_cons pe_str (pa_cons (pe_callB call_xis (by rfl) T.n_isinstance (by decide +kernel) (pa_cons (pv 0) (pa_cons (pe_globR (by rfl) T.g_Knotted) pa_nil))) pa_nil))) pa_nil)))))
    (pss_cons (ps_set (i := 1) sc_Lkinds.nd rfl (by first | exact .inl rfl | exact .inr rfl) (pe_op op_cat (pv 1) (pe_lst (pa_cons (pe_tup (pa_cons pe_str (pa_cons (pe_callB call_xis (by rfl) T.n_isinstance (by decide +kernel) (pa_cons (pv 0) (pa_cons (pe_globR (by rfl) T.g_ChainError) pa_nil))) pa_nil))) (pa_cons (pe_tup (pa_cons pe_str (pa_cons (pe_callB call_xis (by rfl) T.n_isinstance (by decide +kernel) (pa_cons (pv 0) (pa_cons (pe_bltn (v := .ty "ValueError") (by rfl) T.n_ValueError (by decide +kernel) rfl) pa_nil))) pa_nil))) pa_nil)))))
    (pss_cons (ps_set (i := 1) sc_Lkinds.nd rfl (by first | exact .inl rfl | exact .inr rfl) (pe_op op_cat (pv 1) (pe_lst (pa_cons (pe_tup (pa_cons pe_str (pa_cons (pe_callB call_xis (by rfl) T.n_isinstance (by decide +kernel) (pa_cons (pv 0) (pa_cons (pe_globR (by rfl) T.g_MissError) pa_nil))) pa_nil))) (pa_cons (pe_tup (pa_cons pe_str (pa_cons (pe_callB call_xis (by rfl) T.n_isinstance (by decide +kernel) (pa_cons (pv 0) (pa_cons (pe_bltn (v := .ty "LookupError") (by rfl) T.n_LookupError (by decide +kernel) rfl) pa_nil))) pa_nil))) pa_nil)))))
    (pss_cons (ps_set (i := 1) sc_Lkinds.nd rfl (by first | exact .inl rfl | exact .inr rfl) (pe_op op_cat (pv 1) (pe_lst (pa_cons (pe_tup (pa_cons pe_str (pa_cons (pe_callB call_xis (by rfl) T.n_isinstance (by decide +kernel) (pa_cons (pv 0) (pa_cons (pe_globR (by rfl) T.g_CaseError) pa_nil))) pa_nil))) (pa_cons (pe_tup (pa_cons pe_str (pa_cons (pe_callB call_xis (by rfl) T.n_isinstance (by decide +kernel) (pa_cons (pv 0) (pa_cons (pe_bltn (v := .ty "RuntimeError") (by rfl) T.n_RuntimeError (by decide +kernel) rfl) pa_nil))) pa_nil))) pa_nil)))))
    (pss_one (ps_ret (pe_lc (own := [("_law_kind", 2), ("_law_holds", 3)]) (g := (gTup K 2 (gCons (gName 2) (gCons (gName 3) gNil)))) rfl sc_Lkinds.nd (pi_list (pv 1)) (blkOk_by (N := N_Lkinds) (sc := defScope s_Lkinds) (by decide +kernel)) (fun _ _ _ _ _ => (pg_tup (by rfl) (pgs_cons (pg_name (i := 2) sc_Lkinds.nd rfl (Or.inl rfl)) (pgs_cons (pg_name (i := 3) sc_Lkinds.nd rfl (Or.inl rfl)) pgs_nil)))) (fun _ _ _ _ _ => (pts_one (pt_val (pv 3)))) (fun _ _ _ _ _ => (pv 2)))))))))))))))), ?_⟩
    refine My.ps_asgN (fun z => [some v, some z, none, none]) eB (p_lst (q_cons (p_pair (c := .ref (cx 0)) T hi 0 (by decide) rfl hv (fun u r => r)) (q_cons (p_pair (c := .ref (cx 1)) T hi 1 (by decide) rfl hv (fun u r => r)) q_nil)) (by show 2 ≤ 100000; decide)) fun v0 B0 H0 g0 h0 => ?_
    have hv := (XK (cx i)).m g0.b hv
    refine My.ps_asgN (fun z => [some v, some z, none, none]) g0.c (p_cat (p_var rfl h0) (p_lst (q_cons (p_pair (c := .ref (cx 2)) T hi 2 (by decide) rfl hv (fun u r => r)) (q_cons (p_pair (c := .ref (cx 3)) T hi 3 (by decide) rfl hv (fun u r => r)) q_nil)) (by show 2 ≤ 100000; decide)) (by show 2 + 2 ≤ 100000; decide)) fun v1 B1 H1 k1 h1 => ?_
    have g1 := g0.trans k1
    have hv := (XK (cx i)).m k1.b hv
    refine My.ps_asgN (fun z => [some v, some z, none, none]) g1.c (p_cat (p_var rfl h1) (p_lst (q_cons (p_pair (c := .ref (cx 4)) T hi 4 (by decide) rfl hv (fun u r => r)) (q_cons (p_pair (c := .ref (cx 5)) T hi 5 (by decide) rfl hv (fun u r => r)) q_nil)) (by show 2 ≤ 100000; decide)) (by show 4 + 2 ≤ 100000; decide)) fun v2 B2 H2 k2 h2 => ?_
    have g2 := g1.trans k2
    have hv := (XK (cx i)).m k2.b hv
    refine My.ps_asgN (fun z => [some v, some z, none, none]) g2.c (p_cat (p_var rfl h2) (p_lst (q_cons (p_pair (c := .ref (cx 6)) T hi 6 (by decide) rfl hv (fun u r => r)) (q_cons (p_pair (c := .ref (cx 12)) T hi 7 (by decide) rfl hv (fun u r => r)) q_nil)) (by show 2 ≤ 100000; decide)) (by show 6 + 2 ≤ 100000; decide)) fun v3 B3 H3 k3 h3 => ?_
    have g3 := g2.trans k3
    have hv := (XK (cx i)).m k3.b hv
    refine My.ps_asgN (fun z => [some v, some z, none, none]) g3.c (p_cat (p_var rfl h3) (p_lst (q_cons (p_pair (c := .ref (cx 13)) T hi 8 (by decide) rfl hv (fun u r => r)) (q_cons (p_pair (c := .ref (cx 14)) T hi 9 (by decide) rfl hv (fun u r => r)) q_nil)) (by show 2 ≤ 100000; decide)) (by show 8 + 2 ≤ 100000; decide)) fun v4 B4 H4 k4 h4 => ?_
    have g4 := g3.trans k4
    have hv := (XK (cx i)).m k4.b hv
    refine My.ps_asgN (fun z => [some v, some z, none, none]) g4.c (p_cat (p_var rfl h4) (p_lst (q_cons (p_pair (c := .ref (cx 7)) T hi 10 (by decide) rfl hv (fun u r => r)) (q_cons (p_pair (c := .ref (cx 8)) T hi 11 (by decide) rfl hv (fun u r => r)) q_nil)) (by show 2 ≤ 100000; decide)) (by show 10 + 2 ≤ 100000; decide)) fun v5 B5 H5 k5 h5 => ?_
    have g5 := g4.trans k5
    have hv := (XK (cx i)).m k5.b hv
    refine My.ps_asgN (fun z => [some v, some z, none, none]) g5.c (p_cat (p_var rfl h5) (p_lst (q_cons (p_pair (c := .ref (cx 9)) T hi 12 (by decide) rfl hv (fun u r => r)) (q_cons (p_pair (c := .ref (cx 15)) T hi 13 (by decide) rfl hv (fun u r => r)) q_nil)) (by show 2 ≤ 100000; decide)) (by show 12 + 2 ≤ 100000; decide)) fun v6 B6 H6 k6 h6 => ?_
    have g6 := g5.trans k6
    have hv := (XK (cx i)).m k6.b hv
    refine My.ps_asgN (fun z => [some v, some z, none, none]) g6.c (p_cat (p_var rfl h6) (p_lst (q_cons (p_pair (c := .ref (cx 10)) T hi 14 (by decide) rfl hv (fun u r => r)) (q_cons (p_pair (c := .ref (cx 11)) T hi 15 (by decide) rfl hv (fun u r => r)) q_nil)) (by show 2 ≤ 100000; decide)) (by show 14 + 2 ≤ 100000; decide)) fun v7 B7 H7 k7 h7 => ?_
    have g7 := g6.trans k7
    have hv := (XK (cx i)).m k7.b hv
    refine My.ps_asgN (fun z => [some v, some z, none, none]) g7.c (p_cat (p_var rfl h7) (p_lst (q_cons (p_pair (c := .ref (cx 16)) T hi 16 (by decide) rfl hv (fun u r => r)) (q_cons (p_pair (c := .ty "ValueError") T hi 17 (by decide) rfl hv (fun u r => r)) q_nil)) (by show 2 ≤ 100000; decide)) (by show 16 + 2 ≤ 100000; decide)) fun v8 B8 H8 k8 h8 => ?_
    have g8 := g7.trans k8
    have hv := (XK (cx i)).m k8.b hv
    refine My.ps_asgN (fun z => [some v, some z, none, none]) g8.c (p_cat (p_var rfl h8) (p_lst (q_cons (p_pair (c := .ref (cx 17)) T hi 18 (by decide) rfl hv (fun u r => r)) (q_cons (p_pair (c := .ty "LookupError") T hi 19 (by decide) rfl hv (fun u r => r)) q_nil)) (by show 2 ≤ 100000; decide)) (by show 18 + 2 ≤ 100000; decide)) fun v9 B9 H9 k9 h9 => ?_
    have g9 := g8.trans k9
    have hv := (XK (cx i)).m k9.b hv
    refine My.ps_asgN (fun z => [some v, some z, none, none]) g9.c (p_cat (p_var rfl h9) (p_lst (q_cons (p_pair (c := .ref (cx 18)) T hi 20 (by decide) rfl hv (fun u r => r)) (q_cons (p_pair (c := .ty "RuntimeError") T hi 21 (by decide) rfl hv (fun u r => r)) q_nil)) (by show 2 ≤ 100000; decide)) (by show 20 + 2 ≤ 100000; decide)) fun v10 B10 H10 k10 h10 => ?_
    have g10 := g9.trans k10
    have hv := (XK (cx i)).m k10.b hv
    have hq : (LsP ((List.range 22).map (prPair K i))).P v10 B10 := h10
    refine My.ps_ret g10.c (p_lc (p_var rfl (lq_ls hq)) (by simp) (fun j => (kb i).getD j false) (fun j => IsV (.str (nmOf.getD j Str.empty))) ?_) fun u B' H' g h => ?_
    · rintro j p x B1 hj e1 hp
      have hj' : j < 22 := by
        have := (List.getElem?_eq_some_iff.mp hj).1
        simpa using this
      obtain rfl : p = prPair K i j := by
        rw [List.getElem?_map, List.getElem?_range hj'] at hj
        exact (Option.some.inj hj).symm
      obtain ⟨r, ys, rfl, hr, hys⟩ := hp
      match ys, hys with
      | [y, z], ⟨hy, hz, _⟩ =>
        obtain rfl : y = _ := hy
        obtain rfl : z = _ := hz
        refine ⟨_, ?_, fun H2 Q eH hQ => ⟨r, _, rfl, ex_t eH hr, rfl, _, _, rfl, _, _, rfl, rfl, hQ⟩, ?_, fun _ => p_ev (ev_var ?_)⟩
        · rfl
        · exact et_B (ev_var rfl)
        · rfl
    · refine q u B' H' (g10.trans g) ?_
      have e : (txts (kinds i)) = LsP (((List.range ((List.range 22).map (prPair K i)).length).filter fun j => (kb i).getD j false).map fun j => IsV (.str (nmOf.getD j Str.empty))) := by
        unfold txts kinds
        rw [List.map_map, List.length_map, List.length_range]
        rfl
      rw [e]
      exact h
end

end K12
namespace Nd
set_option autoImplicit false
open PySem PySem.Spec PySem.W PyProof.Rows L2 My Evl LamX NdefX
/-! ### plain texts alone -/
mutual
def asB : PyData → Bool
  | .str x => decide (x.length ≤ 100000) && x.cps.toList.all fun c => decide (c < 128)
  | .tuple xs => asAll xs
  | .list xs => asAll xs
  | _ => true
def asAll : List PyData → Bool
  | [] => true
  | x :: r => asB x && asAll r
end
mutual
theorem as_sm : ∀ {d : PyData}, asB d = true → smB d = true
  | .none, _ => smd_non
  | .bool _, _ => smd_bl
  | .int _, _ => smd_int
  | .str x, h => by
    unfold asB at h
    exact smd_str (of_decide_eq_true (Bool.and_eq_true_iff.mp h).1)
  | .tuple xs, h => by
    unfold smB
    exact as_smA (by simpa only [asB] using h)
  | .list xs, h => by
    unfold smB
    exact as_smA (by simpa only [asB] using h)
  | .dict _, _ => by rw [smB] <;> (intro _ z; cases z)
theorem as_smA : ∀ {ds : List PyData}, asAll ds = true → smAll ds = true
  | [], _ => by rw [smAll]
  | x :: r, h => by
    simp only [asAll, Bool.and_eq_true] at h
    rw [smAll, as_sm h.1, as_smA h.2]
    rfl
end
theorem as_mem : ∀ {xs : List PyData}, asAll xs = true → ∀ x ∈ xs, asB x = true
  | [], _, x, hx => absurd hx List.not_mem_nil
  | y :: r, h, x, hx => by
    simp only [asAll, Bool.and_eq_true] at h
    rcases List.mem_cons.mp hx with rfl | hx
    · exact h.1
    · exact as_mem h.2 x hx
theorem as_of : ∀ {xs : List PyData}, (∀ x ∈ xs, asB x = true) → asAll xs = true
  | [], _ => by rw [asAll]
  | y :: r, h => by
    rw [asAll, h y List.mem_cons_self, as_of fun x hx => h x (List.mem_cons_of_mem _ hx)]
    rfl
theorem as_tu {xs : List PyData} (h : asB (.tuple xs) = true) : ∀ x ∈ xs, asB x = true := as_mem (by simpa only [asB] using h)
theorem as_non : asB .none = true := by unfold asB; rfl
theorem as_it {d : PyData} (h : asB d = true) (k : Nat) : asB (it k d) = true := by
  cases d with
  | tuple xs =>
    show asB (xs.getD k .none) = true
    rw [List.getD_eq_getElem?_getD]
    cases e : xs[k]? with
    | none => exact as_non
    | some x => exact as_tu h x (List.mem_of_getElem? e)
  | _ => exact as_non
/-! ### x is True, x is False -/
def rIsBl : R2 := fun x y H Q => ∃ b, y = V.bl b ∧ Q (.bl (decide (x = V.bl b))) H
theorem op_isBlo {X : Cx} : OpR X (compareOp .Is) rIsBl := by
  intro pins s σ H x y v u Q I rx ry h
  obtain ⟨b, rfl, q⟩ := h
  cases (show u = Value.bool b from ry)
  have key : plainIs v (.bool b) = true ∧ (v == Value.bool b) = decide (x = V.bl b) := by
    cases x <;> first
      | (cases rx; exact ⟨rfl, rfl⟩)
      | (obtain ⟨t, rfl⟩ := rx; exact ⟨rfl, rfl⟩)
      | (rename_i c; cases (show v = Value.bool c from rx); cases c <;> cases b <;> exact ⟨rfl, rfl⟩)
  exact wpAny_is_plain key.1 (fin_bl I q key.2.symm)
def isI : PyData → Bool
  | .int _ => true
  | .bool _ => true
  | _ => false
def isBo : PyData → Bool
  | .bool _ => true
  | _ => false
def isSt : PyData → Bool
  | .str _ => true
  | _ => false
def bIs (b : Bool) : PyData → Bool
  | .bool c => decide (c = b)
  | _ => false
def amB (l : Int) (d : PyData) : Bool := wholeB d && decide (l ≤ intOf d)
def RamE (K : PySem.W.Frag) : List Pr → Pr → Prop := fun ps p => ∃ (q : Pr) (d : PyData) (l : Int), ToE K q d ∧ ps = [q, IsV (.int l)] ∧ p = IsV (.bl (amB l d))
def numB (d : PyData) : Bool := frB d && !decide (intOf (it 0 d) = 0)
/-- a pair whose bottom isn't too great to be taken apart -/
def RNm (K : PySem.W.Frag) : List Pr → Pr → Prop := fun ps p => ∃ (q : Pr) (d : PyData), ToE K q d ∧ (intOf (it 1 d)).natAbs < 2 ^ 4000 ∧ ps = [q] ∧ p = IsV (.bl (numB d))
def dueL : Option (Option Nat) → List PyData
  | none => []
  | some none => [.none]
  | some (some n) => [.int (n : Nat)]
def RdueE (K : PySem.W.Frag) : List Pr → Pr → Prop := fun ps p => ∃ (q : Pr) (d : PyData), ToE K q d ∧ asB d = true ∧ (∀ xs, d = .tuple xs → ∀ x ∈ xs, (intOf (it 1 (it 1 x))).natAbs < 2 ^ 4000) ∧ ps = [q] ∧ p = IsD K (.list (dueL (poAt d)))
/-- what stands ahead, at a place -/
def AtI (f : PyData → Bool) (xs : List PyData) (ah : Option PyData) (i : Nat) : Prop := (i = 0 → ah = none) ∧ ∀ k, i = k + 1 → ∃ hk : k < xs.length, ah = some (it 0 xs[k]) ∧ f xs[k] = true
def RBA (K : PySem.W.Frag) (f : PyData → Bool) : List Pr → Pr → Prop := fun ps p => ∃ (q : Pr) (d : PyData), ToE K q d ∧ asB d = true ∧ ps = [q] ∧ p = IsV (.bl (f d))
section
variable {K : PySem.W.Frag} {te ta tb : TE} {tc : TT} {σ : L2.St} {B H : Hp} {q : Pr} {d : PyData} {ds : List PyData} {v : V} {D : Ends} {p : Pr}
theorem ev_isBl {b : Bool} (h : EvP te σ B (IsE K d)) : Ev (tOp rIsBl te (tC (.bl b))) σ B (.bl (bIs b d)) := fun H1 a Q k =>
  h H1 a _ fun v B2 H2 g x => ⟨b, rfl, by
    have e : decide (v = V.bl b) = bIs b d := by
      cases (show De K B2 v d from x) with
      | bl c => cases c <;> cases b <;> rfl
      | _ => rfl
    rw [e]
    exact k H2 g.a⟩
theorem ev_isIE (h : EvP te σ B (IsE K d)) : Ev (tCB (rIsi K) (tCons te (tCons (tC (.ty "int")) tNil))) σ B (.bl (isI d)) := ev_isiE h (by cases d <;> (dsimp only [tyS, isI]; decide +kernel))
theorem ev_isBE (h : EvP te σ B (IsE K d)) : Ev (tCB (rIsi K) (tCons te (tCons (tC (.ty "bool")) tNil))) σ B (.bl (isBo d)) := ev_isiE h (by cases d <;> (dsimp only [tyS, isBo]; decide +kernel))
theorem ev_isSE (h : EvP te σ B (IsE K d)) : Ev (tCB (rIsi K) (tCons te (tCons (tC (.ty "str")) tNil))) σ B (.bl (isSt d)) := ev_isiE h (by cases d <;> (dsimp only [tyS, isSt]; decide +kernel))
theorem ev_nsign {c : Nat} {z : Str} (ha : Ev ta σ B (.str ⟨#[c]⟩)) (hb : Ev tb σ B (.str z)) : Ev (tOp (fun x y H Q => ∃ (c : Nat) (z : Str), x = .str ⟨#[c]⟩ ∧ y = .str z ∧ Q (.bl (!decide (c ∈ z.cps.toList))) H) ta tb) σ B (.bl (!decide (c ∈ z.cps.toList))) := fun H1 e Q q =>
  ha H1 e _ fun H2 e2 => hb H2 (e.trans e2) _ fun H3 e3 => ⟨c, z, rfl, rfl, q H3 (e2.trans e3)⟩
theorem sh_signs {x : Str} {l : List Nat} (h : ∀ i ∈ l, x.cps.getD i 0 < 128) : SeqAt.shaped (.list (l.map fun i => .str (oneS x i))) = true := by
  have c : PyData.canLayAll0 (l.map fun i => PyData.str (oneS x i)) = true ∧ PyData.depthAll (l.map fun i => PyData.str (oneS x i)) = 0 := by
    induction l with
    | nil => exact ⟨rfl, rfl⟩
    | cons i l ih =>
      obtain ⟨i1, i2⟩ := ih fun k hk => h k (List.mem_cons_of_mem _ hk)
      have h0 := h i List.mem_cons_self
      have ok : PyData.strOk (oneS x i) = true := by
        unfold PyData.strOk oneS
        rw [Array.all_eq_true']
        intro c hc
        obtain rfl : c = x.cps.getD i 0 := by simpa using hc
        generalize x.cps.getD i 0 = c at h0
        simp
        omega
      refine ⟨?_, ?_⟩
      · simp only [List.map_cons, PyData.canLayAll0, PyData.canLay0, ok, i1, Bool.and_self]
      · simp only [List.map_cons, PyData.depthAll, PyData.depth, i2]
        rfl
  unfold SeqAt.shaped
  rw [Bool.and_eq_true]
  refine ⟨by rw [PyData.canLay0]; exact c.1, ?_⟩
  refine _root_.decide_eq_true ?_
  rw [PyData.depth, c.2]
  decide
theorem eqv_frD (f g : Fr) : PyData.eqv (frD f) (frD g) = decide (f = g) := by
  obtain ⟨a, b⟩ := f
  obtain ⟨c, d⟩ := g
  unfold frD
  rw [Bool.eq_iff_iff]
  simp [PyData.eqv, PyData.eqvAll]
/-- not a tuple, or not of so many, or .. -/
theorem et_tupCE {n : Nat} {c : Bool} (h : EvP te σ B (IsE K d)) (hc : tupN n d = true → EvT tc σ B c) : EvT (tOr (tNot (tB (tCB (rIsi K) (tCons te (tCons (tC (.ty "tuple")) tNil))))) (tOr (tTest (tOp rNe (tCB (rLenS K) (tCons te tNil)) (tC (.int (n : Int))))) tc)) σ B (!tupN n d || c) := by
  cases ht : tupN n d with
  | false =>
    refine et_is (et_or (a := !isTu d) (b := true) (et_not (et_B (ev_isTuE h))) fun e => ?_) (by simp)
    obtain ⟨xs, rfl⟩ : ∃ xs, d = .tuple xs := by
      cases d <;> first | exact ⟨_, rfl⟩ | exact absurd e (by simp [isTu])
    refine et_or (a := true) (b := true) (et_is (et_test (ev_op (ev_lenE h (.inl rfl)) (ev_c (v := .int (n : Int))) (rv_ne rfl))) ?_) fun z => nomatch z
    have hne : xs.length ≠ n := by
      intro z
      rw [show tupN n (.tuple xs) = (xs.length == n) from rfl, z] at ht
      simp at ht
    have : ¬ V.int (xs.length : Int) = V.int (n : Int) := fun z => hne (by have := V.int.inj z; omega)
    rw [decide_eq_false this]
    rfl
  | true =>
    obtain ⟨xs, rfl, hl⟩ := tupN_ex ht
    refine et_is (et_or (a := false) (b := c) (et_is (et_not (et_B (ev_isTuE h))) rfl) fun _ => et_is (et_or (a := false) (b := c) (et_is (et_test (ev_op (ev_lenE h (.inl rfl)) ev_c (rv_ne rfl))) ?_) fun _ => hc ht) (by simp)) (by simp)
    rw [hl]
    simp
theorem p_it {n k : Nat} (h : EvP te σ B (IsE K d)) (ht : tupN n d = true) (hk : k < n) : EvP (tOp (rIxT K) te (tC (.int (k : Int)))) σ B (IsE K (it k d)) := by
  obtain ⟨xs, rfl, hl⟩ := tupN_ex ht
  refine p_ixT (K := K) (ps := xs.map (IsE K)) (h.imp fun v B1 _ x => tu_e x) p_c (atI_nat ?_)
  rw [List.getElem?_map, List.getElem?_eq_getElem (by omega)]
  show some (IsE K xs[k]) = some (IsE K (xs.getD k .none))
  rw [List.getD_eq_getElem?_getD, List.getElem?_eq_getElem (by omega)]
  rfl
theorem ev_am {l : Int} (h : EvP te σ B (IsE K d)) : Ev (tCall (spP (RamE K)) [] E0 (tCons te (tCons (tC (.int l)) tNil))) σ B (.bl (amB l d)) := ev_p (p_callP (ps := [IsE K d, IsV (.int l)]) (q_cons h (q_cons p_c q_nil)) ⟨_, d, l, to_idE, rfl, rfl⟩)
theorem et_ahL {ah : Option PyData} {y : V} {i : Nat} (hi : σ[i]? = some (some y)) (h : AhP K ah y B) (he : EvP te σ B (IsD K d)) (al : ∀ a, ah = some a → alike a d = true ∧ a.depth ≤ 50) :
    EvT (tAnd (tTest (tOp (fun x y H Q => y = V.non ∧ Q (.bl (!decide (x = V.non))) H) (tVar i) (tC .non))) (tNot (tTest (tOp (rLtD K) (tVar i) te)))) σ B (!ah.all fun a => dataLt a d) := by
  rcases h with ⟨rfl, rfl⟩ | ⟨a, rfl, ha, xs, rfl⟩
  · exact et_is (et_and (a := false) (b := false) (et_test (ev_notN (p_varV hi))) (fun z => nomatch z)) rfl
  · obtain ⟨r, rfl⟩ : ∃ r, y = .ref r := by cases ha; exact ⟨_, rfl⟩
    obtain ⟨a1, a2⟩ := al _ rfl
    exact et_is (et_and (a := true) (b := !dataLt (.tuple xs) d) (et_test (ev_notR hi)) fun _ => et_not (et_test (ev_ltD (K := K) (d := .tuple xs) (e := d) (p_var hi ha) he a1 (fun z => nomatch z) (by omega)))) rfl
end
end Nd
namespace K12
set_option autoImplicit false
open PySem PySem.W L2 Evl My Nd LamX NdefX
section
variable {P : Program} {w : World} {K : PySem.W.Frag} {mg : Str → Option Value} {base : Heap}

/-- _law_among -/
abbrev s_Lamong : Stmt := topS 48
abbrev N_Lamong : List Str := ["_law_thing", "_law_least"]
theorem sc_Lamong : FnScope N_Lamong ["_law_thing", "_law_least"] (defScope s_Lamong) := ⟨rfl, rfl, rfl, by decide +kernel, rfl, by decide +kernel, by decide +kernel⟩
theorem ok_Lamong {f : Addr} {fd : FuncData} (F : Fun K "_law_among" "_law_among" s_Lamong f fd)   (n_isinstance : mg "isinstance" = none) (n_int : mg "int" = none) (n_bool : mg "bool" = none)  :
    FnOk P w K mg base CX0 1 f fd ["_law_thing", "_law_least"] (spP (RamE K)) := by
  refine F.ok sc_Lamong (spP_len (by rintro _ _ ⟨_, _, _, _, rfl, rfl⟩; rfl)) (fun cdv A outer s H vs Q E hr h => ?_)
  obtain ⟨B, ps, p, eB, hv, ⟨qd, d, l, tq, rfl, rfl⟩, q⟩ := h
  obtain ⟨v, v1, rfl, h1, h2⟩ := all2 hv
  obtain rfl : v1 = _ := h2
  have hu := hu_of hr
  refine ⟨_, (pss_one (ps_ret (pe_and (pe_callB (show CallR _ (.builtin "isinstance") (rIsi K) from call_isi) (by rfl) n_isinstance (by decide +kernel) (pa_cons (pv 0) (pa_cons (pe_bltn (v := .ty "int") (u := .type "int") (by rfl) n_int (by decide +kernel) rfl) pa_nil))) (pe_and (pe_not (pe_callB (show CallR _ (.builtin "isinstance") (rIsi K) from call_isi) (by rfl) n_isinstance (by decide +kernel) (pa_cons (pv 0) (pa_cons (pe_bltn (v := .ty "bool") (u := .type "bool") (by rfl) n_bool (by decide +kernel) rfl) pa_nil)))) (pe_one (pe_cmpR op_ge (pv 0) (pv 1) (nomark _))))))), ?_⟩
  have hd : EvP (tVar 0) [some v, some (.int l)] B (IsE K d) := p_toE (p_var rfl h1) tq
  refine My.ps_ret eB (p_ev (v := .bl (amB l d)) (ev_is (ev_andV (a := isI d) (b := wholeB d && decide (l ≤ intOf d)) (ev_isIE hd) fun ei => ?_) ?_)) fun v B1 H1 g hp => q v B1 H1 g hp
  · refine ev_is (ev_andV (a := !isBo d) (b := decide (l ≤ intOf d)) (ev_notV (ev_isBE hd)) fun eb => ?_) ?_
    · cases d with
      | int i => exact ev_op (ev_inE hd) (ev_var rfl) rv_I0
      | bool b => exact absurd eb (by simp [isBo])
      | _ => exact absurd ei (by simp [isI])
    · cases d with
      | int i => rfl
      | bool b => rfl
      | _ => exact absurd ei (by simp [isI])
  · show V.bl (isI d && amB l d) = V.bl (amB l d)
    unfold amB
    cases d <;> rfl

/-- _law_is_derivative -/
abbrev s_Lis_derivative : Stmt := topS 49
abbrev N_Lis_derivative : List Str := ["_law_thing", "_law_sign"]
theorem sc_Lis_derivative : FnScope N_Lis_derivative ["_law_thing"] (defScope s_Lis_derivative) := ⟨rfl, rfl, rfl, by decide +kernel, rfl, by decide +kernel, by decide +kernel⟩
theorem ok_Lis_derivative {f : Addr} {fd : FuncData} (F : Fun K "_law_is_derivative" "_law_is_derivative" s_Lis_derivative f fd)  {f_Lamong : Addr} {d_Lamong : FuncData} (c_Lamong : Cal P w K mg base "_law_among" 1 ["_law_thing", "_law_least"] (spP (RamE K)) f_Lamong d_Lamong) (n_isinstance : mg "isinstance" = none) (n_tuple : mg "tuple" = none) (n_len : mg "len" = none) (n_str : mg "str" = none)  :
    FnOk P w K mg base CX0 2 f fd ["_law_thing"] (spP (RBA K dvB)) := by
  refine F.ok sc_Lis_derivative (spP_len (by rintro _ _ ⟨_, _, _, _, rfl, rfl⟩; rfl)) (fun cdv A outer s H vs Q E hr h => ?_)
  obtain ⟨B, ps, p, eB, hv, ⟨qd, d, tq, hs, rfl, rfl⟩, q⟩ := h
  obtain ⟨v, rfl, h1⟩ := all1 hv
  have hu := hu_of hr
  refine ⟨_, (pss_cons (ps_if (PW.pt (pw_or (pt_not (pt_val (pe_callB (show CallR _ (.builtin "isinstance") (rIsi K) from call_isi) (by rfl) n_isinstance (by decide +kernel) (pa_cons (pv 0) (pa_cons (pe_bltn (v := .ty "tuple") (u := .type "tuple") (by rfl) n_tuple (by decide +kernel) rfl) pa_nil))))) (pw_or (pt_cmpR op_ne (pe_callB call_len_seq (by rfl) n_len (by decide +kernel) (pa_cons (pv 0) pa_nil)) pe_int (nomark _)) (pw_or1 (pt_not (pt_val (pe_callB (show CallR _ (.builtin "isinstance") (rIsi K) from call_isi) (by rfl) n_isinstance (by decide +kernel) (pa_cons (pe_ix (show IxR _ (rIxT K) from ix_tup) (pv 0) pe_int (fun _ _ => rfl)) (pa_cons (pe_bltn (v := .ty "str") (u := .type "str") (by rfl) n_str (by decide +kernel) rfl) pa_nil))))))))) (pss_one (ps_ret pe_bl)) pss_nil)
    (pss_cons (ps_if (PW.pt (pw_or (pt_not (pt_chain op_lt op_lt pe_int (pe_callB call_len_str (by rfl) n_len (by decide +kernel) (pa_cons (pe_ix (show IxR _ (rIxT K) from ix_tup) (pv 0) pe_int (fun _ _ => rfl)) pa_nil)) pe_int)) (pw_or1 (pt_cmpR (op_neD hr.units) (pe_lc (own := [("_law_sign", 1)]) rfl sc_Lis_derivative.nd (pi_str (pe_ix (show IxR _ (rIxT K) from ix_tup) (pv 0) pe_int (fun _ _ => rfl))) (blkOk_by (N := N_Lis_derivative) (sc := defScope s_Lis_derivative) (by decide +kernel)) (fun _ _ _ _ _ => (pg_name (i := 1) sc_Lis_derivative.nd rfl (Or.inl rfl))) (fun _ _ _ _ _ => (pts_one (pt_cmpR op_notIn_sign (pv 1) pe_str (by rfl)))) (fun _ _ _ _ _ => (pv 1))) (pe_lst pa_nil) (nomark _))))) (pss_one (ps_ret pe_bl)) pss_nil)
    (pss_one (ps_ret (pe_and (pe_call c_Lamong.G (hr.mono (by decide)) (by rfl) c_Lamong.m c_Lamong.k c_Lamong.b .nil pass0 (pa_cons (pe_ix (show IxR _ (rIxT K) from ix_tup) (pv 0) pe_int (fun _ _ => rfl)) (pa_cons pe_int pa_nil))) (pe_one (pe_call c_Lamong.G (hr.mono (by decide)) (by rfl) c_Lamong.m c_Lamong.k c_Lamong.b .nil pass0 (pa_cons (pe_ix (show IxR _ (rIxT K) from ix_tup) (pv 0) pe_int (fun _ _ => rfl)) (pa_cons pe_int pa_nil))))))))), ?_⟩
  have hd : De K B v d := tq _ _ h1
  have ev : ∀ x, EvP (tVar 0) [some v, x] B (IsE K d) := fun _ => p_var rfl hd
  have t1 : EvT _ [some v, none] B _ := et_tupCE (n := 3) (ev none) fun ht => et_not (et_B (ev_isSE (p_it (k := 0) (ev none) ht (by decide))))
  have e1 : dvB d = (tupN 3 d && (nameB (it 0 d) && (amB 0 (it 1 d) && amB 0 (it 2 d)))) := by
    unfold dvB amB
    cases tupN 3 d <;> cases nameB (it 0 d) <;> cases wholeB (it 1 d) <;> cases wholeB (it 2 d) <;> simp
  cases c1 : tupN 3 d && isSt (it 0 d) with
  | false =>
    refine My.ps_ifT eB (et_is t1 (by revert c1; cases tupN 3 d <;> cases isSt (it 0 d) <;> simp)) fun H1 e1' => ?_
    refine My.ps_ret (eB.trans e1') (p_c (v := .bl false)) fun v B1 H2 g hp => q v B1 H2 ((Gr.wide eB e1').trans g) ?_
    have : dvB d = false := by
      rw [e1]
      cases h0 : tupN 3 d with
      | false => rfl
      | true =>
        rw [h0, Bool.true_and] at c1
        have : nameB (it 0 d) = false := by
          revert c1
          cases it 0 d <;> first | (intro _; rfl) | (intro z; simp [isSt] at z)
        rw [this]
        rfl
    rw [this]
    exact hp
  | true =>
    refine ps_ifN eB (et_is t1 (by revert c1; cases tupN 3 d <;> cases isSt (it 0 d) <;> simp)) fun H1 e1' => ?_
    dsimp only
    rw [Bool.and_eq_true] at c1
    obtain ⟨ht, hst⟩ := c1
    obtain ⟨x, hx⟩ : ∃ x, it 0 d = .str x := by
      revert hst
      cases it 0 d <;> first | (intro _; exact ⟨_, rfl⟩) | (intro z; simp [isSt] at z)
    have ha := as_it hs 0
    rw [hx] at ha
    unfold asB at ha
    rw [Bool.and_eq_true, List.all_eq_true] at ha
    obtain ⟨hl, hc⟩ := ha
    have hl : x.length ≤ 100000 := of_decide_eq_true hl
    have ex : ∀ s, Ev (tOp (rIxT K) (tVar 0) (tC (.int 0))) [some v, s] B (.str x) := fun s => by
      have := p_it (k := 0) (ev s) ht (by decide)
      rw [hx] at this
      exact ev_p (this.imp fun v B1 _ y => by cases (show De K B1 v (.str x) from y); rfl)
    have hcs : ∀ i, i < x.cps.size → x.cps.getD i 0 < 128 := fun i hi => by
      have : x.cps.getD i 0 ∈ x.cps.toList := by
        rw [Array.getD_eq_getD_getElem?, Array.getElem?_eq_getElem hi]
        exact Array.mem_toList_iff.mpr (Array.getElem_mem hi)
      exact of_decide_eq_true (hc _ this)
    have signs : EvP (tLc (iStr (tOp (rIxT K) (tVar 0) (tC (.int 0)))) (gName 1) (tTest (tOp (fun x y H Q => ∃ (c : Nat) (z : Str), x = .str ⟨#[c]⟩ ∧ y = .str z ∧ Q (.bl (!decide (c ∈ z.cps.toList))) H) (tVar 1) (tC (.str "abcdefghijklmnopqrstuvwxyz")))) (tVar 1) [1]) [some v, none] B (LsP (((List.range x.cps.size).filter fun i => !decide (x.cps.getD i 0 ∈ (Str.ofString "abcdefghijklmnopqrstuvwxyz").cps.toList)).map fun i => IsV (.str (oneS x i)))) := by
      refine p_lcS (src_str (x := x) (ex none)) (by show x.length ≤ _; omega) (fun i => !decide (x.cps.getD i 0 ∈ (Str.ofString "abcdefghijklmnopqrstuvwxyz").cps.toList)) (fun i => IsV (.str (oneS x i))) fun i v1 B1 hi e pv => ?_
      obtain rfl : v1 = .str (oneS x i) := pv
      exact ⟨[some v, some (.str (oneS x i))], rfl, fun H2 Q e q => q, et_test (ev_nsign (c := x.cps.getD i 0) (z := "abcdefghijklmnopqrstuvwxyz") (ev_var rfl) ev_c), fun _ => p_varV rfl⟩
    have t2 : EvT _ [some v, none] B (!nameB (.str x)) := et_is (et_or (a := !(decide ((0 : Int) < (x.length : Int)) && decide ((x.length : Int) < 9))) (b := !((List.range x.cps.size).filter fun i => !decide (x.cps.getD i 0 ∈ (Str.ofString "abcdefghijklmnopqrstuvwxyz").cps.toList)).isEmpty) (et_not (et_test (ev_chain (r1 := fun i j => decide (i < j)) (r2 := fun i j => decide (i < j)) ev_c (ev_lenS (x := x) (ex none) hl) ev_c))) fun _ => by
      have := ev_neD (K := K) (p_to signs (to_lst (toAll_map _ fun i => to_str))) (p_to (p_lst (ps := []) q_nil (by show 0 ≤ 100000; decide)) (to_lst .nil)) (sh_signs fun i hi => hcs i (List.mem_range.mp (List.mem_filter.mp hi).1)) rfl
      rw [eqv_nil, List.isEmpty_map] at this
      exact et_test this) (by
      show _ = !(decide (1 ≤ x.length) && decide (x.length ≤ 8) && x.cps.toList.all fun c => decide (97 ≤ c) && decide (c ≤ 122))
      have e2 : (decide ((0 : Int) < (x.length : Int)) && decide ((x.length : Int) < 9)) = (decide (1 ≤ x.length) && decide (x.length ≤ 8)) := by
        congr 1 <;> (apply decide_eq_decide.mpr; omega)
      have e3 : ((List.range x.cps.size).filter fun i => !decide (x.cps.getD i 0 ∈ (Str.ofString "abcdefghijklmnopqrstuvwxyz").cps.toList)).isEmpty = x.cps.toList.all fun c => decide (97 ≤ c) && decide (c ≤ 122) := by
        rw [← all_cps x fun c => decide (97 ≤ c) && decide (c ≤ 122), Bool.eq_iff_iff, List.isEmpty_iff, List.filter_eq_nil_iff, List.all_eq_true]
        constructor
        · intro h y hy
          obtain ⟨i, hi, rfl⟩ := List.mem_map.mp hy
          have := h i hi
          rw [low_let] at this
          simpa using this
        · intro h i hi
          have := h _ (List.mem_map.mpr ⟨i, hi, rfl⟩)
          rw [low_let]
          simpa using this
      rw [e2, e3]
      cases (decide (1 ≤ x.length) && decide (x.length ≤ 8)) <;> simp)
    have e4 : dvB d = (nameB (.str x) && (amB 0 (it 1 d) && amB 0 (it 2 d))) := by rw [e1, ht, hx]; rfl
    cases c2 : nameB (.str x) with
    | false =>
      refine My.ps_ifT (eB.trans e1') (et_is t2 (by rw [c2]; rfl)) fun H3 e3 => ?_
      refine My.ps_ret ((eB.trans e1').trans e3) (p_c (v := .bl false)) fun v B1 H2 g hp => q v B1 H2 ((Gr.wide eB (e1'.trans e3)).trans g) ?_
      rw [e4, c2]
      exact hp
    | true =>
      refine ps_ifN (eB.trans e1') (et_is t2 (by rw [c2]; rfl)) fun H3 e3 => ?_
      dsimp only
      refine My.ps_ret ((eB.trans e1').trans e3) (p_ev (v := .bl (dvB d)) (ev_is (ev_andV (a := amB 0 (it 1 d)) (b := amB 0 (it 2 d)) (ev_am (p_it (k := 1) (ev none) ht (by decide))) fun _ => ev_am (p_it (k := 2) (ev none) ht (by decide))) (by rw [e4, c2]; rfl))) fun v B1 H2 g hp => q v B1 H2 ((Gr.wide eB (e1'.trans e3)).trans g) hp

/-- _law_is_monomial -/
abbrev s_Lis_monomial : Stmt := topS 50
abbrev N_Lis_monomial : List Str := ["_law_thing", "_law_last", "_law_pair"]
theorem sc_Lis_monomial : FnScope N_Lis_monomial ["_law_thing"] (defScope s_Lis_monomial) := ⟨rfl, rfl, rfl, by decide +kernel, rfl, by decide +kernel, by decide +kernel⟩
theorem ok_Lis_monomial {f : Addr} {fd : FuncData} (F : Fun K "_law_is_monomial" "_law_is_monomial" s_Lis_monomial f fd)  {f_Lis_derivative : Addr} {d_Lis_derivative : FuncData} (c_Lis_derivative : Cal P w K mg base "_law_is_derivative" 2 ["_law_thing"] (spP (RBA K dvB)) f_Lis_derivative d_Lis_derivative) {f_Lamong : Addr} {d_Lamong : FuncData} (c_Lamong : Cal P w K mg base "_law_among" 1 ["_law_thing", "_law_least"] (spP (RamE K)) f_Lamong d_Lamong) (n_isinstance : mg "isinstance" = none) (n_tuple : mg "tuple" = none) (n_len : mg "len" = none)  :
    FnOk P w K mg base CX0 3 f fd ["_law_thing"] (spP (RBA K moB)) := by
  refine F.ok sc_Lis_monomial (spP_len (by rintro _ _ ⟨_, _, _, _, rfl, rfl⟩; rfl)) (fun cdv A outer s H vs Q E hr h => ?_)
  obtain ⟨B, ps, p, eB, hv, ⟨qd, d, tq, hs, rfl, rfl⟩, q⟩ := h
  obtain ⟨v, rfl, h1⟩ := all1 hv
  have hu := hu_of hr
  refine ⟨_, (pss_cons (ps_if (pt_not (pt_val (pe_callB (show CallR _ (.builtin "isinstance") (rIsi K) from call_isi) (by rfl) n_isinstance (by decide +kernel) (pa_cons (pv 0) (pa_cons (pe_bltn (v := .ty "tuple") (u := .type "tuple") (by rfl) n_tuple (by decide +kernel) rfl) pa_nil))))) (pss_one (ps_ret pe_bl)) pss_nil)
    (pss_cons (ps_set (i := 1) sc_Lis_monomial.nd rfl (by first | exact .inl rfl | exact .inr rfl) pe_non)
    (pss_cons (ps_for PassesOwn.never rfl (pi_tup (pv 0)) (pg_name (i := 2) sc_Lis_monomial.nd rfl (by first | exact .inl rfl | exact .inr rfl))
      (pss_cons (ps_if (PW.pt (pw_or (pt_not (pt_val (pe_callB (show CallR _ (.builtin "isinstance") (rIsi K) from call_isi) (by rfl) n_isinstance (by decide +kernel) (pa_cons (pv 2) (pa_cons (pe_bltn (v := .ty "tuple") (u := .type "tuple") (by rfl) n_tuple (by decide +kernel) rfl) pa_nil))))) (pw_or (pt_cmpR op_ne (pe_callB call_len_seq (by rfl) n_len (by decide +kernel) (pa_cons (pv 2) pa_nil)) pe_int (nomark _)) (pw_or1 (pt_not (pt_val (pe_call c_Lis_derivative.G (hr.mono (by decide)) (by rfl) c_Lis_derivative.m c_Lis_derivative.k c_Lis_derivative.b .nil pass0 (pa_cons (pe_ix (show IxR _ (rIxT K) from ix_tup) (pv 2) pe_int (fun _ _ => rfl)) pa_nil)))))))) (pss_one (ps_ret pe_bl)) pss_nil)
    (pss_cons (ps_if (PW.pt (pw_or (pt_not (pt_val (pe_call c_Lamong.G (hr.mono (by decide)) (by rfl) c_Lamong.m c_Lamong.k c_Lamong.b .nil pass0 (pa_cons (pe_ix (show IxR _ (rIxT K) from ix_tup) (pv 2) pe_int (fun _ _ => rfl)) (pa_cons pe_int pa_nil))))) (pw_or1 (PW.pt (pw_and (pt_cmpR op_notN (pv 1) pe_non (nomark _)) (pw_and1 (pt_not (pt_cmpR (op_ltD (by have h := hr.un; show (A.deeper _).units + 65 < cLine; omega)) (pv 1) (pe_ix (show IxR _ (rIxT K) from ix_tup) (pv 2) pe_int (fun _ _ => rfl)) (nomark _))))))))) (pss_one (ps_ret pe_bl)) pss_nil)
    (pss_one (ps_set (i := 1) sc_Lis_monomial.nd rfl (by first | exact .inl rfl | exact .inr rfl) (pe_ix (show IxR _ (rIxT K) from ix_tup) (pv 2) pe_int (fun _ _ => rfl)))))))
    (pss_one (ps_ret pe_bl))))), ?_⟩
  have hd : De K B v d := tq _ _ h1
  by_cases hx : ∃ xs, d = .tuple xs
  rotate_left
  · have hn : isTu d = false ∧ moB d = false := by cases d <;> first | exact ⟨rfl, rfl⟩ | exact absurd ⟨_, rfl⟩ hx
    refine My.ps_ifT eB (et_is (et_not (et_B (ev_isTuE (p_var (p := IsE K d) rfl hd)))) (by rw [hn.1]; rfl)) fun H1 e1 => ?_
    refine My.ps_ret (eB.trans e1) (p_c (v := .bl false)) fun v B1 H2 g hp => q v B1 H2 ((Gr.wide eB e1).trans g) ?_
    rw [hn.2]
    exact hp
  obtain ⟨xs, rfl⟩ := hx
  refine ps_ifN eB (et_is (et_not (et_B (ev_isTuE (p_var (p := IsE K (.tuple xs)) rfl hd)))) rfl) fun H1 e1 => ?_
  dsimp only
  refine ps_asgN (fun x => [some v, some x, none]) (eB.trans e1) (p_c (v := .non)) (fun x B2 H2 g2 hx => ?_) (fun _ => rfl)
  obtain rfl : x = .non := hx
  dsimp only
  refine ps_forS g2.c (src_tu (p_var rfl (tu_e (de_m g2.b hd)))) fun B3 H3 g3 => ?_
  refine ⟨fun i σ H4 => ∃ B4, Gr B3 H3 B4 H4 ∧ ∃ x y ah, σ = [some v, some y, x] ∧ AhP K ah y B4 ∧ (∀ a, ah = some a → ∃ u : Dv, a = u.D) ∧ chainB pwB none xs = chainB pwB ah (xs.drop i), ⟨B3, Gr.refl g3.c, none, .non, none, rfl, .inl ⟨rfl, rfl⟩, (fun _ z => nomatch z), rfl⟩, fun i σ H4 _ h => ?_, fun i v2 σ H4 hi pv px => ?_, fun σ H4 pv => ?_⟩
  · obtain ⟨B4, g4, _⟩ := h
    exact g4.b.trans g4.c
  · obtain ⟨B4, g4, x, y, ah, rfl, ha, hu, hc⟩ := pv
    rw [List.length_map] at hi
    rw [getD_map hi] at px
    have px4 := de_m g4.b (show De K B3 v2 xs[i] from px)
    have sx := as_tu hs xs[i] (List.getElem_mem hi)
    rw [List.drop_eq_getElem_cons hi, chainB] at hc
    have ev3 : EvP (tVar 2) [some v, some y, some v2] B4 (IsE K xs[i]) := p_var rfl px4
    have epw : pwB xs[i] = (tupN 2 xs[i] && (dvB (it 0 xs[i]) && amB 1 (it 1 xs[i]))) := by
      unfold pwB amB
      rw [show decide (0 < intOf (it 1 xs[i])) = decide (1 ≤ intOf (it 1 xs[i])) from decide_eq_decide.mpr (by omega)]
    have no : ∀ {H5 : Hp}, Ex H4 H5 → (pwB xs[i] && (ah.all fun a => dataLt a (it 0 xs[i]))) = false → (∀ v5 B5 H6, Gr B4 H5 B5 H6 → (IsV (.bl false)).P v5 B5 → Q v5 H6) := fun {H5} e5 hf v5 B5 H6 g5 hv5 => q v5 B5 H6 ((((Gr.wide eB e1).trans g2).trans (g3.trans (g4.trans (Gr.wide g4.c e5)))).trans g5) (by
      rw [show moB (.tuple xs) = false from by show chainB pwB none xs = false; rw [hc, ← Bool.and_assoc, hf]; rfl]
      exact hv5)
    have t1 : EvT _ [some v, some y, some v2] B4 _ := et_tupCE (n := 2) ev3 fun ht => et_not (et_B (ev_p (p_callP (R := RBA K dvB) (p := IsV (.bl (dvB (it 0 xs[i])))) (ps := [IsE K (it 0 xs[i])]) (q_cons (p_it (k := 0) ev3 ht (by decide)) q_nil) ⟨_, _, to_idE, as_it sx 0, rfl, rfl⟩)))
    cases c1 : tupN 2 xs[i] && dvB (it 0 xs[i]) with
    | false =>
      refine My.ps_ifT g4.c (et_is t1 (by revert c1; cases tupN 2 xs[i] <;> cases dvB (it 0 xs[i]) <;> simp)) fun H5 e5 => ?_
      exact My.ps_ret (g4.c.trans e5) (p_c (v := .bl false)) (no e5 (by rw [epw, ← Bool.and_assoc, c1]; rfl))
    | true =>
      refine ps_ifN g4.c (et_is t1 (by revert c1; cases tupN 2 xs[i] <;> cases dvB (it 0 xs[i]) <;> simp)) fun H5 e5 => ?_
      dsimp only
      rw [Bool.and_eq_true] at c1
      obtain ⟨ht, hf⟩ := c1
      obtain ⟨u, hu0, _⟩ := dvB_ex hf
      have it0 : EvP (tOp (rIxT K) (tVar 2) (tC (.int 0))) [some v, some y, some v2] B4 (IsD K u.D) := by
        have := p_it (k := 0) ev3 ht (by decide)
        rw [hu0] at this
        exact p_eD this (by simp [Dv.D, PyData.hasDict, PyData.hasDictAll])
      have test := et_ahL (K := K) (d := u.D) (σ := [some v, some y, some v2]) (i := 1) rfl ha it0 (fun a ea => by obtain ⟨u', rfl⟩ := hu a ea; exact ⟨alike_dv _ _, by rw [deep_dv]; omega⟩)
      have t2 := et_or (a := !amB 1 (it 1 xs[i])) (b := !ah.all fun a => dataLt a u.D) (et_not (et_B (ev_am (l := 1) (p_it (k := 1) ev3 ht (by decide))))) fun _ => test
      cases c2 : amB 1 (it 1 xs[i]) && (ah.all fun a => dataLt a u.D) with
      | false =>
        refine My.ps_ifT (g4.c.trans e5) (et_is t2 (by revert c2; cases amB 1 (it 1 xs[i]) <;> cases (ah.all fun a => dataLt a u.D) <;> simp)) fun H6 e6 => ?_
        exact My.ps_ret ((g4.c.trans e5).trans e6) (p_c (v := .bl false)) (no (e5.trans e6) (by rw [epw, ht, hf, hu0, Bool.true_and, Bool.true_and, c2]))
      | true =>
        refine ps_ifN (g4.c.trans e5) (et_is t2 (by revert c2; cases amB 1 (it 1 xs[i]) <;> cases (ah.all fun a => dataLt a u.D) <;> simp)) fun H6 e6 => ?_
        dsimp only
        refine ps_asgN (fun x => [some v, some x, some v2]) ((g4.c.trans e5).trans e6) it0 (fun x7 B7 H7 g7 hx7 => ?_) (fun _ => rfl)
        refine ⟨B7, (g4.trans (Gr.wide g4.c (e5.trans e6))).trans g7, some v2, x7, some u.D, rfl, .inr ⟨_, rfl, hx7, _, rfl⟩, (fun a ea => by cases ea; exact ⟨_, rfl⟩), ?_⟩
        rw [hc, epw, ht, hf, hu0, Bool.true_and, Bool.true_and, ← Bool.and_assoc, c2]
        rfl
  · obtain ⟨B4, g4, x, y, ah, rfl, ha, hu, hc⟩ := pv
    dsimp only
    refine My.ps_ret g4.c (p_c (v := .bl true)) fun v5 B5 H5 g5 hp => ?_
    refine q v5 B5 H5 ((((Gr.wide eB e1).trans g2).trans (g3.trans g4)).trans g5) ?_
    rw [show moB (.tuple xs) = true from by show chainB pwB none xs = true; rw [hc, List.drop_eq_nil_of_le (by rw [List.length_map]; exact Nat.le_refl _)]; rfl]
    exact hp

/-- _law_is_number -/
abbrev s_Lis_number : Stmt := topS 51
abbrev N_Lis_number : List Str := ["_law_thing"]
theorem sc_Lis_number : FnScope N_Lis_number ["_law_thing"] (defScope s_Lis_number) := ⟨rfl, rfl, rfl, by decide +kernel, rfl, by decide +kernel, by decide +kernel⟩
theorem ok_Lis_number {f : Addr} {fd : FuncData} (F : Fun K "_law_is_number" "_law_is_number" s_Lis_number f fd)  {f_Lamong : Addr} {d_Lamong : FuncData} (c_Lamong : Cal P w K mg base "_law_among" 1 ["_law_thing", "_law_least"] (spP (RamE K)) f_Lamong d_Lamong) {f_Llowest : Addr} {d_Llowest : FuncData} (c_Llowest : Cal P w K mg base "_law_lowest" 1 ["_law_top", "_law_bottom"] (spP (Rlow2 K)) f_Llowest d_Llowest) (n_isinstance : mg "isinstance" = none) (n_tuple : mg "tuple" = none) (n_len : mg "len" = none) (n_int : mg "int" = none)  :
    FnOk P w K mg base CX0 2 f fd ["_law_thing"] (spP (RNm K)) := by
  refine F.ok sc_Lis_number (spP_len (by rintro _ _ ⟨_, _, _, _, rfl, rfl⟩; rfl)) (fun cdv A outer s H vs Q E hr h => ?_)
  obtain ⟨B, ps, p, eB, hv, ⟨qd, d, tq, hs, rfl, rfl⟩, q⟩ := h
  obtain ⟨v, rfl, h1⟩ := all1 hv
  have hu := hu_of hr
  refine ⟨_, (pss_cons (ps_if (PW.pt (pw_or (pt_not (pt_val (pe_callB (show CallR _ (.builtin "isinstance") (rIsi K) from call_isi) (by rfl) n_isinstance (by decide +kernel) (pa_cons (pv 0) (pa_cons (pe_bltn (v := .ty "tuple") (u := .type "tuple") (by rfl) n_tuple (by decide +kernel) rfl) pa_nil))))) (pw_or (pt_cmpR op_ne (pe_callB call_len_seq (by rfl) n_len (by decide +kernel) (pa_cons (pv 0) pa_nil)) pe_int (nomark _)) (pw_or (pt_cmpR op_isBlo (pe_ix (show IxR _ (rIxT K) from ix_tup) (pv 0) pe_int (fun _ _ => rfl)) pe_bl (nomark _)) (pw_or1 (pt_cmpR op_isBlo (pe_ix (show IxR _ (rIxT K) from ix_tup) (pv 0) pe_int (fun _ _ => rfl)) pe_bl (nomark _))))))) (pss_one (ps_ret pe_bl)) pss_nil)
    (pss_cons (ps_if (PW.pt (pw_or (pt_not (pt_val (pe_callB (show CallR _ (.builtin "isinstance") (rIsi K) from call_isi) (by rfl) n_isinstance (by decide +kernel) (pa_cons (pe_ix (show IxR _ (rIxT K) from ix_tup) (pv 0) pe_int (fun _ _ => rfl)) (pa_cons (pe_bltn (v := .ty "int") (u := .type "int") (by rfl) n_int (by decide +kernel) rfl) pa_nil))))) (pw_or (pt_not (pt_val (pe_call c_Lamong.G (hr.mono (by decide)) (by rfl) c_Lamong.m c_Lamong.k c_Lamong.b .nil pass0 (pa_cons (pe_ix (show IxR _ (rIxT K) from ix_tup) (pv 0) pe_int (fun _ _ => rfl)) (pa_cons pe_int pa_nil))))) (pw_or1 (pt_cmpR op_eq (pe_ix (show IxR _ (rIxT K) from ix_tup) (pv 0) pe_int (fun _ _ => rfl)) pe_int (nomark _)))))) (pss_one (ps_ret pe_bl)) pss_nil)
    (pss_one (ps_ret (pe_cmpR (op_eqD hr.units) (pe_call c_Llowest.G (hr.mono (by decide)) (by rfl) c_Llowest.m c_Llowest.k c_Llowest.b .nil pass0 (pa_cons (pe_ix (show IxR _ (rIxT K) from ix_tup) (pv 0) pe_int (fun _ _ => rfl)) (pa_cons (pe_ix (show IxR _ (rIxT K) from ix_tup) (pv 0) pe_int (fun _ _ => rfl)) pa_nil))) (pv 0) (nomark _)))))), ?_⟩
  have hd : EvP (tVar 0) [some v] B (IsE K d) := p_toE (p_var rfl h1) tq
  have no : ∀ {H5 : Hp}, Ex H H5 → numB d = false → (∀ v5 B5 H6, Gr B H5 B5 H6 → (IsV (.bl false)).P v5 B5 → Q v5 H6) := fun {H5} e5 hf v5 B5 H6 g5 hv5 => q v5 B5 H6 ((Gr.wide eB e5).trans g5) (by rw [hf]; exact hv5)
  have t1 : EvT _ [some v] B _ := et_tupCE (n := 2) hd fun ht => et_or (a := bIs true (it 0 d)) (b := bIs false (it 0 d)) (et_test (ev_isBl (p_it (k := 0) hd ht (by decide)))) fun _ => et_test (ev_isBl (p_it (k := 0) hd ht (by decide)))
  have en : numB d = (tupN 2 d && (wholeB (it 0 d) && (amB 1 (it 1 d) && (!decide (intOf (it 0 d) = 0) && decide (Nat.gcd (intOf (it 0 d)).natAbs (intOf (it 1 d)).natAbs = 1))))) := by
    unfold numB frB amB
    rw [show decide (0 < intOf (it 1 d)) = decide (1 ≤ intOf (it 1 d)) from decide_eq_decide.mpr (by omega)]
    cases tupN 2 d <;> cases wholeB (it 0 d) <;> cases wholeB (it 1 d) <;> cases decide (1 ≤ intOf (it 1 d)) <;> cases decide (intOf (it 0 d) = 0) <;> simp
  cases c1 : tupN 2 d && !isBo (it 0 d) with
  | false =>
    refine My.ps_ifT eB (et_is t1 (by
      revert c1
      cases tupN 2 d
      · simp
      · cases it 0 d with
        | bool b => cases b <;> simp [bIs, isBo]
        | _ => simp [isBo])) fun H1 e1 => ?_
    refine My.ps_ret (eB.trans e1) (p_c (v := .bl false)) (no e1 ?_)
    rw [en]
    revert c1
    cases tupN 2 d
    · simp
    · cases it 0 d with
      | bool b => simp [wholeB]
      | _ => simp [isBo]
  | true =>
    refine ps_ifN eB (et_is t1 (by
      revert c1
      cases tupN 2 d
      · simp
      · cases it 0 d with
        | bool b => simp [isBo]
        | _ => simp [bIs])) fun H1 e1 => ?_
    dsimp only
    rw [Bool.and_eq_true] at c1
    obtain ⟨ht, hb⟩ := c1
    have i0 : EvP (tOp (rIxT K) (tVar 0) (tC (.int 0))) [some v] B (IsE K (it 0 d)) := p_it (k := 0) hd ht (by decide)
    have i1 : EvP (tOp (rIxT K) (tVar 0) (tC (.int 1))) [some v] B (IsE K (it 1 d)) := p_it (k := 1) hd ht (by decide)
    have t2 : EvT _ [some v] B (!wholeB (it 0 d) || (!amB 1 (it 1 d) || decide (intOf (it 0 d) = 0))) := et_is (et_or (a := !isI (it 0 d)) (b := !amB 1 (it 1 d) || decide (intOf (it 0 d) = 0)) (et_not (et_B (ev_isIE i0))) fun ei => et_or (a := !amB 1 (it 1 d)) (b := decide (intOf (it 0 d) = 0)) (et_not (et_B (ev_am (l := 1) i1))) fun _ => by
      obtain ⟨n, en0⟩ : ∃ n, it 0 d = .int n := by
        revert ei hb
        cases it 0 d with
        | int n => exact fun _ _ => ⟨_, rfl⟩
        | bool b => simp [isBo]
        | _ => simp [isI]
      rw [en0] at i0 ⊢
      refine et_is (et_test (ev_op (ev_inE i0) (ev_c (v := .int 0)) (rv_eq rfl))) ?_
      exact decide_eq_decide.mpr ⟨fun z => V.int.inj z, fun z => by rw [show n = 0 from z]⟩) (by
      revert hb
      cases it 0 d <;> simp [isI, wholeB, isBo])
    cases c2 : wholeB (it 0 d) && (amB 1 (it 1 d) && !decide (intOf (it 0 d) = 0)) with
    | false =>
      refine My.ps_ifT (eB.trans e1) (et_is t2 (by revert c2; cases wholeB (it 0 d) <;> cases amB 1 (it 1 d) <;> cases decide (intOf (it 0 d) = 0) <;> simp)) fun H2 e2 => ?_
      refine My.ps_ret ((eB.trans e1).trans e2) (p_c (v := .bl false)) (no (e1.trans e2) ?_)
      rw [en]
      revert c2
      cases wholeB (it 0 d) <;> cases amB 1 (it 1 d) <;> cases decide (intOf (it 0 d) = 0) <;> simp
    | true =>
      refine ps_ifN (eB.trans e1) (et_is t2 (by revert c2; cases wholeB (it 0 d) <;> cases amB 1 (it 1 d) <;> cases decide (intOf (it 0 d) = 0) <;> simp)) fun H2 e2 => ?_
      dsimp only
      simp only [Bool.and_eq_true, Bool.not_eq_true', decide_eq_false_iff_not] at c2
      obtain ⟨w0, a1, n0⟩ := c2
      unfold amB at a1
      rw [Bool.and_eq_true, decide_eq_true_iff] at a1
      obtain ⟨w1, p1⟩ := a1
      have e0 := wholeB_ex w0
      have e1' := wholeB_ex w1
      rw [e0] at i0
      rw [e1'] at i1
      have low := p_callP (R := Rlow2 K) (σ := [some v]) (B := B) (ps := [IsV (.int (intOf (it 0 d))), IsV (.int (intOf (it 1 d)))]) (p := rtP K (Rat.divInt (intOf (it 0 d)) (intOf (it 1 d)))) (q_cons (p_ev (ev_inE i0)) (q_cons (p_ev (ev_inE i1)) q_nil)) ⟨_, _, by omega, hs, rfl, rfl⟩
      have ed : d = frD (intOf (it 0 d), intOf (it 1 d)) := by
        conv => lhs; rw [tpl2 ht, e0, e1']
        rfl
      have hd2 : EvP (tVar 0) [some v] B (IsD K (frD (intOf (it 0 d), intOf (it 1 d)))) := by
        rw [ed] at hd
        exact p_eD hd (nd_fr _)
      have same := ev_eqD (K := K) (p_to low (to_fr _)) hd2 rfl rfl
      refine My.ps_ret ((eB.trans e1).trans e2) (p_ev (v := .bl (numB d)) (ev_is same ?_)) fun v B1 H2 g hp => q v B1 H2 ((Gr.wide eB (e1.trans e2)).trans g) hp
      rw [eqv_frD, en, ht, w0]
      unfold amB
      rw [w1, decide_eq_true p1, decide_eq_false n0]
      refine congrArg V.bl ?_
      simp only [Bool.true_and, Bool.not_false]
      refine decide_eq_decide.mpr ⟨fun z => ?_, fun z => ?_⟩
      · have := fr_low (Rat.divInt (intOf (it 0 d)) (intOf (it 1 d)))
        rw [z] at this
        exact this
      · exact fr_eq (by omega) z

/-- _law_due -/
abbrev s_Ldue : Stmt := topS 52
abbrev N_Ldue : List Str := ["_law_thing", "_law_n", "_law_term"]
theorem sc_Ldue : FnScope N_Ldue ["_law_thing"] (defScope s_Ldue) := ⟨rfl, rfl, rfl, by decide +kernel, rfl, by decide +kernel, by decide +kernel⟩
theorem ok_Ldue {f : Addr} {fd : FuncData} (F : Fun K "_law_due" "_law_due" s_Ldue f fd)  {f_Lis_monomial : Addr} {d_Lis_monomial : FuncData} (c_Lis_monomial : Cal P w K mg base "_law_is_monomial" 3 ["_law_thing"] (spP (RBA K moB)) f_Lis_monomial d_Lis_monomial) {f_Lis_number : Addr} {d_Lis_number : FuncData} (c_Lis_number : Cal P w K mg base "_law_is_number" 2 ["_law_thing"] (spP (RNm K)) f_Lis_number d_Lis_number) (n_isinstance : mg "isinstance" = none) (n_tuple : mg "tuple" = none) (n_len : mg "len" = none) (n_enumerate : mg "enumerate" = none)  :
    FnOk P w K mg base CX0 4 f fd ["_law_thing"] (spP (RdueE K)) := by
  refine F.ok sc_Ldue (spP_len (by rintro _ _ ⟨_, _, _, _, _, rfl, rfl⟩; rfl)) (fun cdv A outer s H vs Q E hr h => ?_)
  obtain ⟨B, ps, p, eB, hv, ⟨qd, d, tq, hs, hn, rfl, rfl⟩, q⟩ := h
  obtain ⟨v, rfl, h1⟩ := all1 hv
  have hu := hu_of hr
  refine ⟨_, (pss_cons (ps_if (pt_not (pt_val (pe_callB (show CallR _ (.builtin "isinstance") (rIsi K) from call_isi) (by rfl) n_isinstance (by decide +kernel) (pa_cons (pv 0) (pa_cons (pe_bltn (v := .ty "tuple") (u := .type "tuple") (by rfl) n_tuple (by decide +kernel) rfl) pa_nil))))) (pss_one (ps_ret (pe_lst (pa_cons pe_non pa_nil)))) pss_nil)
    (pss_cons (ps_for PassesOwn.never rfl (pi_enumT (by rfl) n_enumerate (pa_cons (pv 0) pa_nil)) (pg_tup (by rfl) (pgs_cons (pg_name (i := 1) sc_Ldue.nd rfl (by first | exact .inl rfl | exact .inr rfl)) (pgs_cons (pg_name (i := 2) sc_Ldue.nd rfl (by first | exact .inl rfl | exact .inr rfl)) pgs_nil)))
      (pss_cons (ps_if (PW.pt (pw_or (pt_not (pt_val (pe_callB (show CallR _ (.builtin "isinstance") (rIsi K) from call_isi) (by rfl) n_isinstance (by decide +kernel) (pa_cons (pv 2) (pa_cons (pe_bltn (v := .ty "tuple") (u := .type "tuple") (by rfl) n_tuple (by decide +kernel) rfl) pa_nil))))) (pw_or (pt_cmpR op_ne (pe_callB call_len_seq (by rfl) n_len (by decide +kernel) (pa_cons (pv 2) pa_nil)) pe_int (nomark _)) (pw_or1 (pt_not (pt_val (pe_call c_Lis_monomial.G (hr.mono (by decide)) (by rfl) c_Lis_monomial.m c_Lis_monomial.k c_Lis_monomial.b .nil pass0 (pa_cons (pe_ix (show IxR _ (rIxT K) from ix_tup) (pv 2) pe_int (fun _ _ => rfl)) pa_nil)))))))) (pss_one (ps_ret (pe_lst (pa_cons (pv 1) pa_nil)))) pss_nil)
    (pss_one (ps_if (PW.pt (pw_or (pt_not (pt_val (pe_call c_Lis_number.G (hr.mono (by decide)) (by rfl) c_Lis_number.m c_Lis_number.k c_Lis_number.b .nil pass0 (pa_cons (pe_ix (show IxR _ (rIxT K) from ix_tup) (pv 2) pe_int (fun _ _ => rfl)) pa_nil)))) (pw_or1 (PW.pt (pw_and (pt_cmpR op_gt (pv 1) pe_int (nomark _)) (pw_and1 (pt_not (pt_cmpR (op_ltD (by have h := hr.un; show (A.deeper _).units + 65 < cLine; omega)) (pe_ix (show IxR _ (rIxT K) from ix_tup) (pe_ix (show IxR _ (rIxT K) from ix_tup) (pv 0) (pe_op op_sub (pv 1) pe_int) (fun _ _ => rfl)) pe_int (fun _ _ => rfl)) (pe_ix (show IxR _ (rIxT K) from ix_tup) (pv 2) pe_int (fun _ _ => rfl)) (nomark _))))))))) (pss_one (ps_ret (pe_lst (pa_cons (pv 1) pa_nil)))) pss_nil))))
    (pss_one (ps_ret (pe_lst pa_nil))))), ?_⟩
  have hd : De K B v d := tq _ _ h1
  by_cases hx : ∃ xs, d = .tuple xs
  rotate_left
  · have hn : isTu d = false ∧ poAt d = some none := by cases d <;> first | exact ⟨rfl, rfl⟩ | exact absurd ⟨_, rfl⟩ hx
    refine My.ps_ifT eB (et_is (et_not (et_B (ev_isTuE (p_var (p := IsE K d) rfl hd)))) (by rw [hn.1]; rfl)) fun H1 e1 => ?_
    refine My.ps_ret (eB.trans e1) (ed_lst (K := K) (ds := [.none]) (q_cons (d_non p_c) q_nil) (by show 1 ≤ 100000; decide)) fun v B1 H2 g hp => q v B1 H2 ((Gr.wide eB e1).trans g) ?_
    rw [hn.2]
    exact hp
  obtain ⟨xs, rfl⟩ := hx
  have hn := hn xs rfl
  have q : ∀ (v : V) (B' H' : Hp), Gr B H B' H' → (IsD K (.list (dueL ((chainAt tmB 0 none xs).map some)))).P v B' → Q v H' := q
  refine ps_ifN eB (et_is (et_not (et_B (ev_isTuE (p_var (p := IsE K (.tuple xs)) rfl hd)))) rfl) fun H1 e1 => ?_
  dsimp only
  refine ps_forE (eB.trans e1) (src_enT (K := K) (ps := xs.map (IsE K)) (q_cons (p_var rfl (tu_e hd)) q_nil)) fun B3 H3 g3 => ?_
  refine ⟨fun i σ H4 => ∃ B4, Gr B3 H3 B4 H4 ∧ ∃ x1 x2 ah, σ = [some v, x1, x2] ∧ AtI tmB xs ah i ∧ chainAt tmB 0 none xs = chainAt tmB i ah (xs.drop i), ⟨B3, Gr.refl g3.c, none, none, none, rfl, ⟨fun _ => rfl, (fun k z => nomatch z)⟩, rfl⟩, fun i σ H4 _ h => ?_, fun i v2 T σ H4 hi pv px hT => ?_, fun σ H4 pv => ?_⟩
  · obtain ⟨B4, g4, _⟩ := h
    exact g4.b.trans g4.c
  · obtain ⟨B4, g4, x1, x2, ah, rfl, ha, hc⟩ := pv
    rw [List.length_map] at hi
    rw [getD_map hi] at px
    have px4 := de_m g4.b (show De K B3 v2 xs[i] from px)
    have sx := as_tu hs xs[i] (List.getElem_mem hi)
    rw [List.drop_eq_getElem_cons hi, chainAt] at hc
    refine ⟨T, _, rfl, st_of upd_same, rfl, _, _, rfl, _, _, rfl, rfl, ?_⟩
    have g5 := g4.trans (Gr.wide g4.c (Ex.new (o := .tup [.int (i : Nat), v2]) hT))
    have gs := (Gr.wide eB e1).trans (g3.trans g5)
    dsimp only
    have hd4 := de_m (g3.b.trans g4.b) hd
    have ev3 : EvP (tVar 2) [some v, some (.int (i : Nat)), some v2] B4 (IsE K xs[i]) := p_var rfl px4
    have etm : tmB xs[i] = (tupN 2 xs[i] && (moB (it 0 xs[i]) && numB (it 1 xs[i]))) := rfl
    have no : ∀ {H5 : Hp}, Ex (upd H4 T (.tup [.int (i : Nat), v2])) H5 → (tmB xs[i] && (ah.all fun a => dataLt a (it 0 xs[i]))) = false → (∀ v5 B5 H6, Gr B4 H5 B5 H6 → (IsD K (.list [.int (i : Nat)])).P v5 B5 → Q v5 H6) := fun {H5} e5 hf v5 B5 H6 g5' hv5 => q v5 B5 H6 ((gs.trans (Gr.wide g5.c e5)).trans g5') (by
      rw [hc, if_neg (by rw [hf]; exact Bool.false_ne_true)]
      exact hv5)
    have ret : EvP (tLst (tCons (tVar 1) tNil)) [some v, some (.int (i : Nat)), some v2] B4 (IsD K (.list [.int (i : Nat)])) := ed_lst (K := K) (ds := [.int (i : Nat)]) (q_cons (ed_in (ev_var rfl)) q_nil) (by show 1 ≤ 100000; decide)
    have t1 : EvT _ [some v, some (.int (i : Nat)), some v2] B4 _ := et_tupCE (n := 2) ev3 fun ht => et_not (et_B (ev_p (p_callP (R := RBA K moB) (p := IsV (.bl (moB (it 0 xs[i])))) (ps := [IsE K (it 0 xs[i])]) (q_cons (p_it (k := 0) ev3 ht (by decide)) q_nil) ⟨_, _, to_idE, as_it sx 0, rfl, rfl⟩)))
    cases c1 : tupN 2 xs[i] && moB (it 0 xs[i]) with
    | false =>
      refine My.ps_ifT g5.c (et_is t1 (by revert c1; cases tupN 2 xs[i] <;> cases moB (it 0 xs[i]) <;> simp)) fun H5 e5 => ?_
      exact My.ps_ret (g5.c.trans e5) ret (no e5 (by rw [etm, ← Bool.and_assoc, c1]; rfl))
    | true =>
      refine ps_ifN g5.c (et_is t1 (by revert c1; cases tupN 2 xs[i] <;> cases moB (it 0 xs[i]) <;> simp)) fun H5 e5 => ?_
      dsimp only
      rw [Bool.and_eq_true] at c1
      obtain ⟨ht, hf⟩ := c1
      obtain ⟨m, hm⟩ := moB_ex hf
      have it0 : EvP (tOp (rIxT K) (tVar 2) (tC (.int 0))) [some v, some (.int (i : Nat)), some v2] B4 (IsD K (moD m)) := by
        have := p_it (k := 0) ev3 ht (by decide)
        rw [hm] at this
        exact p_eD this (nd_mo m)
      have less : EvT (tAnd (tTest (tOp (rI0 fun i j => .bl (decide (j < i))) (tVar 1) (tC (.int 0)))) (tNot (tTest (tOp (rLtD K) (tOp (rIxT K) (tOp (rIxT K) (tVar 0) (tOp (rI0 fun i j => .int (i - j)) (tVar 1) (tC (.int 1)))) (tC (.int 0))) (tOp (rIxT K) (tVar 2) (tC (.int 0))))))) [some v, some (.int (i : Nat)), some v2] B4 (!ah.all fun a => dataLt a (moD m)) := by
        cases i with
        | zero =>
          rw [ha.1 rfl]
          exact et_is (et_and (a := false) (b := false) (et_is (et_test (ev_op (ev_var rfl) ev_c rv_I0)) rfl) fun z => nomatch z) rfl
        | succ k =>
          obtain ⟨hk, e1, e2⟩ := ha.2 k rfl
          have e2' : tupN 2 xs[k] = true ∧ moB (it 0 xs[k]) = true := by
            have : (tupN 2 xs[k] && (moB (it 0 xs[k]) && numB (it 1 xs[k]))) = true := e2
            simp only [Bool.and_eq_true] at this
            exact ⟨this.1, this.2.1⟩
          obtain ⟨m', hm'⟩ := moB_ex e2'.2
          rw [e1, hm']
          have inner : EvP (tOp (rIxT K) (tVar 0) (tOp (rI0 fun i j => .int (i - j)) (tVar 1) (tC (.int 1)))) [some v, some (.int ((k + 1 : Nat) : Int)), some v2] B4 (IsE K xs[k]) := p_ixT (K := K) (ps := xs.map (IsE K)) (j := (k : Int)) (p_var rfl (tu_e hd4)) (p_ev (ev_is (ev_op (ev_var rfl) ev_c rv_I0) (show V.int (((k + 1 : Nat) : Int) - 1) = V.int (k : Int) from congrArg V.int (by omega)))) (atI_nat (by rw [List.getElem?_map, List.getElem?_eq_getElem hk]; rfl))
          have inner2 := p_it (k := 0) inner e2'.1 (by decide)
          rw [hm'] at inner2
          exact et_is (et_and (a := true) (b := !dataLt (moD m') (moD m)) (et_is (et_test (ev_op (ev_var rfl) ev_c rv_I0)) (by simp)) fun _ => et_not (et_test (ev_ltD (K := K) (d := moD m') (e := moD m) (p_eD inner2 (nd_mo m')) it0 (alike_mo m' m) (fun z => nomatch z) (by have := deep_mo m'; omega)))) (by simp)
      have t2 := et_or (a := !numB (it 1 xs[i])) (b := !ah.all fun a => dataLt a (moD m)) (et_not (et_B (ev_p (p_callP (R := RNm K) (p := IsV (.bl (numB (it 1 xs[i])))) (ps := [IsE K (it 1 xs[i])]) (q_cons (p_it (k := 1) ev3 ht (by decide)) q_nil) ⟨_, _, to_idE, hn _ (List.getElem_mem hi), rfl, rfl⟩)))) fun _ => less
      cases c2 : numB (it 1 xs[i]) && (ah.all fun a => dataLt a (moD m)) with
      | false =>
        refine My.ps_ifT (g5.c.trans e5) (et_is t2 (by revert c2; cases numB (it 1 xs[i]) <;> cases (ah.all fun a => dataLt a (moD m)) <;> simp)) fun H6 e6 => ?_
        exact My.ps_ret ((g5.c.trans e5).trans e6) ret (no (e5.trans e6) (by rw [etm, ht, hf, hm, Bool.true_and, Bool.true_and, c2]))
      | true =>
        refine ps_ifN (g5.c.trans e5) (et_is t2 (by revert c2; cases numB (it 1 xs[i]) <;> cases (ah.all fun a => dataLt a (moD m)) <;> simp)) fun H6 e6 => ?_
        have ok : (tmB xs[i] && (ah.all fun a => dataLt a (it 0 xs[i]))) = true := by rw [etm, ht, hf, hm, Bool.true_and, Bool.true_and, c2]
        refine ⟨B4, g5.trans (Gr.wide g5.c (e5.trans e6)), _, _, some (it 0 xs[i]), rfl, ⟨(fun z => nomatch z), fun k ek => ?_⟩, ?_⟩
        · obtain rfl : i = k := Nat.succ.inj ek
          exact ⟨hi, rfl, (Bool.and_eq_true_iff.mp ok).1⟩
        · rw [hc, if_pos ok]
  · obtain ⟨B4, g4, x1, x2, ah, rfl, ha, hc⟩ := pv
    dsimp only
    refine My.ps_ret g4.c (ed_lst (K := K) (ds := []) q_nil (by show 0 ≤ 100000; decide)) fun v5 B5 H5 g5 hp => ?_
    refine q v5 B5 H5 (((Gr.wide eB e1).trans (g3.trans g4)).trans g5) ?_
    rw [hc, List.drop_eq_nil_of_le (by rw [List.length_map]; exact Nat.le_refl _)]
    exact hp

end
end K12
namespace Nd
set_option autoImplicit false
open PySem PySem.Spec PySem.W PyProof.Rows L2 My Evl LamX NdefX
structure Shw (d : PyData) (n : Nat) (k : Nat) : Prop where
  s : d.showable = true
  l : d.shown.length ≤ n
  d : d.depth ≤ k
theorem depthAll_le {k : Nat} : ∀ {ds : List PyData}, (∀ d ∈ ds, d.depth ≤ k) → PyData.depthAll ds ≤ k
  | [], _ => by simp [PyData.depthAll]
  | d :: ds, h => by
    simp only [PyData.depthAll]
    have := h d List.mem_cons_self
    have := depthAll_le (k := k) (ds := ds) fun e he => h e (List.mem_cons_of_mem _ he)
    omega
theorem shw_tup {ds : List PyData} {n k : Nat} (h : ∀ d ∈ ds, Shw d n k) : Shw (.tuple ds) (ds.length * (n + 2) + 3) (k + 1) := by
  refine ⟨?_, Gd.shown_tup fun d hd => (h d hd).l, ?_⟩
  · simp only [PyData.showable]
    exact PySem.Spec.showableAll_of fun d hd => (h d hd).s
  · have := depthAll_le (k := k) fun d hd => (h d hd).d
    simp only [PyData.depth]
    omega
theorem Shw.le {d : PyData} {n k m j : Nat} (h : Shw d n k) (a : n ≤ m) (b : k ≤ j) : Shw d m j := ⟨h.s, Nat.le_trans h.l a, Nat.le_trans h.d b⟩
theorem shw_int {i : Int} {k : Nat} (hk : 0 < k) (hk2 : k < 500) (h : i.natAbs < 10 ^ k) : Shw (.int i) (k + 1) 0 := by
  refine ⟨?_, ?_, by simp [PyData.depth]⟩
  · simp only [PyData.showable, decide_eq_true_eq]
    by_cases h0 : i.natAbs = 0
    · rw [h0]
      decide
    · rw [Nat.log2_lt h0]
      refine Nat.lt_of_lt_of_le h (Nat.le_trans (Nat.pow_le_pow_right (by decide) (Nat.le_of_lt hk2)) ?_)
      decide +kernel
  · simp only [PyData.shown]
    rw [show ((toString i : String) : Str) = Str.ofString (toString i) from rfl, PySem.ofString_length]
    exact int_text_length_le10 hk h
theorem shw_lst {ds : List PyData} {n k : Nat} (h : ∀ d ∈ ds, Shw d n k) : Shw (.list ds) (ds.length * (n + 2) + 3) (k + 1) := by
  refine ⟨?_, Gd.shown_lst fun d hd => (h d hd).l, ?_⟩
  · simp only [PyData.showable]
    exact PySem.Spec.showableAll_of fun d hd => (h d hd).s
  · have := depthAll_le (k := k) fun d hd => (h d hd).d
    simp only [PyData.depth]
    omega
theorem shw_bl (b : Bool) : Shw (.bool b) 1000000 60 := by
  cases b <;> exact ⟨by simp [PyData.showable], by simp [PyData.shown]; decide +kernel, by simp [PyData.depth]⟩
theorem ev_rep {K : PySem.W.Frag} {te : TE} {σ : L2.St} {B : Hp} {d : PyData} (h : EvP te σ B (IsE K d)) (s : Shw d 1000000 60) : Ev (tCB (rReprE K) (tCons te tNil)) σ B (.str d.shown) := ev_reprE h s.s s.d s.l
theorem six {σ : L2.St} (h : σ.length = 6) : ∃ a b c d e f, σ = [a, b, c, d, e, f] := by
  match σ, h with
  | [a, b, c, d, e, f], _ => exact ⟨a, b, c, d, e, f, rfl⟩
theorem ps_un4 {K : PySem.W.Frag} {te : TE} {σ : L2.St} {B H : Hp} {p q r s : Pr} {D : Ends} {i j k l : Nat} (a : Ex B H) (h : EvP te σ B (TuP K [p, q, r, s])) (n : ∀ v w x y B1 H1, Gr B H B1 H1 → p.P v B1 → q.P w B1 → r.P x B1 → s.P y B1 → D.nx ((((σ.set i (some v)).set j (some w)).set k (some x)).set l (some y)) H1) :
    tAsg te (gTup K 4 (gCons (gName i) (gCons (gName j) (gCons (gName k) (gCons (gName l) gNil))))) D σ H := h H a _ fun v B1 H1 g x => by
  obtain ⟨l, xs, rfl, h2, h3⟩ := x
  match xs, h3 with
  | [v, w, x, y], h3 => exact ⟨_, _, rfl, ex_t g.c h2, rfl, _, _, rfl, _, _, rfl, _, _, rfl, _, _, rfl, rfl, n v w x y B1 H1 g h3.1 h3.2.1 h3.2.2.1 h3.2.2.2.1⟩
theorem chainAt_lt {f : PyData → Bool} : ∀ {xs : List PyData} {ah : Option PyData} {n m : Nat}, chainAt f n ah xs = some m → m < n + xs.length
  | [], _, _, _, h => by rw [chainAt] at h; cases h
  | x :: r, ah, n, m, h => by
    rw [chainAt] at h
    split at h
    · have := chainAt_lt h
      rw [List.length_cons]
      omega
    · obtain rfl := Option.some.inj h
      rw [List.length_cons]
      omega
/-- a thing that the law may look at -/
structure Thg (d : PyData) : Prop where
  a : asB d = true
  n : ∀ xs, d = .tuple xs → ∀ x ∈ xs, (intOf (it 1 (it 1 x))).natAbs < 2 ^ 4000
  l : ∀ xs, d = .tuple xs → xs.length ≤ 1000
  s : Shw d 1000000 60
theorem shw_due {d : PyData} (h : Thg d) : Shw (.list (dueL (poAt d))) 1000000 60 := by
  cases hp : poAt d with
  | none => exact (shw_lst (ds := []) (n := 0) (k := 0) fun d h => absurd h List.not_mem_nil).le (by decide) (by decide)
  | some o =>
    cases o with
    | none => exact (shw_lst (ds := [.none]) (n := 4) (k := 0) fun d hd => by
        rw [List.mem_singleton.mp hd]
        exact ⟨by simp [PyData.showable], by simp [PyData.shown]; decide, by simp [PyData.depth]⟩).le (by decide) (by decide)
    | some m =>
      have hm : m < 1000 := by
        cases d with
        | tuple xs =>
          have hp : (chainAt tmB 0 none xs).map some = some (some m) := hp
          cases hc : chainAt tmB 0 none xs with
          | none => rw [hc] at hp; cases hp
          | some k =>
            rw [hc] at hp
            obtain rfl : k = m := Option.some.inj (Option.some.inj hp)
            have := chainAt_lt hc
            have := h.l xs rfl
            omega
        | _ => cases hp
      exact (shw_lst (ds := [.int (m : Nat)]) (n := 5) (k := 0) fun d hd => by
        rw [List.mem_singleton.mp hd]
        exact (shw_int (k := 3) (by decide) (by decide) (by omega)).le (by decide) (Nat.le_refl _)).le (by show 1 * (5 + 2) + 3 ≤ 1000000; decide) (by decide)
theorem sh_due (o : Option (Option Nat)) : SeqAt.shaped (.list (dueL o)) = true := by
  cases o with
  | none => rfl
  | some o => cases o <;> rfl
theorem due_emp (o : Option (Option Nat)) : (dueL o).isEmpty = o.isNone := by
  cases o with
  | none => rfl
  | some o => cases o <;> rfl
theorem seq_two {t u : TS} {D : Ends} {σ : L2.St} {H : Hp} (S : L2.St → Hp → Prop) (h1 : ∀ D' : Ends, (∀ σ' H', S σ' H' → D'.nx σ' H') → t D' σ H) (h2 : ∀ σ' H', S σ' H' → u D σ' H') : tSeq t u D σ H := h1 { D with nx := u D } h2
def Rright (K : PySem.W.Frag) : List Pr → Pr → Prop := fun ps p => ∃ (q : Pr) (d : PyData), ToE K q d ∧ Thg d ∧ ps = [q] ∧ p = IsV (.bl true)
end Nd
namespace K12
set_option autoImplicit false
open PySem PySem.W L2 Evl My Nd LamX NdefX
section
variable {P : Program} {w : World} {K : PySem.W.Frag} {mg : Str → Option Value} {base : Heap}

/-- _law_right -/
abbrev s_Lright : Stmt := topS 53
abbrev N_Lright : List Str := ["_law_thing", "_law_wrong", "_law_told", "_law_kept", "_law_due_here", "e"]
theorem sc_Lright : FnScope N_Lright ["_law_thing"] (defScope s_Lright) := ⟨rfl, rfl, rfl, by decide +kernel, rfl, by decide +kernel, by decide +kernel⟩
theorem ok_Lright {f : Addr} {fd : FuncData} (F : Fun K "_law_right" "_law_right" s_Lright f fd) {cx : Nat → Addr} {f_is_polynomial : Addr} {d_is_polynomial : FuncData} (c_is_polynomial : Cal P w K mg base "is_polynomial" 8 ["thing"] (spP (RBE K poB)) f_is_polynomial d_is_polynomial) {f_Ldue : Addr} {d_Ldue : FuncData} (c_Ldue : Cal P w K mg base "_law_due" 4 ["_law_thing"] (spP (RdueE K)) f_Ldue d_Ldue) {f_need_polynomial : Addr} {d_need_polynomial : FuncData} (c_need_polynomial : CalX P w K mg base "need_polynomial" 7 ["thing"] (spO (RpoO K (cx 1))) f_need_polynomial d_need_polynomial) {f_Lkinds : Addr} {d_Lkinds : FuncData} (c_Lkinds : Cal P w K mg base "_law_kinds" 1 ["_law_error"] (spKinds cx) f_Lkinds d_Lkinds) (n_repr : mg "repr" = none) (Tx : XT K mg cx) (hS : SysK K) (hx : PySem.W.exmOne K (.ref (cx 1)) (.ref (cx 16)) = some true) :
    Gd.FnG P w K mg base 9 f fd ["_law_thing"] (spP (Rright K)) := by
  refine Gd.okG F sc_Lright (spP_len (by rintro _ _ ⟨_, _, _, _, rfl, rfl⟩; rfl)) (fun cdv A outer s H vs Q E hr hG h => ?_)
  obtain ⟨B, ps, p, eB, hv, ⟨qd, d, tq, ht, rfl, rfl⟩, q⟩ := h
  obtain ⟨v0, rfl, h1⟩ := all1 hv
  have hu := hu_of hr
  refine ⟨_, (pss_cons (ps_asg (pe_tup (pa_cons pe_non (pa_cons pe_non (pa_cons (pe_callB (call_reprE hG hr.units hS) (by rfl) n_repr (by decide +kernel) (pa_cons (pv 0) pa_nil)) (pa_cons (pe_call c_Ldue.G (hr.mono (by decide)) (by rfl) c_Ldue.m c_Ldue.k c_Ldue.b .nil pass0 (pa_cons (pv 0) pa_nil)) pa_nil))))) (pg_tup (by rfl) (pgs_cons (pg_name (i := 1) sc_Lright.nd rfl (by first | exact .inl rfl | exact .inr rfl)) (pgs_cons (pg_name (i := 2) sc_Lright.nd rfl (by first | exact .inl rfl | exact .inr rfl)) (pgs_cons (pg_name (i := 3) sc_Lright.nd rfl (by first | exact .inl rfl | exact .inr rfl)) (pgs_cons (pg_name (i := 4) sc_Lright.nd rfl (by first | exact .inl rfl | exact .inr rfl)) pgs_nil))))))
    (pss_cons (ps_try_keep (i := 5) (j := 1) (c := .ref (cx 16)) (tb := fun W => tAsg (tCallS (spO (RpoO K (cx 1))) (WE W) (tCons (tVar 0) tNil)) (gName 2)) (Wout := fun _ _ _ _ => False) rfl rfl rfl sc_Lright.nd rfl rfl rfl rfl ⟨rfl, by decide, .inl Tx.g_ChainError⟩ L2.takes0 (fun σ h => by obtain ⟨_, _, _, _, _, _, rfl⟩ := six h; rfl) (by decide) (by decide) (by rfl) (fun W pn xe tk _ => pss_one (ps_set (i := 2) sc_Lright.nd rfl (.inl rfl) (pe_callS c_need_polynomial.G (hr.mono (by decide)) (by rfl) c_need_polynomial.m c_need_polynomial.k c_need_polynomial.b (fun σ => passAt tk σ) (pa_cons (pv 0) pa_nil)))))
    (pss_cons (ps_if (PW.pt (pw_or (pt_cmpR op_ne (pe_callB (call_reprE hG hr.units hS) (by rfl) n_repr (by decide +kernel) (pa_cons (pe_call c_is_polynomial.G (hr.mono (by decide)) (by rfl) c_is_polynomial.m c_is_polynomial.k c_is_polynomial.b .nil pass0 (pa_cons (pv 0) pa_nil)) pa_nil)) (pe_callB (call_reprE hG hr.units hS) (by rfl) n_repr (by decide +kernel) (pa_cons (pe_cmpR (show OpR _ (compareOp .Eq) (rEqD K) from op_eqD hr.units) (pv 4) (pe_lst pa_nil) (nomark _)) pa_nil)) (nomark _)) (pw_or (pt_cmpR op_ne (pe_callB (call_reprE hG hr.units hS) (by rfl) n_repr (by decide +kernel) (pa_cons (pv 0) pa_nil)) (pv 3) (nomark _)) (pw_or1 (pt_cmpR op_notN (pv 2) pe_non (nomark _)))))) (pss_one (ps_ret pe_bl)) pss_nil)
    (pss_cons (ps_if (pt_cmpR op_isN (pv 1) pe_non (nomark _)) (pss_one (ps_ret (pe_cmpR (show OpR _ (compareOp .Eq) (rEqD K) from op_eqD hr.units) (pv 4) (pe_lst pa_nil) (nomark _)))) pss_nil)
    (pss_one (ps_ret (pe_and (pe_cmpR (show OpR _ (compareOp .Eq) (rEqD K) from op_eqD hr.units) (pe_call c_Lkinds.G (hr.mono (by decide)) (by rfl) c_Lkinds.m c_Lkinds.k c_Lkinds.b .nil pass0 (pa_cons (pv 1) pa_nil)) (pe_lst (pa_cons pe_str (pa_cons pe_str (pa_cons pe_str pa_nil)))) (nomark _)) (pe_one (pe_cmpR op_eq (pe_callB (call_reprE hG hr.units hS) (by rfl) n_repr (by decide +kernel) (pa_cons (pe_lst (pa_cons (pe_xat (bmB := bmI 1) (newId := nwI 1) (pv 1)) pa_nil)) pa_nil)) (pe_callB (call_reprE hG hr.units hS) (by rfl) n_repr (by decide +kernel) (pa_cons (pv 4) pa_nil)) (nomark _)))))))))), ?_⟩
  have hd : De K B v0 d := tq _ _ h1
  have sd := ht.s
  have su := shw_due ht
  refine ps_un4 (K := K) (p := IsV .non) (q := IsV .non) (r := IsV (.str d.shown)) (s := IsD K (.list (dueL (poAt d)))) eB (p_tup (K := K) (q_cons p_c (q_cons p_c (q_cons (p_ev (ev_rep (p_var (p := IsE K d) rfl hd) sd)) (q_cons (p_callP (R := RdueE K) (ps := [IsE K d]) (q_cons (p_var rfl hd) q_nil) ⟨_, d, to_idE, ht.a, ht.n, rfl, rfl⟩) q_nil)))) (by show 4 ≤ 100000; decide)) fun v1 v2 v3 v4 B1 H1 g1 m1 m2 m3 h4 => ?_
  obtain rfl : v1 = _ := m1
  obtain rfl : v2 = _ := m2
  obtain rfl : v3 = _ := m3
  dsimp only
  have hd1 := de_m g1.b hd
  refine seq_two (fun σ' H' => ∃ B2, Gr B H B2 H' ∧ ∃ y, σ' = [some v0, some y, some .non, some (.str d.shown), some v4, none] ∧ ((y = .non ∧ poAt d = none) ∨ ∃ a p dn, y = .ref a ∧ (excP (cx 1) [("number", p)]).P (.ref a) B2 ∧ ToE K p dn ∧ dueL (poAt d) = [dn] ∧ Ex B1 B2) ∧ Ex B1 B2) (fun D' hD => ?_) fun σ' H' hs' => ?_
  · refine b_asg (o_call (E := WE _) g1.c (q_cons (p_var (p := IsE K d) rfl hd1) q_nil) ⟨_, d, to_idE, as_sm ht.a, rfl, rfl⟩ ?_)
    have exc : ∀ (p : Pr) (dn : PyData), ToE K p dn → dueL (poAt d) = [dn] → ∀ (dd : Option Addr) (B2 H2 : Hp), Gr B1 H1 B2 H2 → ExcD [("number", p)] dd B2 → wKeep K (.ref (cx 16)) 6 5 1 (fun _ _ _ _ => False) D' (.ref (cx 1)) dd [some v0, some .non, some .non, some (.str d.shown), some v4, none] H2 := fun p dn tp ed dd B2 H2 g hdd => by
      refine ⟨true, hx, fun _ => ⟨cx 1, rfl, fun hl a na => ?_⟩, fun z => nomatch z⟩
      obtain ⟨B5, g5, h5⟩ := exc_grow (C := cx 1) g.c na hdd
      exact hD _ _ ⟨B5, g1.trans (g.trans g5), .ref a, rfl, .inr ⟨a, p, dn, rfl, h5, tp, ed, g.b.trans g5.b⟩, g.b.trans g5.b⟩
    cases hp : poAt d with
    | none =>
      intro v B2 H2 g hv
      obtain rfl : v = .non := hv
      exact hD _ _ ⟨B2, g1.trans g, .non, rfl, .inl ⟨rfl, hp⟩, g.b⟩
    | some o =>
      cases o with
      | none => exact fun dd B2 H2 g hdd => exc (IsV .non) .none (toE_of to_non) (by rw [hp]; rfl) dd B2 H2 g hdd
      | some n => exact fun dd B2 H2 g hdd => exc (IsV (.int (n : Nat))) (.int (n : Nat)) (toE_of to_int) (by rw [hp]; rfl) dd B2 H2 g hdd
  · obtain ⟨B2, g2, y, rfl, hy, e12⟩ := hs'
    have hd2 := de_m (g1.b.trans e12) hd
    have h4 := (IsD K (.list (dueL (poAt d)))).m e12 h4
    have d4 : EvP (tVar 4) [some v0, some y, some .non, some (.str d.shown), some v4, none] B2 (IsD K (.list (dueL (poAt d)))) := p_var rfl h4
    have emp : Ev (tOp (rEqD K) (tVar 4) (tLst tNil)) [some v0, some y, some .non, some (.str d.shown), some v4, none] B2 (.bl (poB d)) := by
      have := ev_eqD (K := K) d4 (ed_lst (K := K) (ds := []) q_nil (by show 0 ≤ 100000; decide)) (sh_due _) rfl
      rw [eqv_nil, due_emp] at this
      exact this
    have ip : Ev (tCall (spP (RBE K poB)) [] E0 (tCons (tVar 0) tNil)) [some v0, some y, some .non, some (.str d.shown), some v4, none] B2 (.bl (poB d)) := ev_p (p_callP (ps := [IsE K d]) (q_cons (p_var rfl hd2) q_nil) ⟨_, d, to_idE, as_sm ht.a, rfl, rfl⟩)
    refine ps_ifN g2.c (et_is (et_or (a := false) (b := false) (et_is (et_test (ev_op (ev_rep (K := K) (p_dE (ed_bl ip)) (shw_bl _)) (ev_rep (K := K) (p_dE (ed_bl emp)) (shw_bl _)) (rv_ne rfl))) (by simp)) fun _ => et_is (et_or (a := false) (b := false) (et_is (et_test (ev_op (ev_rep (K := K) (p_var (i := 0) (p := IsE K d) rfl hd2) sd) (ev_var (i := 3) rfl) (rv_ne rfl))) (by simp)) fun _ => et_test (ev_notN (p_varV (i := 2) rfl))) rfl) rfl) fun H3 e3 => ?_
    dsimp only
    rcases hy with ⟨rfl, hp⟩ | ⟨a, p, dn, rfl, hx1, tp, ed, _⟩
    · refine My.ps_ifT (g2.c.trans e3) (et_is (et_test (ev_isN0 (ev_var (i := 1) rfl))) rfl) fun H4 e4 => ?_
      refine My.ps_ret ((g2.c.trans e3).trans e4) (p_ev emp) fun v B5 H5 g5 hv => q v B5 H5 ((g2.trans (Gr.wide g2.c (e3.trans e4))).trans g5) ?_
      rw [show poB d = true from by unfold poB; rw [hp]; rfl] at hv
      exact hv
    · refine ps_ifN (g2.c.trans e3) (et_is (et_test (ev_isN0 (ev_var (i := 1) rfl))) rfl) fun H4 e4 => ?_
      dsimp only
      have kd : EvP (tCall (spKinds cx) [] E0 (tCons (tVar 1) tNil)) [some v0, some (.ref a), some .non, some (.str d.shown), some v4, none] B2 (txts (kinds 1)) := p_call (p := txts (kinds 1)) (q_cons (p_var (p := XK (cx 1)) rfl (exc_k hx1)) q_nil) fun vs B7 H7 Q7 E7 e7 al k7 => by
        obtain ⟨v7, rfl, hv7⟩ := all1 al
        exact ⟨1, v7, B7, by decide, rfl, e7, hv7, k7⟩
      obtain ⟨_, _, q1, shk⟩ := told_eq 1 (by decide)
      have c1 := ev_eqD (K := K) (p_to kd (to_lst (toAll_map _ fun _ => to_str))) (p_to (p_lst (ps := [IsV (.str "polynomial"), IsV (.str "ours"), IsV (.str "value")]) (q_cons p_c (q_cons p_c (q_cons p_c q_nil))) (by show 3 ≤ 100000; decide)) (to_lst (.cons to_str (.cons to_str (.cons to_str .nil))))) shk (by decide +kernel)
      rw [q1] at c1
      have num : EvP (tLst (tCons (tXAt K (bmI 1) (nwI 1) "number" (tVar 1)) tNil)) [some v0, some (.ref a), some .non, some (.str d.shown), some v4, none] B2 (IsE K (.list (dueL (poAt d)))) := by
        rw [ed]
        exact (p_lst (ps := [p]) (q_cons (p_xat (Tx.xc 1 (by decide)) Tx.f_1_number (p_var (p := XF (cx 1) [("number", p)]) rfl hx1) rfl) q_nil) (by show 1 ≤ 100000; decide)).imp fun v B5 _ x => by
          obtain ⟨l, xs, rfl, hx, al⟩ := x
          obtain ⟨u, rfl, hu⟩ := all1 al
          exact .lst (sq_of hx) (.cons (tp _ _ hu) .nil)
      refine My.ps_ret ((g2.c.trans e3).trans e4) (p_ev (v := .bl true) (ev_is (ev_andV (a := true) (b := true) c1 fun _ => ev_is (ev_op (ev_rep num su) (ev_rep (K := K) (p_dE d4) su) (rv_eq rfl)) (by simp)) rfl)) fun v B5 H5 g5 hv => q v B5 H5 ((g2.trans (Gr.wide g2.c (e3.trans e4))).trans g5) hv

end
end K12
namespace Nd
set_option autoImplicit false
open PySem PySem.Spec PySem.W PyProof.Rows L2 My Evl LamX NdefX Gd
/-! ### what the law's things are made of -/
def wdsB : List Str := ["", "u", "v", "U", "abcdefgh", "abcdefghi"]
def leafB : PyData → Bool
  | .none => true
  | .bool _ => true
  | .int i => decide (i.natAbs < 10 ^ 31)
  | .str x => decide (x ∈ wdsB)
  | .dict [] => true
  | _ => false
/-- leaves, or rows of at most so many, level by level -/
def Wd : List Nat → PyData → Prop
  | [], d => leafB d = true
  | w :: r, d => leafB d = true ∨ ∃ xs, (d = .tuple xs ∨ d = .list xs) ∧ xs.length ≤ w ∧ ∀ x ∈ xs, Wd r x
theorem Wd.leaf {d : PyData} (h : leafB d = true) : ∀ {ws : List Nat}, Wd ws d
  | [] => h
  | _ :: _ => .inl h
theorem Wd.up : ∀ {ws : List Nat} {d : PyData}, Wd ws d → Wd (ws.map (· + 1)) d
  | [], _, h => h
  | w :: r, d, h => by
    rcases h with h | ⟨xs, h1, h2, h3⟩
    · exact .inl h
    · exact .inr ⟨xs, h1, Nat.le_succ_of_le h2, fun x hx => (h3 x hx).up⟩
theorem Wd.tu {w : Nat} {r : List Nat} {xs : List PyData} (h : Wd (w :: r) (.tuple xs)) : xs.length ≤ w ∧ ∀ x ∈ xs, Wd r x := by
  rcases h with h | ⟨ys, h1, h2, h3⟩
  · exact absurd h (by simp [leafB])
  · rcases h1 with h1 | h1
    · cases h1
      exact ⟨h2, h3⟩
    · cases h1
theorem Wd.le1 {w v : Nat} {r : List Nat} {d : PyData} (h : Wd (w :: r) d) (e : w ≤ v) : Wd (v :: r) d := by
  rcases h with h | ⟨xs, h1, h2, h3⟩
  · exact .inl h
  · exact .inr ⟨xs, h1, by omega, h3⟩
theorem wd_tu {w : Nat} {r : List Nat} {xs : List PyData} (h : xs.length ≤ w) (k : ∀ x ∈ xs, Wd r x) : Wd (w :: r) (.tuple xs) := .inr ⟨xs, .inl rfl, h, k⟩
theorem wds_as : ∀ x ∈ wdsB, asB (.str x) = true := by decide +kernel
theorem as_wd : ∀ {ws : List Nat} {d : PyData}, Wd ws d → asB d = true := by
  have lf : ∀ {d : PyData}, leafB d = true → asB d = true := fun {d} h => by
    cases d with
    | str x => exact wds_as x (of_decide_eq_true h)
    | tuple xs => exact absurd h (by simp [leafB])
    | list xs => exact absurd h (by simp [leafB])
    | _ => unfold asB; rfl
  intro ws
  induction ws with
  | nil => exact fun h => lf h
  | cons w r ih =>
    intro d h
    rcases h with h | ⟨xs, h1, h2, h3⟩
    · exact lf h
    · have : asAll xs = true := as_of fun x hx => ih (h3 x hx)
      rcases h1 with rfl | rfl <;> (unfold asB; exact this)
theorem it_wd {ws : List Nat} {d : PyData} (h : Wd ws d) (k : Nat) : ∃ vs, Wd vs (it k d) := by
  cases d with
  | tuple xs =>
    cases ws with
    | nil => exact absurd h (by show ¬ leafB (.tuple xs) = true; simp [leafB])
    | cons w r =>
      show ∃ vs, Wd vs (xs.getD k .none)
      rw [List.getD_eq_getElem?_getD]
      cases e : xs[k]? with
      | none => exact ⟨[], rfl⟩
      | some x => exact ⟨r, h.tu.2 x (List.mem_of_getElem? e)⟩
  | _ => exact ⟨[], rfl⟩
theorem int_wd {ws : List Nat} {d : PyData} (h : Wd ws d) : (intOf d).natAbs < 10 ^ 31 := by
  cases d with
  | int i =>
    cases ws with
    | nil => exact of_decide_eq_true h
    | cons w r =>
      rcases h with h | ⟨xs, h1, _⟩
      · exact of_decide_eq_true h
      · rcases h1 with h1 | h1 <;> cases h1
  | bool b => cases b <;> decide
  | _ => exact (by decide : (0 : Int).natAbs < 10 ^ 31)
def bdW : List Nat → Nat
  | [] => 33
  | w :: r => w * (bdW r + 2) + 33
theorem bdW_ge (ws : List Nat) : 33 ≤ bdW ws := by
  cases ws with
  | nil => exact Nat.le_refl _
  | cons w r => exact Nat.le_add_left _ _
theorem wds_shw : ∀ x ∈ wdsB, (PyData.str x).showable = true ∧ (PyData.str x).shown.length ≤ 33 := by decide +kernel
theorem leaf_shw {d : PyData} (h : leafB d = true) : Shw d 33 1 := by
  cases d with
  | none => exact ⟨by simp [PyData.showable], by simp [PyData.shown]; decide, by simp [PyData.depth]⟩
  | bool b => cases b <;> exact ⟨by simp [PyData.showable], by simp [PyData.shown]; decide, by simp [PyData.depth]⟩
  | int i => exact (shw_int (k := 31) (by decide) (by decide) (of_decide_eq_true h)).le (by decide) (by decide)
  | str x =>
    obtain ⟨h1, h2⟩ := wds_shw x (of_decide_eq_true h)
    exact ⟨h1, h2, by simp [PyData.depth]⟩
  | dict es =>
    cases es with
    | nil => exact ⟨by decide +kernel, by decide +kernel, by decide +kernel⟩
    | cons x l => exact absurd h (by simp [leafB])
  | tuple xs => exact absurd h (by simp [leafB])
  | list xs => exact absurd h (by simp [leafB])
theorem Wd.shw : ∀ {ws : List Nat} {d : PyData}, Wd ws d → Shw d (bdW ws) (ws.length + 1)
  | [], _, h => leaf_shw h
  | w :: r, d, h => by
    rcases h with h | ⟨xs, h1, h2, h3⟩
    · exact (leaf_shw h).le (bdW_ge _) (by omega)
    · have a : ∀ x ∈ xs, Shw x (bdW r) (r.length + 1) := fun x hx => (h3 x hx).shw
      have m : xs.length * (bdW r + 2) + 3 ≤ bdW (w :: r) := by
        have := Nat.mul_le_mul_right (bdW r + 2) h2
        show _ ≤ w * (bdW r + 2) + 33
        omega
      rcases h1 with rfl | rfl
      · exact (shw_tup a).le m (by show _ ≤ _; rw [List.length_cons]; omega)
      · exact (shw_lst a).le m (by show _ ≤ _; rw [List.length_cons]; omega)
theorem thg_of {ws : List Nat} {d : PyData} (h : Wd ws d) (hb : bdW ws ≤ 1000000) (hw : ∀ w ∈ ws, w ≤ 1000) (hl : ws.length ≤ 50) : Thg d := by
  refine ⟨as_wd h, fun xs e x hx => ?_, fun xs e => ?_, h.shw.le hb (by omega)⟩
  · subst e
    cases ws with
    | nil => exact absurd h (by show ¬ leafB (.tuple xs) = true; simp [leafB])
    | cons w r =>
      obtain ⟨v1, h1⟩ := it_wd (h.tu.2 x hx) 1
      obtain ⟨v2, h2⟩ := it_wd h1 1
      exact Nat.lt_trans (int_wd h2) (by decide +kernel)
  · subst e
    cases ws with
    | nil => exact absurd h (by show ¬ leafB (.tuple xs) = true; simp [leafB])
    | cons w r => exact Nat.le_trans h.tu.1 (hw w List.mem_cons_self)
/-! ### the odd ones -/
def OD : List PyData := [.none, .bool true, .bool false, .int (-1), .int 0, .int 1, .int 2, .str "u", .str "U", .str "", .str "abcdefghi", .tuple [], .list [], .dict [], .tuple [.str "u", .int 0, .int 0], .tuple [.int 1, .int 1], .tuple [.int 0, .int 1], .int (10 ^ 30)]
def oddB : PyData → Bool
  | .tuple xs => decide (xs.length ≤ 3) && xs.all leafB
  | .list xs => decide (xs.length ≤ 3) && xs.all leafB
  | d => leafB d
theorem od_all : OD.all oddB = true := by decide +kernel
theorem od_wd {x : PyData} (h : x ∈ OD) {w : Nat} {r : List Nat} (hw : 3 ≤ w) : Wd (w :: r) x := by
  have h1 := List.all_eq_true.mp od_all x h
  have row : ∀ xs : List PyData, (decide (xs.length ≤ 3) && xs.all leafB) = true → xs.length ≤ w ∧ ∀ y ∈ xs, Wd r y := fun xs h => by
    rw [Bool.and_eq_true, List.all_eq_true] at h
    exact ⟨Nat.le_trans (of_decide_eq_true h.1) hw, fun y hy => Wd.leaf (h.2 y hy)⟩
  cases x with
  | tuple xs => exact .inr ⟨xs, .inl rfl, row xs h1⟩
  | list xs => exact .inr ⟨xs, .inr rfl, row xs h1⟩
  | _ => exact .inl h1
/-- what comes of a tuple that is spoilt -/
def Spo (ds : List PyData) (x : PyData) : Prop := (∃ es, (x = .tuple es ∨ x = .list es) ∧ es.length ≤ ds.length + 1 ∧ ∀ e ∈ es, e ∈ ds ∨ e ∈ OD) ∨ x ∈ OD
theorem Spo.wd {w v : Nat} {r : List Nat} {ds : List PyData} {x : PyData} (h : Spo ds x) (hd : Wd (w :: v :: r) (.tuple ds)) (h2 : 2 ≤ w) (h3 : 3 ≤ v) : Wd ((w + 1) :: v :: r) x := by
  obtain ⟨l, a⟩ := hd.tu
  rcases h with ⟨es, e, hl, ha⟩ | h
  · refine .inr ⟨es, e, by omega, fun y hy => ?_⟩
    rcases ha y hy with h | h
    · exact a y h
    · exact od_wd h h3
  · exact od_wd h (by omega)
section
variable {te ta tb : TE} {t : TA} {σ : L2.St} {B : Hp} {ps qs : List Pr} {K : PySem.W.Frag}
theorem AllP.rev {H : Hp} : ∀ {ps : List Pr} {vs : List V}, AllP ps vs H → AllP ps.reverse vs.reverse H
  | [], [], _ => trivial
  | p :: ps, v :: vs, h => by
    rw [List.reverse_cons, List.reverse_cons]
    exact (AllP.rev h.2).app ⟨h.1, trivial⟩
theorem p_revU (h : EvP te σ B (TuP K ps)) : EvP (tRevT K te) σ B (TuP K ps.reverse) := fun H1 a Q k =>
  h H1 a _ fun v B2 H2 g x => by
    obtain ⟨p, xs, rfl, hp, hx⟩ := x
    exact ⟨p, xs, rfl, ex_t g.c hp, fun r hr => k _ _ _ (g.trans (Gr.new _ g.c hr)) ⟨r, _, rfl, st_of upd_same, (AllP.rev hx).m (Ex.new (fresh_back g.c hr))⟩⟩
/-- list(tuple) -/
theorem p_listU (h : EvP te σ B (TuP K ps)) : EvP (tCB (fun xs H Q => ∃ p ys, xs = [.ref p] ∧ (SqL K H p ys ∨ SqT K H p ys) ∧ ∀ l, H l = none → Q (.ref l) (upd H l (.lst ys))) (tCons te tNil)) σ B (LsP ps) := fun H1 a Q k =>
  h H1 a _ fun v B2 H2 g x => by
    obtain ⟨p, xs, rfl, hp, hx⟩ := x
    exact ⟨p, xs, rfl, .inr (ex_t g.c hp), fun r hr => k _ _ _ (g.trans (Gr.new _ g.c hr)) ⟨r, xs, rfl, upd_same, hx.m (Ex.new (fresh_back g.c hr))⟩⟩
theorem cutMid (xs : List V) (j k : Nat) : cutV xs (some (j : Int)) (some (k : Int)) = (xs.drop j).take (k - j) := by
  unfold cutV
  rw [HT.sIx_nat, HT.sIx_nat]
  by_cases h : j ≤ xs.length
  · rw [Nat.min_eq_left h]
    by_cases h2 : k ≤ xs.length
    · rw [Nat.min_eq_left h2]
    · rw [Nat.min_eq_right (by omega), List.take_of_length_le (by rw [List.length_drop]; omega), List.take_of_length_le (by rw [List.length_drop]; omega)]
  · rw [List.drop_of_length_le (by omega : xs.length ≤ j), List.take_nil]
    rw [Nat.min_eq_right (by omega : xs.length ≤ j), List.drop_of_length_le (Nat.le_refl _), List.take_nil]
theorem p_slMid {j k : Nat} (h : EvP te σ B (TuP K ps)) (hj : Ev ta σ B (.int (j : Int))) (hk : Ev tb σ B (.int (k : Int))) : EvP (tSl (rSlA K) te (tPart ta) (tPart tb)) σ B (TuP K ((ps.drop j).take (k - j))) := fun H1 a Q q =>
  h H1 a _ fun v B2 H2 g x => hj H2 (g.b.trans g.c) _ fun H3 e3 => ⟨j, rfl, hk H3 ((g.b.trans g.c).trans e3) _ fun H4 e4 => ⟨k, rfl, by
    obtain ⟨l, xs, rfl, hl, al⟩ := x
    have e34 := e3.trans e4
    refine ⟨l, xs, rfl, ex_t (g.c.trans e34) hl, fun e => ?_, fun _ r hr => ?_⟩
    · have := al.len
      rw [HT.sIx_nat, HT.sIx_nat] at e
      refine q _ B2 H4 (g.trans (Gr.wide g.c e34)) ⟨l, xs, rfl, hl, ?_⟩
      have e1 : (ps.drop j).take (k - j) = ps := by
        rcases Nat.eq_zero_or_pos j with h0 | h0
        · subst h0
          rw [List.drop_zero, List.take_of_length_le (by omega)]
        · have : ps = [] := List.length_eq_zero_iff.mp (by omega)
          rw [this, List.drop_nil, List.take_nil]
      rw [e1]
      exact al
    · rw [cutMid]
      exact q _ _ _ ((g.trans (Gr.wide g.c e34)).trans (Gr.new (.tup ((xs.drop j).take (k - j))) (g.c.trans e34) hr)) ⟨r, _, rfl, st_of upd_same, (AllP.take (k - j) (AllP.drop j al)).m (Ex.new (fresh_back (g.c.trans e34) hr))⟩⟩⟩
theorem p_dnewE : EvP tDNewK σ B (IsE K (.dict [])) := fun H1 e Q k p hp => k _ _ _ (Gr.new (.dK []) e hp) (De.dct upd_same)
end
end Nd
namespace K12
set_option autoImplicit false
open PySem PySem.Spec PySem.W PyProof.Rows L2 Evl My Nd LamX NdefX
section
variable {T : List (Addr × Str)} {d : Addr} {n : Nat} {B H : Hp} {K : PySem.W.Frag} {Q : VK}
theorem x_at {ps : List Pr} {v : V} {m : Int} (e : Ex B H) (hv : (LsP ps).P v B) (m0 : 0 ≤ m) (m1 : m < ps.length) (q : ∀ (j : Nat) p w, ps[j]? = some p → p.P w B → Q w H) : rIxL K v (.int m) H Q := by
  obtain ⟨l, xs, rfl, hx, al⟩ := hv
  obtain ⟨j, p, w, hj, rfl, hp, hat, hw⟩ := pick al m0 m1
  exact ⟨l, xs, _, _, rfl, rfl, sq_of (e _ _ hx), hat, q j p w hp hw⟩
end
theorem b_par {i j : Nat} {t : TA} {D : Ends} {σ : L2.St} {H : Hp} (h : t σ H fun vs H1 => ∃ v w, vs = [v, w] ∧ D.nx ((σ.set i (some v)).set j (some w)) H1) : tPar i j t D σ H := h
theorem c_call {sp : Sp} {t : TA} {σ : L2.St} {H : Hp} {Q : VK} (h : t σ H fun vs H1 => sp (vs ++ []) H1 Q E0) : tCall sp [] E0 t σ H Q := h
theorem b_c {v : V} {σ : L2.St} {H : Hp} {Q : VK} (h : Q v H) : tC v σ H Q := h
theorem b_nil {σ : L2.St} {H : Hp} {Q : List V → Hp → Prop} (h : Q [] H) : tNil σ H Q := h
theorem ev_pow {ta tb : TE} {σ : L2.St} {B : Hp} {i j : Int} (ha : Ev ta σ B (.int i)) (hb : Ev tb σ B (.int j)) (c : CPow i j) : Ev (tOp (rI CPow fun i j => .int (i ^ j.toNat)) ta tb) σ B (.int (i ^ j.toNat)) := fun H1 e Q q =>
  ha H1 e _ fun H2 e2 => hb H2 (e.trans e2) _ fun H3 e3 => ⟨i, j, rfl, rfl, c, q H3 (e2.trans e3)⟩
section
variable {K : PySem.W.Frag} {te ta tb : TE} {σ : L2.St} {B : Hp}
theorem e_non : EvP (tC .non) σ B (IsE K .none) := p_toE p_c (toE_of to_non)
theorem e_bl {b : Bool} : EvP (tC (.bl b)) σ B (IsE K (.bool b)) := p_toE p_c (toE_of to_bl)
theorem e_int {i : Int} : EvP (tC (.int i)) σ B (IsE K (.int i)) := p_toE p_c (toE_of to_int)
theorem e_str {x : Str} : EvP (tC (.str x)) σ B (IsE K (.str x)) := p_toE p_c (toE_of to_str)
theorem p_tuE {ps : List Pr} {ds : List PyData} (h : EvP te σ B (TuP K ps)) (e : ps = ds.map (IsE K)) : EvP te σ B (IsE K (.tuple ds)) := by
  subst e
  exact h.imp fun _ _ _ x => e_tu x
theorem p_lsE {ps : List Pr} {ds : List PyData} (h : EvP te σ B (LsP ps)) (e : ps = ds.map (IsE K)) : EvP te σ B (IsE K (.list ds)) := by
  subst e
  exact h.imp fun _ _ _ x => e_ls x
theorem e_neg1 : EvP (tUn (rU fun i => .int (-i)) (tC (.int 1))) σ B (IsE K (.int (-1))) := p_toE (p_ev (ev_un ev_c ru_neg)) (toE_of to_int)
end
theorem spo_put {ds : List PyData} {od : PyData} (h : od ∈ OD) (i : Nat) : Spo ds (.tuple (ds.take i ++ [od] ++ ds.drop (i + 1))) := by
  refine .inl ⟨_, .inl rfl, by simp only [List.length_append, List.length_take, List.length_drop, List.length_singleton]; omega, fun e he => ?_⟩
  simp only [List.mem_append, List.mem_singleton] at he
  rcases he with (he | rfl) | he
  · exact .inl (List.mem_of_mem_take he)
  · exact .inr h
  · exact .inl (List.mem_of_mem_drop he)
theorem spo_ins {ds : List PyData} {od : PyData} (h : od ∈ OD) (i : Nat) : Spo ds (.tuple (ds.take i ++ [od] ++ ds.drop i)) := by
  refine .inl ⟨_, .inl rfl, by simp only [List.length_append, List.length_take, List.length_drop, List.length_singleton]; omega, fun e he => ?_⟩
  simp only [List.mem_append, List.mem_singleton] at he
  rcases he with (he | rfl) | he
  · exact .inl (List.mem_of_mem_take he)
  · exact .inr h
  · exact .inl (List.mem_of_mem_drop he)
theorem spo_out {ds : List PyData} (i : Nat) : Spo ds (.tuple (ds.take i ++ ds.drop (i + 1))) := by
  refine .inl ⟨_, .inl rfl, by simp only [List.length_append, List.length_take, List.length_drop]; omega, fun e he => ?_⟩
  simp only [List.mem_append] at he
  rcases he with he | he
  · exact .inl (List.mem_of_mem_take he)
  · exact .inl (List.mem_of_mem_drop he)
theorem spo_far {ds : List PyData} (i f : Nat) : Spo ds (.tuple (ds.take i ++ (ds.drop f).take (f + 1 - f) ++ ds.drop i)) := by
  refine .inl ⟨_, .inl rfl, by simp only [List.length_append, List.length_take, List.length_drop]; omega, fun e he => ?_⟩
  simp only [List.mem_append] at he
  rcases he with (he | he) | he
  · exact .inl (List.mem_of_mem_take he)
  · exact .inl (List.mem_of_mem_drop (List.mem_of_mem_take he))
  · exact .inl (List.mem_of_mem_drop he)
theorem spo_list {ds : List PyData} : Spo ds (.list ds) := .inl ⟨_, .inr rfl, by omega, fun e he => .inl he⟩
theorem spo_rev {ds : List PyData} : Spo ds (.tuple ds.reverse) := .inl ⟨_, .inl rfl, by rw [List.length_reverse]; omega, fun e he => .inl (List.mem_reverse.mp he)⟩
def spOdd (K : PySem.W.Frag) (T : List (Addr × Str)) : Sp := fun vs H Q _ => ∃ (B : Hp) (d : Addr) (n : Nat), vs = [.ref d] ∧ Kx T d n B H ∧ n ≤ 2 ^ 37 ∧ ∀ (x : PyData) (v : V) (B' H' : Hp), x ∈ OD → Kx T d (n + 4) B' H' → GX d B H B' H' → De K B' v x → Q v H'
def spSpoilt (K : PySem.W.Frag) (T : List (Addr × Str)) : Sp := fun vs H Q _ => ∃ (B : Hp) (d : Addr) (n : Nat) (ds : List PyData) (vt : V), vs = [.ref d, vt] ∧ De K B vt (.tuple ds) ∧ ds.length ≤ 1000 ∧ Kx T d n B H ∧ n ≤ 2 ^ 36 ∧ ∀ (x : PyData) (v : V) (B' H' : Hp), Spo ds x → Kx T d (n + 16) B' H' → GX d B H B' H' → De K B' v x → Q v H'
section
variable {P : Program} {w : World} {K : PySem.W.Frag} {mg : Str → Option Value} {base : Heap} {T : List (Addr × Str)}

/-- _law_odd -/
abbrev s_Lodd : Stmt := topS 54
abbrev N_Lodd : List Str := ["_law_state", "_law_some"]
theorem sc_Lodd : FnScope N_Lodd ["_law_state"] (defScope s_Lodd) := ⟨rfl, rfl, rfl, by decide +kernel, rfl, by decide +kernel, by decide +kernel⟩
theorem ok_Lodd {f : Addr} {fd : FuncData} (F : Fun K "_law_odd" "_law_odd" s_Lodd f fd)  {f_Ldigit : Addr} {d_Ldigit : FuncData} (c_Ldigit : Cal P w K mg base "_law_digit" 2 ["_law_state", "_law_size"] spDigit f_Ldigit d_Ldigit)   :
    FnOk P w K mg base CX0 3 f fd ["_law_state"] (spOdd K T) := by
  refine F.ok sc_Lodd (fun vs H Q E h => by obtain ⟨B, d, n, rfl, _⟩ := h; rfl) (fun cdv A outer s H vs Q E hr h => ?_)
  obtain ⟨B, d, n, rfl, k, hn, q⟩ := h
  have hu := hu_of hr
  refine ⟨_, (pss_cons (ps_set (i := 1) sc_Lodd.nd rfl (by first | exact .inl rfl | exact .inr rfl) (pe_lst (pa_cons pe_non (pa_cons pe_bl (pa_cons pe_bl (pa_cons (pe_un un_neg pe_int) (pa_cons pe_int (pa_cons pe_int (pa_cons pe_int (pa_cons pe_str (pa_cons pe_str (pa_cons pe_str (pa_cons pe_str (pa_cons (pe_tup pa_nil) (pa_cons (pe_lst pa_nil) (pa_cons pe_dnewK (pa_cons (pe_tup (pa_cons pe_str (pa_cons pe_int (pa_cons pe_int pa_nil)))) (pa_cons (pe_tup (pa_cons pe_int (pa_cons pe_int pa_nil))) (pa_cons (pe_tup (pa_cons pe_int (pa_cons pe_int pa_nil))) pa_nil)))))))))))))))))))
    (pss_one (ps_ret (pe_ix ix_list (pe_op op_cat (pv 1) (pe_lst (pa_cons (pe_op op_pow pe_int pe_int) pa_nil))) (pe_call c_Ldigit.G (hr.mono (by decide)) (by rfl) c_Ldigit.m c_Ldigit.k c_Ldigit.b .nil pass0 (pa_cons (pv 0) (pa_cons pe_int pa_nil))) (fun _ _ => rfl))))), ?_⟩
  refine b_seq (ps_asgN (fun v => [some (.ref d), some v]) k.e (p_lst (ps := (OD.take 17).map (IsE K)) (q_cons e_non (q_cons e_bl (q_cons e_bl (q_cons e_neg1 (q_cons e_int (q_cons e_int (q_cons e_int (q_cons e_str (q_cons e_str (q_cons e_str (q_cons e_str (q_cons (p_tuE (ds := []) (p_tup (K := K) q_nil (by decide)) rfl) (q_cons (p_lsE (ds := []) (p_lst q_nil (by decide)) rfl) (q_cons p_dnewE (q_cons (p_tuE (ds := [.str "u", .int 0, .int 0]) (p_tup (K := K) (q_cons e_str (q_cons e_int (q_cons e_int q_nil))) (by show 3 ≤ 100000; decide)) rfl) (q_cons (p_tuE (ds := [.int 1, .int 1]) (p_tup (K := K) (q_cons e_int (q_cons e_int q_nil)) (by show 2 ≤ 100000; decide)) rfl) (q_cons (p_tuE (ds := [.int 0, .int 1]) (p_tup (K := K) (q_cons e_int (q_cons e_int q_nil)) (by show 2 ≤ 100000; decide)) rfl) q_nil))))))))))))))))) (by rw [List.length_map]; decide)) (fun v1 B1 H1 g1 h1 => ?_) (fun _ => rfl))
  have k1 := k.gr g1
  dsimp only
  have all : EvP (tOp rCat (tVar 1) (tLst (tCons (tOp (rI CPow fun i j => .int (i ^ j.toNat)) (tC (.int 10)) (tC (.int 30))) tNil))) [some (.ref d), some v1] B1 (LsP (OD.map (IsE K))) := p_cat (ps := (OD.take 17).map (IsE K)) (qs := [IsE K (.int (10 ^ 30))]) (p_var rfl h1) (p_lst (q_cons (p_toE (p_ev (ev_pow ev_c ev_c ⟨by decide, by decide, by decide⟩)) (toE_of to_int)) q_nil) (by show 1 ≤ 100000; decide)) (by rw [List.length_map]; show 17 + 1 ≤ 100000; decide)
  refine b_ret (b_op (all H1 k1.e _ fun v2 B2 H2 g2 h2 => ?_))
  refine x_digit (z := 18) (k1.gr g2) rfl ev_c (by decide) (by decide) (by omega) fun m H3 m0 m1 k2 g3 => ?_
  refine x_at k2.e h2 m0 m1 fun j p w hj hw => ?_
  rw [List.getElem?_map] at hj
  obtain ⟨x, hx, rfl⟩ := Option.map_eq_some_iff.mp hj
  exact q x w B2 H3 (List.mem_of_getElem? hx) k2 (((GX.gr g1).trans (GX.gr g2)).trans g3) hw

/-- _law_spoilt -/
abbrev s_Lspoilt : Stmt := topS 55
abbrev N_Lspoilt : List Str := ["_law_state", "_law_things", "_law_at", "_law_far", "_law_odd_here", "_law_some"]
theorem sc_Lspoilt : FnScope N_Lspoilt ["_law_state", "_law_things"] (defScope s_Lspoilt) := ⟨rfl, rfl, rfl, by decide +kernel, rfl, by decide +kernel, by decide +kernel⟩
theorem ok_Lspoilt {f : Addr} {fd : FuncData} (F : Fun K "_law_spoilt" "_law_spoilt" s_Lspoilt f fd)  {f_Ldigit : Addr} {d_Ldigit : FuncData} (c_Ldigit : Cal P w K mg base "_law_digit" 2 ["_law_state", "_law_size"] spDigit f_Ldigit d_Ldigit) {f_Lodd : Addr} {d_Lodd : FuncData} (c_Lodd : Cal P w K mg base "_law_odd" 3 ["_law_state"] (spOdd K T) f_Lodd d_Lodd) (n_len : mg "len" = none) (n_list : mg "list" = none)  :
    FnOk P w K mg base CX0 4 f fd ["_law_state", "_law_things"] (spSpoilt K T) := by
  refine F.ok sc_Lspoilt (fun vs H Q E h => by obtain ⟨_, _, _, _, _, rfl, _⟩ := h; rfl) (fun cdv A outer s H vs Q E hr h => ?_)
  obtain ⟨B, d, n, ds, vt, rfl, hT, hl, k, hn, q⟩ := h
  have hu := hu_of hr
  refine ⟨_, (pss_cons (ps_par (i := 2) (j := 3) rfl sc_Lspoilt.nd rfl rfl (by decide) rfl rfl (pa_cons (pe_call c_Ldigit.G (hr.mono (by decide)) (by rfl) c_Ldigit.m c_Ldigit.k c_Ldigit.b .nil pass0 (pa_cons (pv 0) (pa_cons (pe_op op_add (pe_callB call_len_seq (by rfl) n_len (by decide +kernel) (pa_cons (pv 1) pa_nil)) pe_int) pa_nil))) (pa_cons (pe_call c_Ldigit.G (hr.mono (by decide)) (by rfl) c_Ldigit.m c_Ldigit.k c_Ldigit.b .nil pass0 (pa_cons (pv 0) (pa_cons (pe_op op_add (pe_callB call_len_seq (by rfl) n_len (by decide +kernel) (pa_cons (pv 1) pa_nil)) pe_int) pa_nil))) pa_nil)) (by rfl))
    (pss_cons (ps_set (i := 4) sc_Lspoilt.nd rfl (by first | exact .inl rfl | exact .inr rfl) (pe_call c_Lodd.G (hr.mono (by decide)) (by rfl) c_Lodd.m c_Lodd.k c_Lodd.b .nil pass0 (pa_cons (pv 0) pa_nil)))
    (pss_cons (ps_set (i := 5) sc_Lspoilt.nd rfl (by first | exact .inl rfl | exact .inr rfl) (pe_lst (pa_cons (pe_op op_catA (pe_op op_catA (pe_slice sl_tupA (pv 1) po_none (po_some (pv 2))) (pe_tup (pa_cons (pv 4) pa_nil))) (pe_slice sl_tupA (pv 1) (po_some (pe_op op_add (pv 2) pe_int)) po_none)) (pa_cons (pe_op op_catA (pe_slice sl_tupA (pv 1) po_none (po_some (pv 2))) (pe_slice sl_tupA (pv 1) (po_some (pe_op op_add (pv 2) pe_int)) po_none)) (pa_cons (pe_op op_catA (pe_op op_catA (pe_slice sl_tupA (pv 1) po_none (po_some (pv 2))) (pe_tup (pa_cons (pv 4) pa_nil))) (pe_slice sl_tupA (pv 1) (po_some (pv 2)) po_none)) pa_nil)))))
    (pss_cons (ps_set (i := 5) sc_Lspoilt.nd rfl (by first | exact .inl rfl | exact .inr rfl) (pe_op op_cat (pv 5) (pe_lst (pa_cons (pe_op op_catA (pe_op op_catA (pe_slice sl_tupA (pv 1) po_none (po_some (pv 2))) (pe_slice sl_tupA (pv 1) (po_some (pv 3)) (po_some (pe_op op_add (pv 3) pe_int)))) (pe_slice sl_tupA (pv 1) (po_some (pv 2)) po_none)) (pa_cons (pe_callTy call_list_of (by rfl) n_list (by decide +kernel) (pa_cons (pv 1) pa_nil)) (pa_cons (Gd.pe_revT (pv 1)) (pa_cons (pv 4) pa_nil)))))))
    (pss_one (ps_ret (pe_ix ix_list (pv 5) (pe_ix ix_list (pe_lst (pa_cons pe_int (pa_cons pe_int (pa_cons pe_int (pa_cons pe_int (pa_cons pe_int (pa_cons pe_int (pa_cons pe_int (pa_cons pe_int (pa_cons pe_int (pa_cons pe_int pa_nil))))))))))) (pe_call c_Ldigit.G (hr.mono (by decide)) (by rfl) c_Ldigit.m c_Ldigit.k c_Ldigit.b .nil pass0 (pa_cons (pv 0) (pa_cons pe_int pa_nil))) (fun _ _ => rfl)) (fun _ _ => rfl)))))))), ?_⟩
  have ln : ∀ {σ : L2.St} {B' : Hp}, Ex B B' → σ[1]? = some (some vt) → Ev (tOp (rI0 fun i j => .int (i + j)) (tCB (rLenS K) (tCons (tVar 1) tNil)) (tC (.int 1))) σ B' (.int ((ds.length + 1 : Nat) : Int)) := fun e h => ev_is (ev_op (ev_lenE (p_var h (de_m e hT)) (.inl rfl)) ev_c rv_I0) (congrArg V.int (by omega))
  refine b_seq (b_par (b_cons ?_))
  refine x_digit (z := ((ds.length + 1 : Nat) : Int)) k rfl (ln (Ex.refl B) rfl) (by omega) (by omega) (by omega) fun m1 H1 m10 m11 k1 g1 => b_cons ?_
  refine x_digit (z := ((ds.length + 1 : Nat) : Int)) k1 rfl (ln (Ex.refl B) rfl) (by omega) (by omega) (by omega) fun m2 H2 m20 m21 k2 g2 => b_nil ⟨_, _, rfl, ?_⟩
  obtain ⟨i, rfl, hi⟩ : ∃ i : Nat, m1 = (i : Int) ∧ i ≤ ds.length := ⟨m1.toNat, by omega, by omega⟩
  obtain ⟨f, rfl, hf⟩ : ∃ i : Nat, m2 = (i : Int) ∧ i ≤ ds.length := ⟨m2.toNat, by omega, by omega⟩
  dsimp only [gName, List.set_cons_succ, List.set_cons_zero]
  refine b_seq (b_asg (c_call (b_cons ⟨_, rfl, b_nil ?_⟩)))
  refine ⟨B, d, _, rfl, k2, by omega, fun od vo B3 H3 ho k3 g3 hv => ?_⟩
  dsimp only [gName, List.set_cons_succ, List.set_cons_zero]
  have hT3 := de_m g3.b hT
  have t1 : ∀ {σ : L2.St}, σ[1]? = some (some vt) → EvP (tVar 1) σ B3 (TuP K (ds.map (IsE K))) := fun h => p_var h (tu_e hT3)
  have at2 : ∀ {σ : L2.St}, σ[2]? = some (some (.int (i : Nat))) → Ev (tOp (rI0 fun i j => .int (i + j)) (tVar 2) (tC (.int 1))) σ B3 (.int ((i + 1 : Nat) : Int)) := fun h => ev_is (ev_op (ev_var h) ev_c rv_I0) (congrArg V.int (by omega))
  have at3 : ∀ {σ : L2.St}, σ[3]? = some (some (.int (f : Nat))) → Ev (tOp (rI0 fun i j => .int (i + j)) (tVar 3) (tC (.int 1))) σ B3 (.int ((f + 1 : Nat) : Int)) := fun h => ev_is (ev_op (ev_var h) ev_c rv_I0) (congrArg V.int (by omega))
  have l1 : ∀ j, ((ds.map (IsE K)).take j).length ≤ 1000 := fun j => by rw [List.length_take, List.length_map]; omega
  have l2 : ∀ j, ((ds.map (IsE K)).drop j).length ≤ 1000 := fun j => by rw [List.length_drop, List.length_map]; omega
  have od1 : ∀ {σ : L2.St}, σ[4]? = some (some vo) → EvP (tTup (tCons (tVar 4) tNil)) σ B3 (TuP K [IsE K od]) := fun h => p_tup (q_cons (p_var h hv) q_nil) (by show 1 ≤ 100000; decide)
  let L1 : List PyData := [.tuple (ds.take i ++ [od] ++ ds.drop (i + 1)), .tuple (ds.take i ++ ds.drop (i + 1)), .tuple (ds.take i ++ [od] ++ ds.drop i)]
  let L4 : List PyData := [.tuple (ds.take i ++ (ds.drop f).take (f + 1 - f) ++ ds.drop i), .list ds, .tuple ds.reverse, od]
  have c2 : ((ds.map (IsE K)).take i ++ [IsE K od]).length ≤ 1001 := by rw [List.length_append, List.length_singleton]; have := l1 i; omega
  refine b_seq (ps_asgN (fun v => [some (.ref d), some vt, some (.int (i : Nat)), some (.int (f : Nat)), some vo, some v]) k3.e (p_lst (ps := L1.map (IsE K)) (q_cons (p_tuE (p_catU (p_catU (p_slTo (t1 rfl) (ev_var rfl)) (od1 rfl) (by have := l1 i; show _ + 1 ≤ _; omega)) (p_slFrom (t1 rfl) (at2 rfl)) (by have := l2 (i + 1); omega)) (by simp)) (q_cons (p_tuE (p_catU (p_slTo (t1 rfl) (ev_var rfl)) (p_slFrom (t1 rfl) (at2 rfl)) (by have := l1 i; have := l2 (i + 1); omega)) (by simp)) (q_cons (p_tuE (p_catU (p_catU (p_slTo (t1 rfl) (ev_var rfl)) (od1 rfl) (by have := l1 i; show _ + 1 ≤ _; omega)) (p_slFrom (t1 rfl) (ev_var rfl)) (by have := l2 i; omega)) (by simp)) q_nil))) (by show 3 ≤ 100000; decide)) (fun v5 B5 H5 g5 h5 => ?_) (fun _ => rfl))
  have k5 := k3.gr g5
  have hT5 := de_m g5.b hT3
  have hv5 := de_m g5.b hv
  have t1 : ∀ {σ : L2.St}, σ[1]? = some (some vt) → EvP (tVar 1) σ B5 (TuP K (ds.map (IsE K))) := fun h => p_var h (tu_e hT5)
  have at3 : ∀ {σ : L2.St}, σ[3]? = some (some (.int (f : Nat))) → Ev (tOp (rI0 fun i j => .int (i + j)) (tVar 3) (tC (.int 1))) σ B5 (.int ((f + 1 : Nat) : Int)) := fun h => ev_is (ev_op (ev_var h) ev_c rv_I0) (congrArg V.int (by omega))
  have l3 : (((ds.map (IsE K)).drop f).take (f + 1 - f)).length ≤ 1 := by rw [List.length_take]; omega
  dsimp only
  refine b_seq (ps_asgN (fun v => [some (.ref d), some vt, some (.int (i : Nat)), some (.int (f : Nat)), some vo, some v]) k5.e (p_cat (ps := L1.map (IsE K)) (qs := L4.map (IsE K)) (p_var rfl h5) (p_lst (q_cons (p_tuE (p_catU (p_catU (p_slTo (t1 rfl) (ev_var rfl)) (p_slMid (t1 rfl) (ev_var rfl) (at3 rfl)) (by have := l1 i; omega)) (p_slFrom (t1 rfl) (ev_var rfl)) (by rw [List.length_append]; have := l1 i; have := l2 i; omega)) (by simp)) (q_cons (p_lsE (p_listU (t1 rfl)) rfl) (q_cons (p_tuE (p_revU (t1 rfl)) (by simp)) (q_cons (p_var rfl hv5) q_nil)))) (by show 4 ≤ 100000; decide)) (by show 3 + 4 ≤ 100000; decide)) (fun v6 B6 H6 g6 h6 => ?_) (fun _ => rfl))
  have k6 := k5.gr g6
  dsimp only
  refine b_ret (b_op ⟨_, rfl, ?_⟩)
  refine x_pickI (K := K) (ks := [0, 0, 0, 1, 2, 3, 3, 4, 5, 6]) k6 (q_cons p_c (q_cons p_c (q_cons p_c (q_cons p_c (q_cons p_c (q_cons p_c (q_cons p_c (q_cons p_c (q_cons p_c (q_cons p_c q_nil)))))))))) rfl rfl (by decide) (by decide) (by omega) fun j hj B7 H7 k7 g7 => ?_
  have hm : ∀ b ∈ [0, 0, 0, 1, 2, 3, 3, 4, 5, (6 : Int)], 0 ≤ b ∧ b < 7 := by decide
  obtain ⟨b0, b1⟩ := hm _ (List.getElem_mem hj)
  refine x_at k7.e ((LsP _).m g7.b h6) b0 b1 fun j2 p wv hj2 hw => ?_
  rw [← List.map_append, List.getElem?_map] at hj2
  obtain ⟨x, hx, rfl⟩ := Option.map_eq_some_iff.mp hj2
  have hx := List.mem_of_getElem? hx
  refine q x wv B7 H7 ?_ (k7.le (by omega)) ((((g1.trans g2).trans g3).trans ((GX.gr g5).trans (GX.gr g6))).trans g7) hw
  simp only [L1, L4, List.cons_append, List.nil_append, List.mem_cons, List.not_mem_nil, or_false] at hx
  rcases hx with rfl | rfl | rfl | rfl | rfl | rfl | rfl
  · exact spo_put ho i
  · exact spo_out i
  · exact spo_ins ho i
  · exact spo_far i f
  · exact spo_list
  · exact spo_rev
  · exact .inr ho

end
end K12
namespace Nd
set_option autoImplicit false
open PySem PySem.Spec PySem.W PyProof.Rows L2 My Evl LamX NdefX
theorem tm_ex {d : PyData} (h : tmB d = true) : ∃ t : Mo × Fr, d = tmD t := by
  unfold tmB at h
  simp only [Bool.and_eq_true] at h
  obtain ⟨h0, h1, h2, _⟩ := h
  obtain ⟨m, hm⟩ := moB_ex h1
  obtain ⟨f, hf, _⟩ := frB_ex h2
  exact ⟨(m, f), by rw [tpl2 h0, hm, hf]; rfl⟩
theorem poB_ex {d : PyData} (h : poB d = true) : ∃ c : Po, d = poD c := by
  cases d <;> try (have h : false = true := h; cases h)
  rw [poB_tu] at h
  obtain ⟨l, rfl⟩ := list_ex (g := tmD) fun x hx => tm_ex (chainB_all h x hx)
  exact ⟨l, rfl⟩
theorem Wd.put {w : Nat} {r : List Nat} {ds : List PyData} {x : PyData} (h : Wd (w :: r) (.tuple ds)) (hx : Wd (r.map (· + 1)) x) (i : Nat) (hi : i < ds.length) : Wd ((w :: r).map (· + 1)) (.tuple (ds.take i ++ [x] ++ ds.drop (i + 1))) := by
  obtain ⟨l, a⟩ := h.tu
  refine wd_tu (by simp only [List.length_append, List.length_take, List.length_drop, List.length_singleton]; omega) fun y hy => ?_
  simp only [List.mem_append, List.mem_singleton] at hy
  rcases hy with (hy | rfl) | hy
  · exact (a y (List.mem_of_mem_take hy)).up
  · exact hx
  · exact (a y (List.mem_of_mem_drop hy)).up
theorem Wd.two {w : Nat} {r : List Nat} {x y : PyData} (hw : 2 ≤ w) (hx : Wd r x) (hy : Wd r y) : Wd (w :: r) (.tuple [x, y]) := wd_tu hw fun z hz => by
  simp only [List.mem_cons, List.not_mem_nil, or_false] at hz
  rcases hz with rfl | rfl
  · exact hx
  · exact hy
theorem Spo.wd1 {w v : Nat} {r : List Nat} {ds : List PyData} {x : PyData} (h : Spo ds x) (hd : Wd (w :: v :: r) (.tuple ds)) (h2 : 3 ≤ w) (h3 : 3 ≤ v) : Wd ((w :: v :: r).map (· + 1)) x := by
  obtain ⟨l, a⟩ := hd.tu
  rcases h with ⟨es, e, hl, ha⟩ | h
  · refine .inr ⟨es, e, by show es.length ≤ w + 1; omega, fun y hy => ?_⟩
    rcases ha y hy with h | h
    · exact (a y h).up
    · exact od_wd h (by show 3 ≤ v + 1; omega)
  · exact od_wd h (by show 3 ≤ w + 1; omega)
theorem wds_ok : ∀ x ∈ wdsB, PyData.canLay0 (.str x) = true := by decide +kernel
theorem Wd.can : ∀ {ws : List Nat} {d : PyData}, Wd ws d → d.hasDict = false → d.canLay0 = true := by
  have lf : ∀ {d : PyData}, leafB d = true → d.hasDict = false → d.canLay0 = true := fun {d} h hn => by
    cases d with
    | str x => exact wds_ok x (of_decide_eq_true h)
    | tuple xs => exact absurd h (by simp [leafB])
    | list xs => exact absurd h (by simp [leafB])
    | dict es => simp [PyData.hasDict] at hn
    | _ => first | rfl | exact absurd h (by simp [leafB])
  intro ws
  induction ws with
  | nil => exact fun h hn => lf h hn
  | cons w r ih =>
    intro d h hn
    rcases h with h | ⟨xs, h1, h2, h3⟩
    · exact lf h hn
    · have hd : ∀ {l : List PyData}, PyData.hasDictAll l = false → ∀ x ∈ l, x.hasDict = false := by
        intro l
        induction l with
        | nil => exact fun _ x hx => absurd hx List.not_mem_nil
        | cons y l ihl =>
          intro h x hx
          simp only [PyData.hasDictAll, Bool.or_eq_false_iff] at h
          rcases List.mem_cons.mp hx with rfl | hx
          · exact h.1
          · exact ihl h.2 x hx
      have all : ∀ {l : List PyData}, (∀ x ∈ l, x.canLay0 = true) → PyData.canLayAll0 l = true := by
        intro l
        induction l with
        | nil => exact fun _ => by rw [PyData.canLayAll0]
        | cons y l ihl =>
          intro h
          simp only [PyData.canLayAll0, h y List.mem_cons_self, ihl fun x hx => h x (List.mem_cons_of_mem _ hx), Bool.and_self]
      rcases h1 with rfl | rfl
      · rw [PyData.canLay0]
        exact all fun x hx => ih (h3 x hx) (hd (by simpa only [PyData.hasDict] using hn) x hx)
      · rw [PyData.canLay0]
        exact all fun x hx => ih (h3 x hx) (hd (by simpa only [PyData.hasDict] using hn) x hx)
theorem Wd.shp {ws : List Nat} {d : PyData} (h : Wd ws d) (hl : ws.length ≤ 10) (hn : d.hasDict = false) : SeqAt.shaped d = true := by
  unfold SeqAt.shaped
  rw [h.can hn, Bool.true_and]
  have := h.shw.d
  exact _root_.decide_eq_true (by omega)
theorem eqv_nilT (ds : List PyData) : PyData.eqv (.tuple ds) (.tuple []) = ds.isEmpty := by
  cases ds <;> simp [PyData.eqv, PyData.eqvAll]
theorem op_raw {R : R2} {σ : L2.St} {v u : V} {H : Hp} {Q : VK} (h : tOp R (tC v) (tC u) σ H Q) : R v u H Q := h
theorem p_cv {σ : L2.St} {B : Hp} {v : V} {p : Pr} (h : p.P v B) : EvP (tC v) σ B p := fun H1 a _ k => k v B H1 (Gr.refl a) h
end Nd
namespace K12
set_option autoImplicit false
open PySem PySem.Spec PySem.W PyProof.Rows L2 Evl My Nd LamX NdefX
section
variable {T : List (Addr × Str)} {d : Addr} {n : Nat} {B H : Hp} {K : PySem.W.Frag} {Q : VK} {σ : L2.St} {te : TE} {ds : List PyData}
/-- what is spoilt, in the law's words -/
theorem x_spo (k : Kx T d n B H) (h0 : σ[0]? = some (some (.ref d))) (h : EvP te σ B (IsE K (.tuple ds))) (hl : ds.length ≤ 1000) (hn : n ≤ 2 ^ 36) (q : ∀ (x : PyData) (v : V) (B' H' : Hp), Spo ds x → Kx T d (n + 16) B' H' → GX d B H B' H' → De K B' v x → Q v H') : tCall (spSpoilt K T) [] E0 (tCons (tVar 0) (tCons te tNil)) σ H Q :=
  c_call (b_cons ⟨_, h0, b_cons (h H k.e _ fun vt B1 H1 g1 h1 => b_nil ⟨B1, d, n, ds, vt, rfl, h1, hl, k.gr g1, hn, fun x v B' H' hs k' g' hv => q x v B' H' hs k' ((GX.gr g1).trans g') hv⟩)⟩)
/-- row[:at] + (a drawn one,) + row[at + 1:] -/
theorem x_put {i1 j at' m : Nat} {v : V} {R : PyData → Prop} (k : Kx T d n B H) (hi : σ[i1]? = some (some v)) (hv : De K B v (.tuple ds)) (hj : σ[j]? = some (some (.int (at' : Nat)))) (hl : ds.length ≤ 1000)
    (step : ∀ (B1 H1 : Hp) (Q' : VK), Kx T d n B1 H1 → GX d B H B1 H1 → (∀ (x : PyData) vx B2 H2, R x → Kx T d m B2 H2 → GX d B1 H1 B2 H2 → De K B2 vx x → Q' vx H2) → te σ H1 Q')
    (q : ∀ (x : PyData) vr B' H', R x → Kx T d m B' H' → GX d B H B' H' → De K B' vr (.tuple (ds.take at' ++ [x] ++ ds.drop (at' + 1))) → Q vr H') :
    tOp (rCatA K) (tOp (rCatA K) (tSl (rSlA K) (tVar i1) tNoPart (tPart (tVar j))) (tTup (tCons te tNil))) (tSl (rSlA K) (tVar i1) (tPart (tOp (rI0 fun i j => .int (i + j)) (tVar j) (tC (.int 1)))) tNoPart) σ H Q := by
  refine b_op (b_op (p_slTo (p_var hi (tu_e hv)) (ev_var hj) H k.e _ fun v1 B1 H1 g1 h1 => b_tup (b_cons ?_)))
  refine step B1 H1 _ (k.gr g1) (GX.gr g1) fun x vx B2 H2 hx k2 g2 hvx => b_nil ⟨by show 1 ≤ sizeLine; decide, fun r hr => ?_⟩
  have n1 := Gr.new (B := B2) (.tup [vx]) k2.e hr
  have k3 := k2.gr n1
  have t1 : (TuP K [IsE K x]).P (.ref r) (upd B2 r (.tup [vx])) := ⟨r, _, rfl, st_of upd_same, de_m n1.b hvx, trivial⟩
  have l1 : ((ds.map (IsE K)).take at').length ≤ 1000 := by rw [List.length_take, List.length_map]; omega
  have l2 : ((ds.map (IsE K)).drop (at' + 1)).length ≤ 1000 := by rw [List.length_drop, List.length_map]; omega
  have c1 := p_catU (σ := σ) (p_cv ((TuP K ((ds.map (IsE K)).take at')).m (g2.b.trans n1.b) h1)) (p_cv (σ := σ) t1) (by show _ + 1 ≤ _; omega)
  refine op_raw (σ := σ) ?_
  refine c1 _ k3.e _ fun v4 B4 H4 g4 h4 => ?_
  have k4 := k3.gr g4
  have e4 := ((g1.b.trans g2.b).trans n1.b).trans g4.b
  refine p_slFrom (σ := σ) (k := at' + 1) (p_var hi (tu_e (de_m e4 hv))) (ev_is (ev_op (ev_var hj) ev_c rv_I0) (congrArg V.int (by omega))) _ k4.e _ fun v5 B5 H5 g5 h5 => ?_
  have k5 := k4.gr g5
  have c2 := p_catU (σ := σ) (p_cv ((TuP K _).m g5.b h4)) (p_cv (σ := σ) h5) (by rw [List.length_append]; show _ + 1 + _ ≤ _; omega)
  refine op_raw (σ := σ) ?_
  refine c2 _ k5.e _ fun v6 B6 H6 g6 h6 => ?_
  refine q x v6 B6 H6 hx (k5.gr g6) (((GX.gr g1).trans g2).trans (((GX.gr n1).trans (GX.gr g4)).trans ((GX.gr g5).trans (GX.gr g6)))) ?_
  have e6 : (ds.map (IsE K)).take at' ++ [IsE K x] ++ (ds.map (IsE K)).drop (at' + 1) = (ds.take at' ++ [x] ++ ds.drop (at' + 1)).map (IsE K) := by simp
  rw [e6] at h6
  exact e_tu h6
end
def up1 (ws : List Nat) : List Nat := ws.map (· + 1)
def spBent (K : PySem.W.Frag) (T : List (Addr × Str)) : Sp := fun vs H Q _ => ∃ (B : Hp) (d : Addr) (n : Nat) (p : Po) (a b c e f g : Nat) (vt : V), vs = [.ref d, vt] ∧ De K B vt (poD p) ∧ Wd [a, b, c, e, f, g] (poD p) ∧ (∀ x ∈ [a, b, c, e, f, g], 3 ≤ x ∧ x ≤ 100) ∧ Kx T d n B H ∧ n ≤ 2 ^ 35 ∧ ∀ (x : PyData) (v : V) (B' H' : Hp), Wd (up1 [a, b, c, e, f, g]) x → Kx T d (n + 60) B' H' → GX d B H B' H' → De K B' v x → Q v H'
section
variable {P : Program} {w : World} {K : PySem.W.Frag} {mg : Str → Option Value} {base : Heap} {T : List (Addr × Str)}

/-- _law_bent -/
abbrev s_Lbent : Stmt := topS 56
abbrev N_Lbent : List Str := ["_law_state", "_law_thing", "_law_way", "_law_at", "_law_monomial_here", "_law_number_here", "_law_spot", "_law_pair", "_law_own"]
theorem sc_Lbent : FnScope N_Lbent ["_law_state", "_law_thing"] (defScope s_Lbent) := ⟨rfl, rfl, rfl, by decide +kernel, rfl, by decide +kernel, by decide +kernel⟩
theorem ok_Lbent {f : Addr} {fd : FuncData} (F : Fun K "_law_bent" "_law_bent" s_Lbent f fd)  {f_Ldigit : Addr} {d_Ldigit : FuncData} (c_Ldigit : Cal P w K mg base "_law_digit" 2 ["_law_state", "_law_size"] spDigit f_Ldigit d_Ldigit) {f_Lspoilt : Addr} {d_Lspoilt : FuncData} (c_Lspoilt : Cal P w K mg base "_law_spoilt" 4 ["_law_state", "_law_things"] (spSpoilt K T) f_Lspoilt d_Lspoilt) (n_len : mg "len" = none)  :
    FnOk P w K mg base CX0 5 f fd ["_law_state", "_law_thing"] (spBent K T) := by
  refine F.ok sc_Lbent (fun vs H Q E h => by obtain ⟨_, _, _, _, _, _, _, _, _, _, _, rfl, _⟩ := h; rfl) (fun cdv A outer s H vs Q E hr h => ?_)
  obtain ⟨B, d, n, p, a, b, c, e, f, g, vt, rfl, hT, hw, hlo, k, hn, q⟩ := h
  simp only [List.mem_cons, List.not_mem_nil, or_false, forall_eq_or_imp, forall_eq] at hlo
  obtain ⟨⟨la, ua⟩, ⟨lb, ub⟩, ⟨lc, uc⟩, ⟨le, ue⟩, ⟨lf, uf⟩, ⟨lg, ug⟩⟩ := hlo
  have hu := hu_of hr
  refine ⟨_, (pss_cons (ps_set (i := 2) sc_Lbent.nd rfl (by first | exact .inl rfl | exact .inr rfl) (pe_call c_Ldigit.G (hr.mono (by decide)) (by rfl) c_Ldigit.m c_Ldigit.k c_Ldigit.b .nil pass0 (pa_cons (pv 0) (pa_cons pe_int pa_nil))))
    (pss_cons (ps_if (PW.pt (pw_or (pt_cmpR op_eq (pv 2) pe_int (nomark _)) (pw_or1 (pt_cmpR (show OpR _ (compareOp .Eq) (rEqD K) from op_eqD hr.units) (pv 1) (pe_tup pa_nil) (nomark _))))) (pss_one (ps_ret (pe_call c_Lspoilt.G (hr.mono (by decide)) (by rfl) c_Lspoilt.m c_Lspoilt.k c_Lspoilt.b .nil pass0 (pa_cons (pv 0) (pa_cons (pv 1) pa_nil))))) pss_nil)
    (pss_cons (ps_set (i := 3) sc_Lbent.nd rfl (by first | exact .inl rfl | exact .inr rfl) (pe_call c_Ldigit.G (hr.mono (by decide)) (by rfl) c_Ldigit.m c_Ldigit.k c_Ldigit.b .nil pass0 (pa_cons (pv 0) (pa_cons (pe_callB call_len_seq (by rfl) n_len (by decide +kernel) (pa_cons (pv 1) pa_nil)) pa_nil))))
    (pss_cons (ps_asg (pe_ix (show IxR _ (rIxT K) from ix_tup) (pv 1) (pv 3) (fun _ _ => rfl)) (pg_tup (by rfl) (pgs_cons (pg_name (i := 4) sc_Lbent.nd rfl (by first | exact .inl rfl | exact .inr rfl)) (pgs_cons (pg_name (i := 5) sc_Lbent.nd rfl (by first | exact .inl rfl | exact .inr rfl)) pgs_nil))))
    (pss_cons (ps_if (pt_cmpR op_eq (pv 2) pe_int (nomark _)) (pss_one (ps_ret (pe_op op_catA (pe_op op_catA (pe_slice sl_tupA (pv 1) po_none (po_some (pv 3))) (pe_tup (pa_cons (pe_call c_Lspoilt.G (hr.mono (by decide)) (by rfl) c_Lspoilt.m c_Lspoilt.k c_Lspoilt.b .nil pass0 (pa_cons (pv 0) (pa_cons (pe_ix (show IxR _ (rIxT K) from ix_tup) (pv 1) (pv 3) (fun _ _ => rfl)) pa_nil))) pa_nil))) (pe_slice sl_tupA (pv 1) (po_some (pe_op op_add (pv 3) pe_int)) po_none)))) pss_nil)
    (pss_cons (ps_if (PW.pt (pw_or (pt_cmpR op_eq (pv 2) pe_int (nomark _)) (pw_or1 (pt_cmpR (show OpR _ (compareOp .Eq) (rEqD K) from op_eqD hr.units) (pv 4) (pe_tup pa_nil) (nomark _))))) (pss_one (ps_ret (pe_op op_catA (pe_op op_catA (pe_slice sl_tupA (pv 1) po_none (po_some (pv 3))) (pe_tup (pa_cons (pe_tup (pa_cons (pv 4) (pa_cons (pe_call c_Lspoilt.G (hr.mono (by decide)) (by rfl) c_Lspoilt.m c_Lspoilt.k c_Lspoilt.b .nil pass0 (pa_cons (pv 0) (pa_cons (pv 5) pa_nil))) pa_nil))) pa_nil))) (pe_slice sl_tupA (pv 1) (po_some (pe_op op_add (pv 3) pe_int)) po_none)))) pss_nil)
    (pss_cons (ps_set (i := 6) sc_Lbent.nd rfl (by first | exact .inl rfl | exact .inr rfl) (pe_call c_Ldigit.G (hr.mono (by decide)) (by rfl) c_Ldigit.m c_Ldigit.k c_Ldigit.b .nil pass0 (pa_cons (pv 0) (pa_cons (pe_callB call_len_seq (by rfl) n_len (by decide +kernel) (pa_cons (pv 4) pa_nil)) pa_nil))))
    (pss_cons (ps_set (i := 7) sc_Lbent.nd rfl (by first | exact .inl rfl | exact .inr rfl) (pe_call c_Lspoilt.G (hr.mono (by decide)) (by rfl) c_Lspoilt.m c_Lspoilt.k c_Lspoilt.b .nil pass0 (pa_cons (pv 0) (pa_cons (pe_ix (show IxR _ (rIxT K) from ix_tup) (pv 4) (pv 6) (fun _ _ => rfl)) pa_nil))))
    (pss_cons (ps_if (pt_cmpR op_eq (pv 2) pe_int (nomark _)) (pss_one (ps_set (i := 7) sc_Lbent.nd rfl (by first | exact .inl rfl | exact .inr rfl) (pe_tup (pa_cons (pe_call c_Lspoilt.G (hr.mono (by decide)) (by rfl) c_Lspoilt.m c_Lspoilt.k c_Lspoilt.b .nil pass0 (pa_cons (pv 0) (pa_cons (pe_ix (show IxR _ (rIxT K) from ix_tup) (pe_ix (show IxR _ (rIxT K) from ix_tup) (pv 4) (pv 6) (fun _ _ => rfl)) pe_int (fun _ _ => rfl)) pa_nil))) (pa_cons (pe_ix (show IxR _ (rIxT K) from ix_tup) (pe_ix (show IxR _ (rIxT K) from ix_tup) (pv 4) (pv 6) (fun _ _ => rfl)) pe_int (fun _ _ => rfl)) pa_nil))))) pss_nil)
    (pss_cons (ps_set (i := 8) sc_Lbent.nd rfl (by first | exact .inl rfl | exact .inr rfl) (pe_op op_catA (pe_op op_catA (pe_slice sl_tupA (pv 4) po_none (po_some (pv 6))) (pe_tup (pa_cons (pv 7) pa_nil))) (pe_slice sl_tupA (pv 4) (po_some (pe_op op_add (pv 6) pe_int)) po_none)))
    (pss_one (ps_ret (pe_op op_catA (pe_op op_catA (pe_slice sl_tupA (pv 1) po_none (po_some (pv 3))) (pe_tup (pa_cons (pe_tup (pa_cons (pv 8) (pa_cons (pv 5) pa_nil))) pa_nil))) (pe_slice sl_tupA (pv 1) (po_some (pe_op op_add (pv 3) pe_int)) po_none)))))))))))))), ?_⟩
  have hp := hw.tu
  have lp : (p.map tmD).length ≤ 100 := Nat.le_trans hp.1 ua
  refine b_seq (b_asg ?_)
  refine x_digit (z := 5) k rfl ev_c (by decide) (by decide) (by omega) fun m H1 m0 m1 k1 g1 => ?_
  dsimp only [gName, List.set_cons_succ, List.set_cons_zero]
  have t1 : EvT _ [some (.ref d), some vt, some (.int m), none, none, none, none, none, none] B _ := et_or (a := decide (V.int m = V.int 0)) (b := (p.map tmD).isEmpty) (et_test (ev_op (ev_var (i := 2) rfl) ev_c (rv_eq rfl))) fun _ => by
    have := ev_eqD (K := K) (p_eD (p_var (i := 1) (p := IsE K (poD p)) (σ := [some (.ref d), some vt, some (.int m), none, none, none, none, none, none]) rfl hT) (nd_po p)) (p_eD (p_tuE (ds := []) (p_tup (K := K) q_nil (by decide)) rfl) rfl) (hw.shp (by show 6 ≤ 10; decide) (nd_po p)) rfl
    rw [show poD p = .tuple (p.map tmD) from rfl, eqv_nilT] at this
    exact et_test this
  cases c1 : (decide (V.int m = V.int 0) || (p.map tmD).isEmpty) with
  | true =>
    refine b_seq (ps_ifT k1.e (et_is t1 c1) fun H2 e2 => ?_)
    refine b_ret (x_spo (K := K) (ds := p.map tmD) (k1.ex e2) rfl (p_var rfl hT) (by omega) (by omega) fun x v B' H' hs k' g' hv => ?_)
    exact q x v B' H' (hs.wd1 hw la lb) (k'.le (by omega)) ((g1.trans (GX.ex e2)).trans g') hv
  | false =>
  refine b_seq (ps_ifN k1.e (et_is t1 c1) fun H2 e2 => ?_)
  dsimp only
  rw [Bool.or_eq_false_iff] at c1
  have k2 := k1.ex e2
  have pos : 0 < p.length := by
    rcases p with _ | ⟨x, l⟩
    · simp at c1
    · exact Nat.succ_pos _
  have lp2 : p.length ≤ 100 := by rw [List.length_map] at lp; exact lp
  refine b_seq (b_asg ?_)
  refine x_digit (z := (((p.map tmD).length : Nat) : Int)) k2 rfl (ev_lenE (p_var (p := IsE K (poD p)) rfl hT) (.inl rfl)) (by rw [List.length_map]; omega) (by omega) (by omega) fun m2 H3 m20 m21 k3 g3 => ?_
  obtain ⟨i, rfl, hi⟩ : ∃ i : Nat, m2 = (i : Int) ∧ i < p.length := ⟨m2.toNat, by omega, by rw [List.length_map] at m21; omega⟩
  dsimp only [gName, List.set_cons_succ, List.set_cons_zero]
  have hit : ((p.map tmD).map (IsE K))[i]? = some (IsE K (.tuple [moD p[i].1, frD p[i].2])) := by
    rw [List.getElem?_map, List.getElem?_map, List.getElem?_eq_getElem hi]
    rfl
  have wt : Wd [b, c, e, f, g] (.tuple [moD p[i].1, frD p[i].2]) := hp.2 _ (List.mem_map.mpr ⟨p[i], List.getElem_mem hi, rfl⟩)
  have wm : Wd [c, e, f, g] (moD p[i].1) := wt.tu.2 _ List.mem_cons_self
  have wf : Wd [c, e, f, g] (frD p[i].2) := wt.tu.2 _ (List.mem_cons_of_mem _ List.mem_cons_self)
  refine b_seq (ps_un2 (K := K) (p := IsE K (moD p[i].1)) (q := IsE K (frD p[i].2)) k3.e ((p_ixT (K := K) (ps := (p.map tmD).map (IsE K)) (p_var rfl (tu_e hT)) (p_varV rfl) (atI_nat hit)).imp fun v B1 _ x => tu_e x) fun vm vf B4 H4 g4 hm hf => ?_)
  have k4 := k3.gr g4
  have hT4 := de_m g4.b hT
  generalize hM : moD p[i].1 = M at *
  generalize hF : frD p[i].2 = F at *
  obtain ⟨ms, rfl, hms⟩ : ∃ ms, M = .tuple ms ∧ ms = p[i].1.map pwD := ⟨_, hM.symm, rfl⟩
  obtain ⟨fs, rfl, _⟩ : ∃ fs, F = .tuple fs ∧ fs = [.int p[i].2.1, .int p[i].2.2] := ⟨_, hF.symm, rfl⟩
  have lm := Nat.le_trans wm.tu.1 uc
  have lf2 := Nat.le_trans wf.tu.1 uc
  have G4 := ((g1.trans (GX.ex e2)).trans g3).trans (GX.gr g4)
  dsimp only [List.set_cons_succ, List.set_cons_zero]
  have tx : ∀ z : Int, EvT (tTest (tOp rEq (tVar 2) (tC (.int z)))) [some (.ref d), some vt, some (.int m), some (.int (i : Nat)), some vm, some vf, none, none, none] B4 (decide (V.int m = V.int z)) := fun z => et_test (ev_op (ev_var rfl) ev_c (rv_eq rfl))
  -- a term
  cases c2 : decide (V.int m = V.int 1) with
  | true =>
    refine b_seq (ps_ifT k4.e (et_is (tx 1) c2) fun H5 e5 => ?_)
    refine b_ret (x_put (K := K) (R := fun x => Wd (up1 [b, c, e, f, g]) x) (m := n + 4 + 4 + 16) (k4.ex e5) rfl hT4 rfl (by omega) (fun B6 H6 Q' k6 g6 st => ?_) fun x vr B' H' hx k' g' hv => ?_)
    · refine x_spo (K := K) (ds := [.tuple ms, .tuple fs]) k6 rfl ((p_ixT (K := K) (ps := (p.map tmD).map (IsE K)) (p_var rfl (tu_e (de_m g6.b hT4))) (p_varV rfl) (atI_nat hit))) (by show 2 ≤ 1000; decide) (by omega) fun x v B7 H7 hs k7 g7 hv => ?_
      exact st x v B7 H7 (hs.wd1 wt lb lc) k7 g7 hv
    · exact q _ vr B' H' (hw.put hx i (by rw [List.length_map]; exact hi)) (k'.le (by omega)) ((G4.trans (GX.ex e5)).trans g') hv
  | false =>
  refine b_seq (ps_ifN k4.e (et_is (tx 1) c2) fun H5 e5 => ?_)
  have k5 := k4.ex e5
  have G5 := G4.trans (GX.ex e5)
  dsimp only
  -- its number
  have ndM : (PyData.tuple ms).hasDict = false := by rw [← hM]; exact nd_mo _
  have t3 : EvT _ [some (.ref d), some vt, some (.int m), some (.int (i : Nat)), some vm, some vf, none, none, none] B4 _ := et_or (a := decide (V.int m = V.int 2)) (b := ms.isEmpty) (tx 2) fun _ => by
    have := ev_eqD (K := K) (p_eD (p_var (i := 4) (p := IsE K (.tuple ms)) (σ := [some (.ref d), some vt, some (.int m), some (.int (i : Nat)), some vm, some vf, none, none, none]) rfl hm) ndM) (p_eD (p_tuE (ds := []) (p_tup (K := K) q_nil (by decide)) rfl) rfl) (wm.shp (by show 4 ≤ 10; decide) ndM) rfl
    rw [eqv_nilT] at this
    exact et_test this
  cases c3 : (decide (V.int m = V.int 2) || ms.isEmpty) with
  | true =>
    refine b_seq (ps_ifT k5.e (et_is t3 c3) fun H6 e6 => ?_)
    refine b_ret (x_put (K := K) (R := fun x => Wd (up1 [b, c, e, f, g]) x) (m := n + 4 + 4 + 16) (k5.ex e6) rfl hT4 rfl (by omega) (fun B6 H6 Q' k6 g6 st => ?_) fun x vr B' H' hx k' g' hv => ?_)
    · refine b_tup (b_cons ⟨_, rfl, b_cons ?_⟩)
      refine x_spo (K := K) (ds := fs) k6 rfl (p_var rfl (de_m g6.b hf)) (by omega) (by omega) fun x v B7 H7 hs k7 g7 hv => ?_
      refine b_nil ⟨by show 2 ≤ sizeLine; decide, fun r hr => ?_⟩
      have n1 := Gr.new (B := B7) (.tup [vm, v]) k7.e hr
      exact st (.tuple [.tuple ms, x]) _ _ _ (Wd.two (by show 2 ≤ b + 1; omega) wm.up (hs.wd1 wf lc le)) (k7.gr n1) (g7.trans (GX.gr n1)) (.tup (st_of upd_same) (.cons (de_m ((g6.b.trans g7.b).trans n1.b) hm) (.cons (de_m n1.b hv) .nil)))
    · exact q _ vr B' H' (hw.put hx i (by rw [List.length_map]; exact hi)) (k'.le (by omega)) ((G5.trans (GX.ex e6)).trans g') hv
  | false =>
  refine b_seq (ps_ifN k5.e (et_is t3 c3) fun H6 e6 => ?_)
  have k6 := k5.ex e6
  have G6 := G5.trans (GX.ex e6)
  dsimp only
  -- within its monomial
  rw [Bool.or_eq_false_iff] at c3
  have posm : 0 < ms.length := by
    rcases ms with _ | ⟨x, l⟩
    · simp at c3
    · exact Nat.succ_pos _
  refine b_seq (b_asg ?_)
  refine x_digit (z := ((ms.length : Nat) : Int)) k6 rfl (ev_lenE (p_var (p := IsE K (.tuple ms)) rfl hm) (.inl rfl)) (by omega) (by omega) (by omega) fun m3 H7 m30 m31 k7 g7 => ?_
  obtain ⟨j, rfl, hj⟩ : ∃ i : Nat, m3 = (i : Int) ∧ i < ms.length := ⟨m3.toNat, by omega, by omega⟩
  dsimp only [gName, List.set_cons_succ, List.set_cons_zero]
  have hjl : j < p[i].1.length := by rw [hms, List.length_map] at hj; exact hj
  have ej : ms[j] = .tuple [p[i].1[j].1.D, .int p[i].1[j].2] := by
    subst hms
    rw [List.getElem_map]
    rfl
  generalize hY : p[i].1[j] = y at ej
  have hjt : (ms.map (IsE K))[j]? = some (IsE K (.tuple [y.1.D, .int y.2])) := by
    rw [List.getElem?_map, List.getElem?_eq_getElem hj, ej]
    rfl
  have wp : Wd [e, f, g] (.tuple [y.1.D, .int y.2]) := by
    rw [← ej]
    exact wm.tu.2 _ (List.getElem_mem hj)
  have wd : Wd [f, g] y.1.D := wp.tu.2 _ List.mem_cons_self
  have wk : Wd [f, g] (.int y.2) := wp.tu.2 _ (List.mem_cons_of_mem _ List.mem_cons_self)
  have atj : ∀ {σ : L2.St} {B' : Hp}, Ex B4 B' → σ[4]? = some (some vm) → σ[6]? = some (some (.int (j : Nat))) → EvP (tOp (rIxT K) (tVar 4) (tVar 6)) σ B' (IsE K (.tuple [y.1.D, .int y.2])) := fun e h1 h2 => p_ixT (K := K) (ps := ms.map (IsE K)) (p_var h1 (tu_e (de_m e hm))) (p_varV h2) (atI_nat hjt)
  refine b_seq (b_asg ?_)
  refine x_spo (K := K) (ds := [y.1.D, .int y.2]) k7 rfl (atj (Ex.refl _) rfl rfl) (by show 2 ≤ 1000; decide) (by omega) fun pr vp B8 H8 hs k8 g8 hvp => ?_
  dsimp only [gName, List.set_cons_succ, List.set_cons_zero]
  have wpr : Wd (up1 [e, f, g]) pr := hs.wd1 wp le lf
  -- what follows, with any pair
  have rest : ∀ (pr : PyData) (vp : V) (B9 H9 : Hp), Wd (up1 [e, f, g]) pr → Kx T d (n + 44) B9 H9 → GX d B4 H4 B9 H9 → De K B9 vp pr → ∀ D : Ends, D.rt = Q → tSeq (tAsg (tOp (rCatA K) (tOp (rCatA K) (tSl (rSlA K) (tVar 4) tNoPart (tPart (tVar 6))) (tTup (tCons (tVar 7) tNil))) (tSl (rSlA K) (tVar 4) (tPart (tOp (rI0 fun i j => .int (i + j)) (tVar 6) (tC (.int 1)))) tNoPart)) (gName 8)) (tRet (tOp (rCatA K) (tOp (rCatA K) (tSl (rSlA K) (tVar 1) tNoPart (tPart (tVar 3))) (tTup (tCons (tTup (tCons (tVar 8) (tCons (tVar 5) tNil))) tNil))) (tSl (rSlA K) (tVar 1) (tPart (tOp (rI0 fun i j => .int (i + j)) (tVar 3) (tC (.int 1)))) tNoPart))) D [some (.ref d), some vt, some (.int m), some (.int (i : Nat)), some vm, some vf, some (.int (j : Nat)), some vp, none] H9 := fun pr vp B9 H9 wpr k9 G9 hvp D hD => by
    refine b_seq (b_asg ?_)
    refine x_put (K := K) (R := fun x => x = pr) (m := n + 44) k9 rfl (de_m G9.b hm) rfl (by omega) (fun B6 H6 Q' k6 g6 st => ⟨_, rfl, st pr vp B6 H6 rfl k6 GX.refl (de_m g6.b hvp)⟩) fun x vr B' H' hx k' g' hv => ?_
    subst hx
    dsimp only [gName, List.set_cons_succ, List.set_cons_zero]
    have wo := wm.put wpr j hj
    refine b_ret (x_put (K := K) (R := fun y => y = .tuple [.tuple (ms.take j ++ [x] ++ ms.drop (j + 1)), .tuple fs]) (m := n + 44) k' rfl (de_m (G9.b.trans g'.b) hT4) rfl (by omega) (fun B6 H6 Q' k6 g6 st => b_tup (b_cons ⟨_, rfl, b_cons ⟨_, rfl, b_nil ⟨by show 2 ≤ sizeLine; decide, fun r hr => ?_⟩⟩⟩)) fun y vr2 B2 H2 hy k2 g2 hv2 => ?_)
    · have n1 := Gr.new (B := B6) (.tup [vr, vf]) k6.e hr
      exact st _ _ _ _ rfl (k6.gr n1) (GX.gr n1) (.tup (st_of upd_same) (.cons (de_m (g6.b.trans n1.b) hv) (.cons (de_m (((G9.b.trans g'.b).trans g6.b).trans n1.b) hf) .nil)))
    · subst hy
      rw [hD]
      exact q _ vr2 B2 H2 (hw.put (Wd.two (w := b + 1) (by omega) wo wf.up) i (by rw [List.length_map]; exact hi)) (k2.le (by omega)) (((G4.trans G9).trans g').trans g2) hv2
  have G8 : GX d B4 H4 B8 H8 := (((GX.ex e5).trans (GX.ex e6)).trans g7).trans g8
  have tx4 : EvT (tTest (tOp rEq (tVar 2) (tC (.int 4)))) [some (.ref d), some vt, some (.int m), some (.int (i : Nat)), some vm, some vf, some (.int (j : Nat)), some vp, none] B8 (decide (V.int m = V.int 4)) := et_test (ev_op (ev_var rfl) ev_c (rv_eq rfl))
  cases c4 : decide (V.int m = V.int 4) with
  | false =>
    refine b_seq (ps_ifN k8.e (et_is tx4 c4) fun H9 e9 => ?_)
    exact rest pr vp B8 H9 wpr ((k8.ex e9).le (by omega)) (G8.trans (GX.ex e9)) hvp _ rfl
  | true =>
    refine b_seq (ps_ifT k8.e (et_is tx4 c4) fun H9 e9 => ?_)
    have k9 := k8.ex e9
    refine b_asg (b_tup (b_cons ?_))
    refine x_spo (K := K) (ds := [.str y.1.n, .int y.1.i, .int y.1.j]) k9 rfl ((p_ixT (K := K) (ps := [IsE K y.1.D, IsE K (.int y.2)]) (j := 0) ((atj g8.b rfl rfl).imp fun v B1 _ x => tu_e x) p_c rfl)) (by show 3 ≤ 1000; decide) (by omega) fun x vx B10 H10 hs k10 g10 hvx => b_cons ?_
    refine p_ixT (K := K) (ps := [IsE K y.1.D, IsE K (.int y.2)]) (j := 1) ((atj (g8.b.trans g10.b) rfl rfl).imp fun v B1 _ x => tu_e x) p_c rfl H10 k10.e _ fun vk B11 H11 g11 hvk => b_nil ⟨by show 2 ≤ sizeLine; decide, fun r hr => ?_⟩
    have k11 := k10.gr g11
    have n1 := Gr.new (B := B11) (.tup [vx, vk]) k11.e hr
    dsimp only [gName, List.set_cons_succ, List.set_cons_zero]
    exact rest (.tuple [x, .int y.2]) (.ref r) _ _ (Wd.two (w := e + 1) (by omega) (hs.wd1 wd lf lg) wk.up) ((k11.gr n1).le (by omega)) (((G8.trans (GX.ex e9)).trans g10).trans ((GX.gr g11).trans (GX.gr n1))) (.tup (st_of upd_same) (.cons (de_m (g11.b.trans n1.b) hvx) (.cons (de_m n1.b hvk) .nil))) _ rfl

end
end K12
namespace Nd
set_option autoImplicit false
open PySem PySem.Spec PySem.W PyProof.Rows L2 My Evl LamX NdefX
def rkL (a : Nat) : Rk := ⟨false, ["u", "v"], if a = 1 then 0 else 1⟩
theorem rkL_ok {a : Nat} : (rkL a).Ok := ⟨by show 1 ≤ 2; decide, by show 2 ≤ 3; decide, by show (["u", "v"] : List Str).Nodup; decide +kernel, fun x hx => by
  have hx : x ∈ (["u", "v"] : List Str) := hx
  simp only [List.mem_cons, List.not_mem_nil, or_false] at hx
  unfold IsNm
  rcases hx with rfl | rfl <;> decide +kernel⟩
theorem rkL_ax {a : Nat} (h : 1 ≤ a) (k : a ≤ 2) : (rkL a).axs.length = a := by
  rcases (by omega : a = 1 ∨ a = 2) with rfl | rfl <;> rfl
def rkD : Rk := ⟨false, ["u", "abcdefgh"], 1⟩
theorem rkD_ok : rkD.Ok := ⟨by show 1 ≤ 2; decide, by show 2 ≤ 3; decide, by show (["u", "abcdefgh"] : List Str).Nodup; decide +kernel, fun x hx => by
  have hx : x ∈ (["u", "abcdefgh"] : List Str) := hx
  simp only [List.mem_cons, List.not_mem_nil, or_false] at hx
  unfold IsNm
  rcases hx with rfl | rfl <;> decide +kernel⟩
theorem leaf_int {i : Int} (h : i.natAbs < 1000) : leafB (.int i) = true := by
  show decide (i.natAbs < 10 ^ 31) = true
  exact _root_.decide_eq_true (Nat.lt_trans h (by decide))
theorem wd_dv0 {u : Dv} {r : List Nat} (hn : u.n ∈ wdsB) (hi : u.i.natAbs < 1000) (hj : u.j.natAbs < 1000) : Wd (3 :: r) u.D := wd_tu (by show 3 ≤ 3; decide) fun x hx => by
  simp only [List.mem_cons, List.not_mem_nil, or_false] at hx
  rcases hx with rfl | rfl | rfl
  · exact Wd.leaf (show leafB (.str u.n) = true from _root_.decide_eq_true hn)
  · exact Wd.leaf (leaf_int hi)
  · exact Wd.leaf (leaf_int hj)
theorem wd_dv {u : Dv} (h : u.Of rkD) (h9 : u.i + u.j ≤ (9 : Nat)) : Wd [3, 3] u.D := by
  have i0 := h.i
  have j0 := h.j
  have hn : u.n ∈ (["u", "abcdefgh"] : List Str) := h.n
  exact wd_dv0 ((by decide +kernel : ∀ x ∈ (["u", "abcdefgh"] : List Str), x ∈ wdsB) _ hn) (by omega) (by omega)
theorem LP.pg {r : Rk} {p : Pq} (h : LP r 5 p) : PG r p := ⟨h.c, h.of, fun t ht => Nat.le_trans (h.dg t ht) (by decide), Nat.le_trans h.ln (by decide), ⟨6, 150, by decide, Nat.lt_of_lt_of_le (by decide : 6 < 2 ^ 10) (Nat.pow_le_pow_right (by decide) (by decide)), Nat.lt_of_lt_of_le (by decide : 150 < 2 ^ 10) (Nat.pow_le_pow_right (by decide) (by decide)), h.lm⟩⟩
theorem wd_po {a : Nat} {p : Pq} (h : LP (rkL a) 5 p) : Wd [5, 3, 3, 3, 3, 3] (poD (toPo p)) := by
  refine wd_tu (by unfold toPo; rw [List.length_map, List.length_map]; exact h.ln) fun x hx => ?_
  obtain ⟨t, ht, rfl⟩ := List.mem_map.mp hx
  obtain ⟨s, hs, rfl⟩ := List.mem_map.mp ht
  have hm := h.c.m s hs
  have dg := h.dg s hs
  have ln := Nat.le_trans (mo_len hm) dg
  refine (Wd.two (w := 2) (Nat.le_refl _) ?_ ?_).le1 (by decide)
  · refine wd_tu (by rw [List.length_map]; exact ln) fun x hx => ?_
    obtain ⟨y, hy, rfl⟩ := List.mem_map.mp hx
    have of := h.of s hs y hy
    have o := h.o s hs y hy
    have i0 := of.i
    have j0 := of.j
    have pw := Nat.le_trans (dg_at hy) dg
    have hn : y.1.n ∈ (["u", "v"] : List Str) := of.n
    exact (Wd.two (w := 2) (Nat.le_refl _) (wd_dv0 ((by decide +kernel : ∀ x ∈ (["u", "v"] : List Str), x ∈ wdsB) _ hn) (by omega) (by omega)) (Wd.leaf (leaf_int (by omega)))).le1 (by decide)
  · obtain ⟨w1, w2⟩ := h.lm.at hs
    obtain ⟨q1, q2⟩ := ab_small (by decide) w1
    refine (Wd.two (w := 2) (Nat.le_refl _) (Wd.leaf (leaf_int ?_)) (Wd.leaf (leaf_int ?_))).le1 (by decide)
    · show s.2.num.natAbs < 1000
      omega
    · show ((s.2.den : Nat) : Int).natAbs < 1000
      omega
theorem due_nil {d : PyData} (h : poB d = true) : dueL (poAt d) = [] := by
  have h : (poAt d).isNone = true := h
  rw [Option.isNone_iff_eq_none.mp h]
  rfl
def sm5 : List PyData := [.tuple [], .tuple [.tuple [], .tuple [.int 1, .int 1]], .tuple [.tuple [.tuple [], .tuple [.int 1, .int 1]]], .tuple [.tuple [.tuple [], .tuple [.int 2, .int 2]]], .tuple [.tuple [], .tuple []]]
def sm6 : PyData := .tuple [.tuple [.tuple [.tuple [.tuple [.str "u", .int 0, .int 0], .int 0]], .tuple [.int 1, .int 1]]]
def wdB : List Nat → PyData → Bool
  | [], d => leafB d
  | w :: r, .tuple xs => decide (xs.length ≤ w) && xs.all (wdB r)
  | _ :: _, d => leafB d
theorem wdB_wd : ∀ {ws : List Nat} {d : PyData}, wdB ws d = true → Wd ws d
  | [], _, h => h
  | w :: r, d, h => by
    cases d with
    | tuple xs =>
      have h : (decide (xs.length ≤ w) && xs.all (wdB r)) = true := h
      rw [Bool.and_eq_true, List.all_eq_true] at h
      exact wd_tu (of_decide_eq_true h.1) fun x hx => wdB_wd (h.2 x hx)
    | _ => exact .inl h
theorem sm_thg : ∀ x ∈ sm5 ++ [sm6], Thg x := fun x hx => by
  have : wdB [3, 3, 3, 3, 3] x = true := (by decide +kernel : (sm5 ++ [sm6]).all (wdB [3, 3, 3, 3, 3]) = true) |> fun h => List.all_eq_true.mp h x hx
  exact thg_of (wdB_wd this) (by decide) (by decide) (by decide)
end Nd
namespace K12
set_option autoImplicit false
open PySem PySem.Spec PySem.W PyProof.Rows L2 Evl My Nd LamX NdefX
theorem b_lst {tx : TA} {σ : L2.St} {H : Hp} {Q : VK} (h : tx σ H fun xs H1 => xs.length ≤ sizeLine ∧ ∀ p, H1 p = none → Q (.ref p) (upd H1 p (.lst xs))) : tLst tx σ H Q := h
theorem b_ifNotB {te : TE} {t u : TS} {D : Ends} {σ : L2.St} {H : Hp} (h : te σ H fun v H1 => ∃ b, v = V.bl b ∧ (if (!b) = true then t D σ H1 else u D σ H1)) : tIfS (tNot (tB te)) t u D σ H := h
theorem b_ifAnd {c1 c2 : TT} {t u : TS} {D : Ends} {σ : L2.St} {B H : Hp} (h : EvT c1 σ B true) (e : Ex B H) (k : ∀ H1, Ex H H1 → tIfS c2 t u D σ H1) : tIfS (tAnd c1 c2) t u D σ H := h H e _ fun H1 e1 => by
  rw [if_pos rfl]
  exact k H1 e1
theorem b_forT {K : PySem.W.Frag} {te : TE} {g : TG} {tbd : TS} {D : Ends} {σ : L2.St} {H : Hp} (h : te σ H fun v H1 => tFor (iTup K (tC v)) g tbd D σ H1) : tFor (iTup K te) g tbd D σ H := h
def spLaw (K : PySem.W.Frag) (T : List (Addr × Str)) : Sp := fun vs H Q _ => ∃ (a : Addr) (ns : List Int), vs = [.ref a] ∧ SqL K H a (ns.map V.int) ∧ ns.length ≤ 63 ∧ Tabs T H ∧ ∀ H', Q (.bl true) H'
section
variable {P : Program} {w : World} {K : PySem.W.Frag} {mg : Str → Option Value} {base : Heap} {T : List (Addr × Str)}

/-- law -/
abbrev s_law : Stmt := topS 57
abbrev N_law : List Str := ["_law_script", "_law_k", "_law_cell", "_law_state", "_law_one", "_law_turn", "_law_bent_here", "_law_own", "_law_thing", "_law_some"]
theorem sc_law : FnScope N_law ["_law_script"] (defScope s_law) := ⟨rfl, rfl, rfl, by decide +kernel, rfl, by decide +kernel, by decide +kernel⟩
theorem ok_law {f : Addr} {fd : FuncData} (F : Fun K "law" "law" s_law f fd)  {f_Ldraw : Addr} {d_Ldraw : FuncData} (c_Ldraw : Cal P w K mg base "_law_draw" 1 ["_law_cell", "_law_k"] spDraw f_Ldraw d_Ldraw) {f_Ldigit : Addr} {d_Ldigit : FuncData} (c_Ldigit : Cal P w K mg base "_law_digit" 2 ["_law_state", "_law_size"] spDigit f_Ldigit d_Ldigit) {f_Lpoly : Addr} {d_Lpoly : FuncData} (c_Lpoly : Cal P w K mg base "_law_poly" 4 ["_law_state", "_law_names", "_law_axes", "_law_size", "_law_high"] (spPoly K []) f_Lpoly d_Lpoly) {f_Ldue : Addr} {d_Ldue : FuncData} (c_Ldue : Cal P w K mg base "_law_due" 4 ["_law_thing"] (spP (RdueE K)) f_Ldue d_Ldue) {f_Lbent : Addr} {d_Lbent : FuncData} (c_Lbent : Cal P w K mg base "_law_bent" 5 ["_law_state", "_law_thing"] (spBent K []) f_Lbent d_Lbent) {f_Lderivative : Addr} {d_Lderivative : FuncData} (c_Lderivative : Cal P w K mg base "_law_derivative" 3 ["_law_state", "_law_names", "_law_axes", "_law_high"] spDer f_Lderivative d_Lderivative) {f_Lspoilt : Addr} {d_Lspoilt : FuncData} (c_Lspoilt : Cal P w K mg base "_law_spoilt" 4 ["_law_state", "_law_things"] (spSpoilt K []) f_Lspoilt d_Lspoilt) {f_Lodd : Addr} {d_Lodd : FuncData} (c_Lodd : Cal P w K mg base "_law_odd" 3 ["_law_state"] (spOdd K []) f_Lodd d_Lodd) {f_is_derivative : Addr} {d_is_derivative : FuncData} (c_is_derivative : Cal P w K mg base "is_derivative" 3 ["thing"] (spP (RBE K dvB)) f_is_derivative d_is_derivative) {f_Lis_derivative : Addr} {d_Lis_derivative : FuncData} (c_Lis_derivative : Cal P w K mg base "_law_is_derivative" 2 ["_law_thing"] (spP (RBA K dvB)) f_Lis_derivative d_Lis_derivative) (n_enumerate : mg "enumerate" = none) (n_sum : mg "sum" = none) (n_repr : mg "repr" = none) (n_range : mg "range" = none) {f_Lright : Addr} {d_Lright : FuncData} (c_Lright : Gd.CalG P w K mg base "_law_right" 9 ["_law_thing"] (spP (Rright K)) f_Lright d_Lright) (hS : SysK K) :
    Gd.FnG P w K mg base 10 f fd ["_law_script"] (spLaw K []) := by
  refine Gd.okG F sc_law (fun vs H Q E h => by obtain ⟨a, ns, rfl, _⟩ := h; rfl) (fun cdv A outer s H vs Q E hr hG h => ?_)
  obtain ⟨a, ns, rfl, hSq, hlen, _, q⟩ := h
  have hu := hu_of hr
  refine ⟨_, (pss_cons (ps_for PassesOwn.never rfl (pi_enum (by rfl) n_enumerate (pa_cons (pe_op op_cat (pe_slice sl_list (pv 0) po_none (po_some pe_int)) (pe_lst (pa_cons (pe_callB (cr_sum rfl) (by rfl) n_sum (by decide +kernel) (pa_cons (pv 0) pa_nil)) pa_nil))) pa_nil)) (pg_tup (by rfl) (pgs_cons (pg_name (i := 1) sc_law.nd rfl (by first | exact .inl rfl | exact .inr rfl)) (pgs_cons (pg_name (i := 2) sc_law.nd rfl (by first | exact .inl rfl | exact .inr rfl)) pgs_nil)))
      (pss_cons (ps_set (i := 3) sc_law.nd rfl (by first | exact .inl rfl | exact .inr rfl) (pe_call c_Ldraw.G (hr.mono (by decide)) (by rfl) c_Ldraw.m c_Ldraw.k c_Ldraw.b .nil pass0 (pa_cons (pv 2) (pa_cons (pv 1) pa_nil))))
    (pss_cons (ps_set (i := 4) sc_law.nd rfl (by first | exact .inl rfl | exact .inr rfl) (pe_call c_Lpoly.G (hr.mono (by decide)) (by rfl) c_Lpoly.m c_Lpoly.k c_Lpoly.b .nil pass0 (pa_cons (pv 3) (pa_cons (pe_lst (pa_cons pe_str (pa_cons pe_str pa_nil))) (pa_cons (pe_op op_add pe_int (pe_call c_Ldigit.G (hr.mono (by decide)) (by rfl) c_Ldigit.m c_Ldigit.k c_Ldigit.b .nil pass0 (pa_cons (pv 3) (pa_cons pe_int pa_nil)))) (pa_cons pe_int (pa_cons pe_int pa_nil)))))))
    (pss_cons (ps_if (PW.pt (pw_or (pt_cmpR (show OpR _ (compareOp .NotEq) (rNeD K) from op_neD hr.units) (pe_call c_Ldue.G (hr.mono (by decide)) (by rfl) c_Ldue.m c_Ldue.k c_Ldue.b .nil pass0 (pa_cons (pv 4) pa_nil)) (pe_lst pa_nil) (nomark _)) (pw_or1 (pt_not (pt_val (Gd.pe_callG c_Lright.G (hr.mono (by decide)) hG (by rfl) c_Lright.m c_Lright.k c_Lright.b .nil pass0 (pa_cons (pv 4) pa_nil))))))) (pss_one (ps_ret pe_bl)) pss_nil)
    (pss_cons (ps_for PassesOwn.never rfl (pi_range1 (by rfl) n_range (pa_cons pe_int pa_nil)) (pg_name (i := 5) sc_law.nd rfl (by first | exact .inl rfl | exact .inr rfl))
      (pss_cons (ps_set (i := 6) sc_law.nd rfl (by first | exact .inl rfl | exact .inr rfl) (pe_call c_Lbent.G (hr.mono (by decide)) (by rfl) c_Lbent.m c_Lbent.k c_Lbent.b .nil pass0 (pa_cons (pv 3) (pa_cons (pv 4) pa_nil))))
    (pss_cons (ps_if (pt_not (pt_val (Gd.pe_callG c_Lright.G (hr.mono (by decide)) hG (by rfl) c_Lright.m c_Lright.k c_Lright.b .nil pass0 (pa_cons (pv 6) pa_nil)))) (pss_one (ps_ret pe_bl)) pss_nil)
    (pss_one (ps_if (PW.pt (pw_and (pt_cmpR (show OpR _ (compareOp .Eq) (rEqD K) from op_eqD hr.units) (pe_call c_Ldue.G (hr.mono (by decide)) (by rfl) c_Ldue.m c_Ldue.k c_Ldue.b .nil pass0 (pa_cons (pv 6) pa_nil)) (pe_lst pa_nil) (nomark _)) (pw_and1 (pt_not (pt_val (Gd.pe_callG c_Lright.G (hr.mono (by decide)) hG (by rfl) c_Lright.m c_Lright.k c_Lright.b .nil pass0 (pa_cons (pe_call c_Lbent.G (hr.mono (by decide)) (by rfl) c_Lbent.m c_Lbent.k c_Lbent.b .nil pass0 (pa_cons (pv 3) (pa_cons (pv 6) pa_nil))) pa_nil))))))) (pss_one (ps_ret pe_bl)) pss_nil)))))
    (pss_cons (ps_set (i := 7) sc_law.nd rfl (by first | exact .inl rfl | exact .inr rfl) (pe_call c_Lderivative.G (hr.mono (by decide)) (by rfl) c_Lderivative.m c_Lderivative.k c_Lderivative.b .nil pass0 (pa_cons (pv 3) (pa_cons (pe_lst (pa_cons pe_str (pa_cons pe_str pa_nil))) (pa_cons pe_int (pa_cons pe_int pa_nil))))))
    (pss_one (ps_for PassesOwn.never rfl (pi_tup (pe_tup (pa_cons (pv 7) (pa_cons (pe_call c_Lspoilt.G (hr.mono (by decide)) (by rfl) c_Lspoilt.m c_Lspoilt.k c_Lspoilt.b .nil pass0 (pa_cons (pv 3) (pa_cons (pv 7) pa_nil))) (pa_cons (pe_call c_Lspoilt.G (hr.mono (by decide)) (by rfl) c_Lspoilt.m c_Lspoilt.k c_Lspoilt.b .nil pass0 (pa_cons (pv 3) (pa_cons (pv 7) pa_nil))) (pa_cons (pe_call c_Lodd.G (hr.mono (by decide)) (by rfl) c_Lodd.m c_Lodd.k c_Lodd.b .nil pass0 (pa_cons (pv 3) pa_nil)) pa_nil)))))) (pg_name (i := 8) sc_law.nd rfl (by first | exact .inl rfl | exact .inr rfl))
      (pss_one (ps_if (pt_cmpR op_ne (pe_callB (call_reprE hG hr.units hS) (by rfl) n_repr (by decide +kernel) (pa_cons (pe_call c_is_derivative.G (hr.mono (by decide)) (by rfl) c_is_derivative.m c_is_derivative.k c_is_derivative.b .nil pass0 (pa_cons (pv 8) pa_nil)) pa_nil)) (pe_callB (call_reprE hG hr.units hS) (by rfl) n_repr (by decide +kernel) (pa_cons (pe_call c_Lis_derivative.G (hr.mono (by decide)) (by rfl) c_Lis_derivative.m c_Lis_derivative.k c_Lis_derivative.b .nil pass0 (pa_cons (pv 8) pa_nil)) pa_nil)) (nomark _)) (pss_one (ps_ret pe_bl)) pss_nil))))))))))
    (pss_cons (ps_set (i := 9) sc_law.nd rfl (by first | exact .inl rfl | exact .inr rfl) (pe_lst (pa_cons (pe_tup pa_nil) (pa_cons (pe_tup (pa_cons (pe_tup pa_nil) (pa_cons (pe_tup (pa_cons pe_int (pa_cons pe_int pa_nil))) pa_nil))) (pa_cons (pe_tup (pa_cons (pe_tup (pa_cons (pe_tup pa_nil) (pa_cons (pe_tup (pa_cons pe_int (pa_cons pe_int pa_nil))) pa_nil))) pa_nil)) (pa_cons (pe_tup (pa_cons (pe_tup (pa_cons (pe_tup pa_nil) (pa_cons (pe_tup (pa_cons pe_int (pa_cons pe_int pa_nil))) pa_nil))) pa_nil)) (pa_cons (pe_tup (pa_cons (pe_tup pa_nil) (pa_cons (pe_tup pa_nil) pa_nil))) pa_nil)))))))
    (pss_cons (ps_expr (pe_bm PySem.F.plainAttrs_list PySem.F.slot_list_append PySem.F.type_list_append mt_append (pv 9) (pa_cons (pe_tup (pa_cons (pe_tup (pa_cons (pe_tup (pa_cons (pe_tup (pa_cons (pe_tup (pa_cons pe_str (pa_cons pe_int (pa_cons pe_int pa_nil)))) (pa_cons pe_int pa_nil))) pa_nil)) (pa_cons (pe_tup (pa_cons pe_int (pa_cons pe_int pa_nil))) pa_nil))) pa_nil)) pa_nil)))
    (pss_one (ps_ret (pe_cmpR (show OpR _ (compareOp .Eq) (rEqD K) from op_eqD hr.units) (pe_lc (own := [("_law_thing", 8)]) rfl sc_law.nd (pi_list (pv 9)) (blkOk_by (N := N_law) (sc := defScope s_law) (by decide +kernel)) (fun _ _ _ _ _ => (pg_name (i := 8) sc_law.nd rfl (Or.inl rfl))) (fun _ _ _ _ _ => (pts_one (pt_not (pt_val (Gd.pe_callG c_Lright.G (hr.mono (by decide)) hG (by rfl) c_Lright.m c_Lright.k c_Lright.b .nil pass0 (pa_cons (pv 8) pa_nil)))))) (fun _ _ _ _ _ => (pv 8))) (pe_lst pa_nil) (nomark _))))))), ?_⟩
  walk_at "go"
  refine ⟨a, _, rfl, hSq, fun p1 hp1 => ?_⟩
  walk_at "go"
  refine ⟨a, ns, rfl, (Same.seq (My.new hp1) hSq), ?_⟩
  refine ⟨by show 1 ≤ sizeLine; decide, fun p2 hp2 => ?_⟩
  have n12 : p1 ≠ p2 := ne_of_none upd_same hp2
  refine ⟨p1, p2, _, _, rfl, rfl, by rw [upd_ne n12]; exact upd_same, upd_same, ?_, fun p3 hp3 => ?_⟩
  · have := My.cutTo (ns.map V.int) 12
    rw [show (12 : Int) = ((12 : Nat) : Int) from rfl, this, List.length_take]
    exact sz_of (by simp only [List.length_singleton]; omega)
  rw [show (12 : Int) = ((12 : Nat) : Int) from rfl, My.cutTo, ← List.map_take, show [V.int ns.sum] = [ns.sum].map V.int from rfl, ← List.map_append] at *
  generalize hcs : ns.take 12 ++ [ns.sum] = cs
  have hcl : cs.length ≤ 13 := by
    rw [← hcs, List.length_append, List.length_take]
    simp only [List.length_singleton]
    omega
  refine ⟨p3, cs.map V.int, rfl, sq_of upd_same, for_it (walk_enum (K := K) (a := p3) (xs := cs.map V.int)) (fun i σ H' => H' p3 = some (.lst (cs.map V.int)) ∧ ∃ x1 x2 x3 x4 x5 x6 x7 x8 x9 : Option V, σ = [some (.ref a), x1, x2, x3, x4, x5, x6, x7, x8, x9])
    ⟨upd_same, none, none, none, none, none, none, none, none, none, rfl⟩ (fun i σ H' _ h => sq_of h.1) ?_ ?_⟩
  rotate_left
  · rintro σ H1 ⟨_, x1, x2, x3, x4, x5, x6, x7, x8, x9, rfl⟩
    dsimp only
    let B0 : Hp := fun _ => none
    have e0 : Ex B0 H1 := fun b o e => by cases e
    refine b_seq (b_asg (b_lst ((show EvPs _ _ B0 (sm5.map (IsE K)) from (q_cons (p_tuE (ds := []) (p_tup (K := K) q_nil (by decide)) rfl) (q_cons (p_tuE (ds := [.tuple [], .tuple [.int 1, .int 1]]) (p_tup (K := K) (q_cons (p_tuE (ds := []) (p_tup (K := K) q_nil (by decide)) rfl) (q_cons (p_tuE (ds := [.int 1, .int 1]) (p_tup (K := K) (q_cons e_int (q_cons e_int q_nil)) (by show 2 ≤ 100000; decide)) rfl) q_nil)) (by show 2 ≤ 100000; decide)) rfl) (q_cons (p_tuE (ds := [.tuple [.tuple [], .tuple [.int 1, .int 1]]]) (p_tup (K := K) (q_cons (p_tuE (ds := [.tuple [], .tuple [.int 1, .int 1]]) (p_tup (K := K) (q_cons (p_tuE (ds := []) (p_tup (K := K) q_nil (by decide)) rfl) (q_cons (p_tuE (ds := [.int 1, .int 1]) (p_tup (K := K) (q_cons e_int (q_cons e_int q_nil)) (by show 2 ≤ 100000; decide)) rfl) q_nil)) (by show 2 ≤ 100000; decide)) rfl) q_nil) (by show 1 ≤ 100000; decide)) rfl) (q_cons (p_tuE (ds := [.tuple [.tuple [], .tuple [.int 2, .int 2]]]) (p_tup (K := K) (q_cons (p_tuE (ds := [.tuple [], .tuple [.int 2, .int 2]]) (p_tup (K := K) (q_cons (p_tuE (ds := []) (p_tup (K := K) q_nil (by decide)) rfl) (q_cons (p_tuE (ds := [.int 2, .int 2]) (p_tup (K := K) (q_cons e_int (q_cons e_int q_nil)) (by show 2 ≤ 100000; decide)) rfl) q_nil)) (by show 2 ≤ 100000; decide)) rfl) q_nil) (by show 1 ≤ 100000; decide)) rfl) (q_cons (p_tuE (ds := [.tuple [], .tuple []]) (p_tup (K := K) (q_cons (p_tuE (ds := []) (p_tup (K := K) q_nil (by decide)) rfl) (q_cons (p_tuE (ds := []) (p_tup (K := K) q_nil (by decide)) rfl) q_nil)) (by show 2 ≤ 100000; decide)) rfl) q_nil)))))) H1 e0 _ fun vs B2 H2 g al => ⟨by rw [al.len]; show 5 ≤ sizeLine; decide, fun l hl => ?_⟩)))
    have A : AccAt B2 H2 l (sm5.map (IsE K)) B2 (upd H2 l (.lst vs)) := ⟨by rw [wo_new hl]; exact Gr.refl g.c, vs, upd_same, al⟩
    dsimp only [gName, List.set_cons_succ, List.set_cons_zero]
    refine b_seq (ps_app (K := K) (p := IsE K sm6) rfl A (p_tuE (ds := [.tuple [.tuple [.tuple [.tuple [.str "u", .int 0, .int 0], .int 0]], .tuple [.int 1, .int 1]]]) (p_tup (K := K) (q_cons (p_tuE (ds := [.tuple [.tuple [.tuple [.str "u", .int 0, .int 0], .int 0]], .tuple [.int 1, .int 1]]) (p_tup (K := K) (q_cons (p_tuE (ds := [.tuple [.tuple [.str "u", .int 0, .int 0], .int 0]]) (p_tup (K := K) (q_cons (p_tuE (ds := [.tuple [.str "u", .int 0, .int 0], .int 0]) (p_tup (K := K) (q_cons (p_tuE (ds := [.str "u", .int 0, .int 0]) (p_tup (K := K) (q_cons e_str (q_cons e_int (q_cons e_int q_nil))) (by show 3 ≤ 100000; decide)) rfl) (q_cons e_int q_nil)) (by show 2 ≤ 100000; decide)) rfl) q_nil) (by show 1 ≤ 100000; decide)) rfl) (q_cons (p_tuE (ds := [.int 1, .int 1]) (p_tup (K := K) (q_cons e_int (q_cons e_int q_nil)) (by show 2 ≤ 100000; decide)) rfl) q_nil)) (by show 2 ≤ 100000; decide)) rfl) q_nil) (by show 1 ≤ 100000; decide)) rfl) (by show 5 < 100000; decide) fun B3 H3 e3 A3 => ?_)
    obtain ⟨B4, g4, hL⟩ := A3.fin hl
    have hL : (LsP ((sm5 ++ [sm6]).map (IsE K))).P (.ref l) B4 := hL
    have lc := p_lc (K := K) (ta := tVar 9) (te := tVar 8) (tt := tNot (tB (tCall (spP (Rright K)) [] E0 (tCons (tVar 8) tNil)))) (vs := [8]) (g := gName 8) (σ := [some (.ref a), x1, x2, x3, x4, x5, x6, x7, x8, some (.ref l)]) (B := B4) (ps := (sm5 ++ [sm6]).map (IsE K)) (p_lq (p_var rfl hL)) (by show 6 ≤ 100000; decide) (fun _ => false) (fun _ => IsV .non) fun i p v B5 hp e pv => by
      rw [List.getElem?_map] at hp
      obtain ⟨x, hx, rfl⟩ := Option.map_eq_some_iff.mp hp
      exact ⟨[some (.ref a), x1, x2, x3, x4, x5, x6, x7, some v, some (.ref l)], rfl, fun H2 Q e q => q, et_is (et_not (a := true) (et_B (ev_p (p_callP (R := Rright K) (p := IsV (.bl true)) (ps := [IsE K x]) (q_cons (p_var rfl pv) q_nil) ⟨_, x, to_idE, sm_thg x (List.mem_of_getElem? hx), rfl, rfl⟩)))) rfl, fun z => nomatch z⟩
    have emp : ((List.range ((sm5 ++ [sm6]).map (IsE K)).length).filter fun _ => false) = [] := by simp
    rw [emp] at lc
    exact My.ps_ret g4.c (p_ev (ev_eqD (K := K) (p_to lc (to_lst .nil)) (p_to (p_lst (ps := []) q_nil (by show 0 ≤ 100000; decide)) (to_lst .nil)) rfl rfl)) fun v B5 H5 g5 hp => by
      obtain rfl : v = .bl true := hp
      exact q H5
  rintro i v σ H1 H2 hi ⟨h3, x1, x2, x3, x4, x5, x6, x7, x8, x9, rfl⟩ ⟨t, x, y, rfl, ht, rfl, hx, hy⟩
  obtain rfl := Option.some.inj hx
  rw [List.length_map] at hi
  obtain ⟨z, rfl⟩ : ∃ z : Int, y = V.int z := by
    have hy' : (cs.map V.int)[i]? = some y := hy
    rw [List.getElem?_map, List.getElem?_eq_getElem hi] at hy'
    exact ⟨_, (Option.some.inj hy').symm⟩
  have h3' : upd H1 t (HO.tup [V.int (i : Nat), V.int z]) p3 = some (.lst (cs.map V.int)) := by
    rw [upd_ne (ne_of_none h3 ht)]
    exact h3
  refine ⟨t, _, rfl, st_of upd_same, rfl, _, _, rfl, _, _, rfl, rfl, ?_⟩
  generalize upd H1 t (HO.tup [V.int (i : Nat), V.int z]) = H2 at h3' ⊢
  walk_at "go"
  refine ⟨z, (i : Nat), rfl, by omega, by omega, fun d Hd hd0 hDS S => ?_⟩
  have hd3 := S _ _ h3'
  have nd3 : p3 ≠ d := ne_of_none h3' hd0
  dsimp only [gName, List.set_cons_succ, List.set_cons_zero]
  let C0 : Hp := upd (fun _ => none) p3 (.lst (cs.map V.int))
  have cp : C0 p3 = some (.lst (cs.map V.int)) := upd_same
  have k0 : Kx [] d 1000000 C0 Hd := by
    refine ⟨fun b o e => ?_, nt_upd (fun _ _ z => nomatch z) (fun _ z => nomatch z), fun q hq => absurd hq List.not_mem_nil, by show upd (fun _ => none) p3 _ d = none; rw [upd_ne nd3.symm], hDS⟩
    by_cases n : b = p3
    · subst n
      have e : C0 b = some o := e
      rw [cp] at e
      rw [← e]
      exact hd3
    · have e : upd (fun _ => none) p3 (.lst (cs.map V.int)) b = some o := e
      rw [upd_ne n] at e
      cases e
  clear hd0 hDS S
  refine b_seq (b_asg (c_call (b_cons ⟨_, rfl, b_cons (b_lst (b_cons (b_c (b_cons (b_c (b_nil ⟨by show 2 ≤ sizeLine; decide, fun pl hpl => b_cons (b_op (b_c ?_))⟩))))))⟩)))
  have n1 := Gr.new (B := C0) (.lst [.str "u", .str "v"]) k0.e hpl
  have k1 := k0.gr n1
  have cp := n1.b _ _ cp
  refine x_digit (z := 2) k1 rfl ev_c (by decide) (by decide) (by decide) fun m1 H4 m10 m11 k2 g2 => ⟨_, _, rfl, rfl, b_cons (b_c (b_cons (b_c (b_nil ?_))))⟩
  obtain ⟨ax, eax, ax1, ax2⟩ : ∃ ax : Nat, 1 + m1 = (ax : Int) ∧ 1 ≤ ax ∧ ax ≤ 2 := ⟨(1 + m1).toNat, by omega, by omega, by omega⟩
  refine ⟨_, d, _, rkL ax, _, by rw [rkL_ax ax1 ax2, ← eax]; rfl, rkL_ok, ⟨pl, rfl, upd_same⟩, k2, by decide, fun p vp B2 H5 hp k3 g3 hP => ?_⟩
  have cp := g3.b _ _ cp
  dsimp only [gName, List.set_cons_succ, List.set_cons_zero]
  have hD : De K B2 vp (poD (toPo p)) := dp_de (to_po _ _ _ (fp_po hP))
  have hw : Wd [5, 3, 3, 3, 3, 3] (poD (toPo p)) := wd_po hp
  have hth : Thg (poD (toPo p)) := thg_of hw (by decide) (by decide) (by decide)
  have hpo : poB (poD (toPo p)) = true := poB_of rkL_ok hp.pg.ok
  have dueE : ∀ {σ : L2.St} {B : Hp} {te : TE} {x : PyData}, EvP te σ B (IsE K x) → Thg x → EvP (tCall (spP (RdueE K)) [] E0 (tCons te tNil)) σ B (IsD K (.list (dueL (poAt x)))) := fun h t => p_callP (R := RdueE K) (q_cons h q_nil) ⟨_, _, to_idE, t.a, t.n, rfl, rfl⟩
  have rightE : ∀ {σ : L2.St} {B : Hp} {te : TE} {x : PyData}, EvP te σ B (IsE K x) → Thg x → Ev (tCall (spP (Rright K)) [] E0 (tCons te tNil)) σ B (.bl true) := fun h t => ev_p (p_callP (R := Rright K) (p := IsV (.bl true)) (q_cons h q_nil) ⟨_, _, to_idE, t, rfl, rfl⟩)
  have emp : ∀ {σ : L2.St} {B : Hp}, EvP (tLst tNil) σ B (IsD K (.list [])) := fun {_ _} => p_to (p_lst (ps := []) q_nil (by show 0 ≤ 100000; decide)) (to_lst .nil)
  refine b_seq (ps_ifN k3.e (et_is (et_or (a := false) (b := false) (et_ne (K := K) (d := .list []) (by have := dueE (σ := [some (.ref a), some (.int (i : Nat)), some (.int z), some (.ref d), some vp, x5, x6, x7, x8, x9]) (te := tVar 4) (p_var (p := IsE K (poD (toPo p))) rfl hD) hth; rw [due_nil hpo] at this; exact this) emp rfl) fun _ => et_is (et_not (a := true) (et_B (rightE (p_var (p := IsE K (poD (toPo p))) rfl hD) hth))) rfl) rfl) fun H6 e6 => ?_)
  have k4 := k3.ex e6
  clear k0 k1 k2 k3 n1 g2 g3
  dsimp only
  -- bent four times
  refine b_seq (b_forD (b_c ⟨4, rfl, by decide, by decide, for_range (lo := 0) (n := 4) (fun t σ H' => ∃ (B' : Hp) (x5 x6 : Option V), Kx [] d (2000000 + 200 * t) B' H' ∧ Ex B2 B' ∧ σ = [some (.ref a), some (.int (i : Nat)), some (.int z), some (.ref d), some vp, x5, x6, x7, x8, x9])
    ⟨B2, x5, x6, k4.le (by decide), Ex.refl _, rfl⟩ (fun t σ H' ht pv => ?_) (fun σ H' pv => ?_)⟩))
  · obtain ⟨B', y5, y6, k5, e5, rfl⟩ := pv
    have ht4 : t < 4 := by omega
    dsimp only [gName, List.set_cons_succ, List.set_cons_zero]
    refine b_seq (b_asg (c_call (b_cons ⟨_, rfl, b_cons ⟨_, rfl, b_nil ?_⟩⟩)))
    refine ⟨B', d, _, toPo p, 5, 3, 3, 3, 3, 3, vp, rfl, de_m e5 hD, hw, by decide, k5, by omega, fun x vx B6 H6 hx k6 g6 hv => ?_⟩
    have hx : Wd [6, 4, 4, 4, 4, 4] x := hx
    have thx : Thg x := thg_of hx (by decide) (by decide) (by decide)
    dsimp only [gName, List.set_cons_succ, List.set_cons_zero]
    refine b_seq (ps_ifN k6.e (et_is (et_not (a := true) (et_B (rightE (p_var (p := IsE K x) rfl hv) thx))) rfl) fun H7 e7 => ?_)
    have k7 := k6.ex e7
    dsimp only
    have dx : ∀ {σ : L2.St}, σ[6]? = some (some vx) → Ev (tOp (rEqD K) (tCall (spP (RdueE K)) [] E0 (tCons (tVar 6) tNil)) (tLst tNil)) σ B6 (.bl (poB x)) := fun h => by
      have := ev_eqD (K := K) (dueE (p_var (p := IsE K x) h hv) thx) emp (sh_due _) rfl
      rw [eqv_nil, due_emp] at this
      exact this
    cases hpb : poB x with
    | false =>
      refine ps_ifN k7.e (et_is (et_and (a := false) (b := false) (by have := et_test (dx (σ := [some (.ref a), some (.int (i : Nat)), some (.int z), some (.ref d), some vp, some (.int (0 + (t : Nat))), some vx, x7, x8, x9]) rfl); rw [hpb] at this; exact this) (fun z => nomatch z)) rfl) fun H8 e8 => ?_
      exact ⟨B6, _, _, (k7.ex e8).le (by omega), e5.trans g6.b, rfl⟩
    | true =>
      refine b_ifAnd (by have := et_test (dx (σ := [some (.ref a), some (.int (i : Nat)), some (.int z), some (.ref d), some vp, some (.int (0 + (t : Nat))), some vx, x7, x8, x9]) rfl); rw [hpb] at this; exact this) k7.e fun H8 e8 => b_ifNotB (c_call (b_cons (c_call (b_cons ⟨_, rfl, b_cons ⟨_, rfl, b_nil ?_⟩⟩))))
      obtain ⟨p2, rfl⟩ := poB_ex hpb
      refine ⟨B6, d, _, p2, 6, 4, 4, 4, 4, 4, vx, rfl, hv, hx, by decide, k7.ex e8, by omega, fun y vy B9 H9 hy k9 g9 hvy => b_nil ?_⟩
      have hy : Wd [7, 5, 5, 5, 5, 5] y := hy
      refine ⟨B9, [IsE K y], IsV (.bl true), k9.e, ⟨hvy, trivial⟩, ⟨_, y, to_idE, thg_of hy (by decide) (by decide) (by decide), rfl, rfl⟩, fun v B10 H10 g10 hv => ⟨true, hv, ?_⟩⟩
      rw [if_neg (by decide)]
      exact ⟨B10, _, _, (k9.gr g10).le (by omega), (e5.trans g6.b).trans (g9.b.trans g10.b), rfl⟩
  obtain ⟨B', y5, y6, k5, e5, rfl⟩ := pv
  have cp := e5 _ _ cp
  dsimp only
  -- derivatives
  refine b_seq (b_asg (c_call (b_cons ⟨_, rfl, b_cons (b_lst (b_cons (b_c (b_cons (b_c (b_nil ⟨by show 2 ≤ sizeLine; decide, fun pl2 hpl2 => b_cons (b_c (b_cons (b_c (b_nil ?_))))⟩))))))⟩)))
  have n2 := Gr.new (B := B') (.lst [.str "u", .str "abcdefgh"]) k5.e hpl2
  have k6 := k5.gr n2
  refine ⟨_, d, _, 9, rkD, _, rfl, by decide, rkD_ok, ⟨pl2, rfl, upd_same⟩, k6.e, k6.z, k6.s, by decide, fun u B8 H8 vu hu hu9 gd hd8 hU => ?_⟩
  have k7 := k6.gd gd hd8
  have cp := (n2.b.trans (GX.gd gd).b) _ _ cp
  dsimp only [gName, List.set_cons_succ, List.set_cons_zero]
  have hUE : De K B8 vu u.D := dp_de (to_dv u _ _ hU)
  have wu : Wd [3, 3] u.D := wd_dv hu hu9
  refine b_forT (b_tup (b_cons ⟨_, rfl, b_cons ?_⟩))
  refine x_spo (K := K) (ds := [.str u.n, .int u.i, .int u.j]) k7 rfl (p_var (p := IsE K u.D) rfl hUE) (by show 3 ≤ 1000; decide) (by decide) fun x1 w1 B10 H10 hs1 k10 g10 hv1 => b_cons ?_
  refine x_spo (K := K) (ds := [.str u.n, .int u.i, .int u.j]) k10 rfl (p_var (p := IsE K u.D) rfl (de_m g10.b hUE)) (by show 3 ≤ 1000; decide) (by decide) fun x2 w2 B11 H11 hs2 k11 g11 hv2 => b_cons (c_call (b_cons ⟨_, rfl, b_nil ⟨B11, d, _, rfl, k11, by decide, fun x3 w3 B12 H12 ho k12 g12 hv3 => b_nil ⟨by show 4 ≤ sizeLine; decide, fun r hr => ?_⟩⟩⟩))
  have n3 := Gr.new (B := B12) (.tup [vu, w1, w2, w3]) k12.e hr
  have k13 := k12.gr n3
  have eU := g10.b.trans (g11.b.trans (g12.b.trans n3.b))
  have cp := eU _ _ cp
  have hT : De K (upd B12 r (.tup [vu, w1, w2, w3])) (.ref r) (.tuple [u.D, x1, x2, x3]) := .tup (st_of upd_same) (.cons (de_m eU hUE) (.cons (de_m (g11.b.trans (g12.b.trans n3.b)) hv1) (.cons (de_m (g12.b.trans n3.b) hv2) (.cons (de_m n3.b hv3) .nil))))
  have hall : ∀ y ∈ [u.D, x1, x2, x3], asB y = true := fun y hy => by
    simp only [List.mem_cons, List.not_mem_nil, or_false] at hy
    rcases hy with rfl | rfl | rfl | rfl
    · exact as_wd wu
    · exact as_wd (hs1.wd1 wu (by decide) (by decide))
    · exact as_wd (hs2.wd1 wu (by decide) (by decide))
    · exact as_wd (od_wd (w := 3) (r := []) ho (by decide))
  refine ps_forS k13.e (src_tu (K := K) (p_cv (tu_e hT))) fun B14 H14 g14 => ?_
  have cp := g14.b _ _ cp
  refine ⟨fun j σ H' => Ex B14 H' ∧ ∃ y8 : Option V, σ = [some (.ref a), some (.int (i : Nat)), some (.int z), some (.ref d), some vp, y5, y6, some vu, y8, x9], ⟨g14.c, x8, rfl⟩, (fun j σ H' _ h => h.1), fun j v σ H' hj pv px => ?_, fun σ H' pv => ?_⟩
  · obtain ⟨e8, y8, rfl⟩ := pv
    rw [List.length_map] at hj
    rw [getD_map hj] at px
    have px : De K B14 v ([u.D, x1, x2, x3])[j] := px
    have ax4 := hall _ (List.getElem_mem hj)
    generalize ([u.D, x1, x2, x3])[j] = y at px ax4
    dsimp only [gName, List.set_cons_succ, List.set_cons_zero]
    have isd : Ev (tCall (spP (RBE K dvB)) [] E0 (tCons (tVar 8) tNil)) [some (.ref a), some (.int (i : Nat)), some (.int z), some (.ref d), some vp, y5, y6, some vu, some v, x9] B14 (.bl (dvB y)) := ev_p (p_callP (R := RBE K dvB) (p := IsV (.bl (dvB y))) (ps := [IsE K y]) (q_cons (p_var rfl px) q_nil) ⟨_, y, to_idE, as_sm ax4, rfl, rfl⟩)
    have isl : Ev (tCall (spP (RBA K dvB)) [] E0 (tCons (tVar 8) tNil)) [some (.ref a), some (.int (i : Nat)), some (.int z), some (.ref d), some vp, y5, y6, some vu, some v, x9] B14 (.bl (dvB y)) := ev_p (p_callP (R := RBA K dvB) (p := IsV (.bl (dvB y))) (ps := [IsE K y]) (q_cons (p_var rfl px) q_nil) ⟨_, y, to_idE, ax4, rfl, rfl⟩)
    refine ps_ifN e8 (et_is (et_test (ev_op (ev_rep (K := K) (p_dE (ed_bl isd)) (shw_bl _)) (ev_rep (K := K) (p_dE (ed_bl isl)) (shw_bl _)) (rv_ne rfl))) (by simp)) fun H15 e15 => ⟨e8.trans e15, _, rfl⟩
  · obtain ⟨e8, y8, rfl⟩ := pv
    exact ⟨e8 _ _ cp, _, _, _, _, _, _, _, _, _, rfl⟩

end
end K12
namespace K12
open PySem PySem.W L2 Evl My LamX Nd
set_option autoImplicit false
def cxOfL (l : List Addr) : Nat → Addr := fun i => l.getD i 0
/-- the facts of an own exception class, asked at once -/
def xcB (K : PySem.W.Frag) (C : Addr) (bmB : List Value) (newId : String) : Bool :=
  PySem.W.excInitIn K C bmB newId && PySem.W.hasDictIn K C && decide (PySem.W.findIn K (.ref C) "__setattr__" = some (some (.builtin "object.__setattr__"))) && decide (PySem.W.findIn K (.ref C) "__getattribute__" = some (some (.builtin "BaseException.__getattribute__"))) &&
  decide (PySem.W.findIn K (.ref C) "__getattr__" = some none) && decide (PySem.W.subIn K (.ref C) (.type "BaseException") = some true) && decide (PySem.W.findIn K (.ref C) "__class__" = some (some (.builtin "object.__class__"))) &&
  decide (PySem.W.specialIn K (.builtin "object.__class__") "__get__" = some (some (.builtin "getset_descriptor.__get__"))) && decide (PySem.W.takesIn K (.builtin "object.__class__") = some true) && decide (PySem.W.mroIn K C (.type "object") = some true) && PySem.W.keepIn K (.ref C)
theorem xc_of {K : PySem.W.Frag} {C : Addr} {bmB : List Value} {newId : String} (h : xcB K C bmB newId = true) : XC K C bmB newId := by
  unfold xcB at h
  simp only [Bool.and_eq_true, decide_eq_true_eq] at h
  obtain ⟨⟨⟨⟨⟨⟨⟨⟨⟨⟨h1, h2⟩, h3⟩, h4⟩, h5⟩, h6⟩, h7⟩, h8⟩, h9⟩, h10⟩, h11⟩ := h
  exact ⟨h1, h2, h3, h4, h5, h6, h7, h8, h9, h10, h11⟩
abbrev s_BadPolynomial : Stmt := inClass (topS 4) 0
theorem sc_BadPolynomial : FnScope ["self", "number"] ["self", "number"] (defScope s_BadPolynomial) := ⟨rfl, rfl, rfl, by decide +kernel, rfl, by decide +kernel, by decide +kernel⟩
theorem ok_BadPolynomial {P : Program} {w : World} {K : PySem.W.Frag} {mg : Str → Option Value} {base : Heap} {f C D : Addr} {fd : FuncData} (F : FunD K "__init__" "BadPolynomial.__init__" (defArgs s_BadPolynomial) (defBody s_BadPolynomial) (defScope s_BadPolynomial) [.non] [] f fd) (T : XC K C [.type "ValueError", .type "Exception", .type "BaseException", .type "object"] "ValueError.__new__") (Z : XD K mg "ChainError" D "ValueError.__init__") (no0 : PySem.W.findIn K (.ref C) "number" = some none) : FnOk P w K mg base CX0 1 f fd ["self", "number"] (spI1 C "number") := by
  refine F.ok sc_BadPolynomial (fun vs H Q E h => ?_) (fun cdv A outer s H vs Q E hr h => ?_)
  · obtain ⟨a, v, rfl, _⟩ := h
    rfl
  · obtain ⟨a, v, rfl, ha, q⟩ := h
    refine ⟨_, (pss_cons (ps_expr (pe_xinit xbV (by rfl) Z.m Z.s Z.r Z.f Z.h (pa_cons (pv 0) (pa_cons pe_str pa_nil)))) (pss_one (ps_xset xbV (pv 0) (pv 1)))), ?_⟩
    refine ⟨_, rfl, a, C, _, rfl, by decide, T, ha, ?_⟩
    exact ⟨_, rfl, _, rfl, a, C, rfl, T, no0, .inl ⟨ha, fun dx hd ne => q dx hd ne⟩⟩
end K12
namespace Hd
set_option autoImplicit false
open PySem PySem.Spec PySem.W PyProof.Rows L2 He
end Hd
namespace K12
set_option autoImplicit false
open PySem PySem.W L2 Evl My LamX Nd
theorem sysB_ok {K : PySem.W.Frag} (h : HdC.sysB K = true) : SysK K := by
  unfold HdC.sysB at h
  cases e : K.lookup sysModules with
  | none => rw [e] at h; cases h
  | some o => rw [e] at h; exact ⟨o, e, of_decide_eq_true h⟩
theorem all_mk2 {l : PySem.W.OpenLaw} {w : World} {K : PySem.W.Frag} {h : Heap} {mg : Str → Option Value} {fa : Addr} (X : K.In h) (G : h.Ns mainGlobals mg) (hfa : mg "law" = some (.ref fa)) (SD : He.SaysD K12.hfa hfn K) (E : hex K = true) (EV : hvf K = hvv) (LM : ∀ x ∈ hlams, Hd.lamB K x = true ∧ h.get? (Hd.ctab K (Hd.fcode K x)) = some (tabObj #[])) : Gd.LawAtG l w K 10 63 "_law_script" mg fa h := by
  have gc_BadRow := Hd.glo_ns (SD.fact 29 (f := .glo "BadRow") rfl)
  have gc_BadPolynomial := Hd.glo_ns (SD.fact 30 (f := .glo "BadPolynomial") rfl)
  have gc_BadRanking := Hd.glo_ns (SD.fact 31 (f := .glo "BadRanking") rfl)
  have gc_BadChain := Hd.glo_ns (SD.fact 32 (f := .glo "BadChain") rfl)
  have gc_BadData := Hd.glo_ns (SD.fact 33 (f := .glo "BadData") rfl)
  have gc_BadJet := Hd.glo_ns (SD.fact 34 (f := .glo "BadJet") rfl)
  have gc_BadPaper := Hd.glo_ns (SD.fact 35 (f := .glo "BadPaper") rfl)
  have gc_NoUnknown := Hd.glo_ns (SD.fact 36 (f := .glo "NoUnknown") rfl)
  have gc_NoEquation := Hd.glo_ns (SD.fact 37 (f := .glo "NoEquation") rfl)
  have gc_NoCase := Hd.glo_ns (SD.fact 38 (f := .glo "NoCase") rfl)
  have gc_Contradicted := Hd.glo_ns (SD.fact 39 (f := .glo "Contradicted") rfl)
  have gc_Knotted := Hd.glo_ns (SD.fact 40 (f := .glo "Knotted") rfl)
  have gc_Twice := Hd.glo_ns (SD.fact 41 (f := .glo "Twice") rfl)
  have gc_OutOfPlace := Hd.glo_ns (SD.fact 42 (f := .glo "OutOfPlace") rfl)
  have gc_TooGreat := Hd.glo_ns (SD.fact 43 (f := .glo "TooGreat") rfl)
  have gc_Nothing := Hd.glo_ns (SD.fact 44 (f := .glo "Nothing") rfl)
  have gc_ChainError := Hd.glo_ns (SD.fact 45 (f := .glo "ChainError") rfl)
  have gc_MissError := Hd.glo_ns (SD.fact 46 (f := .glo "MissError") rfl)
  have gc_CaseError := Hd.glo_ns (SD.fact 47 (f := .glo "CaseError") rfl)
  have a28 := Hd.glo_ns (SD.fact 28 (f := .glo "law") rfl)
  have e := hfa.symm.trans (PySem.W.mg_of X G a28)
  cases e
  obtain ⟨fd0, D0⟩ := SD.def_ 0 (d := hd0) rfl
  have a0 := Hd.glo_ns (SD.fact 0 (f := .glo "_law_draw") rfl)
  have k0 := D0.kp
  have F0 : Fun K "_law_draw" "_law_draw" s_Ldraw (He.ga K "_law_draw") fd0 := Hd.fun_of D0
  have b0 := F0.binds (ps := ["_law_cell", "_law_k"]) fun _ _ _ _ _ _ us hl => match us, hl with | [_, _], _ => rfl
  obtain ⟨fd1, D1⟩ := SD.def_ 1 (d := hd1) rfl
  have a1 := Hd.glo_ns (SD.fact 1 (f := .glo "_law_mixed") rfl)
  have k1 := D1.kp
  have F1 : Fun K "_law_mixed" "_law_mixed" s_Lmixed (He.ga K "_law_mixed") fd1 := Hd.fun_of D1
  have b1 := F1.binds (ps := ["_law_cell", "_law_k"]) fun _ _ _ _ _ _ us hl => match us, hl with | [_, _], _ => rfl
  obtain ⟨fd2, D2⟩ := SD.def_ 2 (d := hd2) rfl
  have a2 := Hd.glo_ns (SD.fact 2 (f := .glo "_law_digit") rfl)
  have k2 := D2.kp
  have F2 : Fun K "_law_digit" "_law_digit" s_Ldigit (He.ga K "_law_digit") fd2 := Hd.fun_of D2
  have b2 := F2.binds (ps := ["_law_state", "_law_size"]) fun _ _ _ _ _ _ us hl => match us, hl with | [_, _], _ => rfl
  obtain ⟨fd3, D3⟩ := SD.def_ 3 (d := hd3) rfl
  have a3 := Hd.glo_ns (SD.fact 3 (f := .glo "_law_derivative") rfl)
  have k3 := D3.kp
  have F3 : Fun K "_law_derivative" "_law_derivative" s_Lderivative (He.ga K "_law_derivative") fd3 := Hd.fun_of D3
  have b3 := F3.binds (ps := ["_law_state", "_law_names", "_law_axes", "_law_high"]) fun _ _ _ _ _ _ us hl => match us, hl with | [_, _, _, _], _ => rfl
  obtain ⟨fd4, D4⟩ := SD.def_ 4 (d := hd4) rfl
  have a4 := Hd.glo_ns (SD.fact 4 (f := .glo "_law_monomial") rfl)
  have k4 := D4.kp
  have F4 : Fun K "_law_monomial" "_law_monomial" s_Lmonomial (He.ga K "_law_monomial") fd4 := Hd.fun_of D4
  have b4 := F4.binds (ps := ["_law_pairs"]) fun _ _ _ _ _ _ us hl => match us, hl with | [_], _ => rfl
  obtain ⟨fd5, D5⟩ := SD.def_ 5 (d := hd5) rfl
  have a5 := Hd.glo_ns (SD.fact 5 (f := .glo "_law_lowest") rfl)
  have k5 := D5.kp
  have F5 : Fun K "_law_lowest" "_law_lowest" s_Llowest (He.ga K "_law_lowest") fd5 := Hd.fun_of D5
  have b5 := F5.binds (ps := ["_law_top", "_law_bottom"]) fun _ _ _ _ _ _ us hl => match us, hl with | [_, _], _ => rfl
  obtain ⟨fd6, D6⟩ := SD.def_ 6 (d := hd6) rfl
  have a6 := Hd.glo_ns (SD.fact 6 (f := .glo "_law_number") rfl)
  have k6 := D6.kp
  have F6 : Fun K "_law_number" "_law_number" s_Lnumber (He.ga K "_law_number") fd6 := Hd.fun_of D6
  have b6 := F6.binds (ps := ["_law_state"]) fun _ _ _ _ _ _ us hl => match us, hl with | [_], _ => rfl
  obtain ⟨fd7, D7⟩ := SD.def_ 7 (d := hd7) rfl
  have a7 := Hd.glo_ns (SD.fact 7 (f := .glo "_law_added") rfl)
  have k7 := D7.kp
  have F7 : Fun K "_law_added" "_law_added" s_Ladded (He.ga K "_law_added") fd7 := Hd.fun_of D7
  have b7 := F7.binds (ps := ["_law_one", "_law_other", "_law_number_here"]) fun _ _ _ _ _ _ us hl => match us, hl with | [_, _, _], _ => rfl
  obtain ⟨fd8, D8⟩ := SD.def_ 8 (d := hd8) rfl
  have a8 := Hd.glo_ns (SD.fact 8 (f := .glo "_law_poly") rfl)
  have k8 := D8.kp
  have F8 : Fun K "_law_poly" "_law_poly" s_Lpoly (He.ga K "_law_poly") fd8 := Hd.fun_of D8
  have b8 := F8.binds (ps := ["_law_state", "_law_names", "_law_axes", "_law_size", "_law_high"]) fun _ _ _ _ _ _ us hl => match us, hl with | [_, _, _, _, _], _ => rfl
  obtain ⟨fd9, D9⟩ := SD.def_ 9 (d := hd9) rfl
  have a9 := Hd.glo_ns (SD.fact 9 (f := .glo "_law_among") rfl)
  have k9 := D9.kp
  have F9 : Fun K "_law_among" "_law_among" s_Lamong (He.ga K "_law_among") fd9 := Hd.fun_of D9
  have b9 := F9.binds (ps := ["_law_thing", "_law_least"]) fun _ _ _ _ _ _ us hl => match us, hl with | [_, _], _ => rfl
  obtain ⟨fd10, D10⟩ := SD.def_ 10 (d := hd10) rfl
  have a10 := Hd.glo_ns (SD.fact 10 (f := .glo "_law_is_derivative") rfl)
  have k10 := D10.kp
  have F10 : Fun K "_law_is_derivative" "_law_is_derivative" s_Lis_derivative (He.ga K "_law_is_derivative") fd10 := Hd.fun_of D10
  have b10 := F10.binds (ps := ["_law_thing"]) fun _ _ _ _ _ _ us hl => match us, hl with | [_], _ => rfl
  obtain ⟨fd11, D11⟩ := SD.def_ 11 (d := hd11) rfl
  have a11 := Hd.glo_ns (SD.fact 11 (f := .glo "_law_is_monomial") rfl)
  have k11 := D11.kp
  have F11 : Fun K "_law_is_monomial" "_law_is_monomial" s_Lis_monomial (He.ga K "_law_is_monomial") fd11 := Hd.fun_of D11
  have b11 := F11.binds (ps := ["_law_thing"]) fun _ _ _ _ _ _ us hl => match us, hl with | [_], _ => rfl
  obtain ⟨fd12, D12⟩ := SD.def_ 12 (d := hd12) rfl
  have a12 := Hd.glo_ns (SD.fact 12 (f := .glo "_law_is_number") rfl)
  have k12 := D12.kp
  have F12 : Fun K "_law_is_number" "_law_is_number" s_Lis_number (He.ga K "_law_is_number") fd12 := Hd.fun_of D12
  have b12 := F12.binds (ps := ["_law_thing"]) fun _ _ _ _ _ _ us hl => match us, hl with | [_], _ => rfl
  obtain ⟨fd13, D13⟩ := SD.def_ 13 (d := hd13) rfl
  have a13 := Hd.glo_ns (SD.fact 13 (f := .glo "_law_due") rfl)
  have k13 := D13.kp
  have F13 : Fun K "_law_due" "_law_due" s_Ldue (He.ga K "_law_due") fd13 := Hd.fun_of D13
  have b13 := F13.binds (ps := ["_law_thing"]) fun _ _ _ _ _ _ us hl => match us, hl with | [_], _ => rfl
  obtain ⟨fd14, D14⟩ := SD.def_ 14 (d := hd14) rfl
  have a14 := Hd.glo_ns (SD.fact 14 (f := .glo "_law_odd") rfl)
  have k14 := D14.kp
  have F14 : Fun K "_law_odd" "_law_odd" s_Lodd (He.ga K "_law_odd") fd14 := Hd.fun_of D14
  have b14 := F14.binds (ps := ["_law_state"]) fun _ _ _ _ _ _ us hl => match us, hl with | [_], _ => rfl
  obtain ⟨fd15, D15⟩ := SD.def_ 15 (d := hd15) rfl
  have a15 := Hd.glo_ns (SD.fact 15 (f := .glo "_law_spoilt") rfl)
  have k15 := D15.kp
  have F15 : Fun K "_law_spoilt" "_law_spoilt" s_Lspoilt (He.ga K "_law_spoilt") fd15 := Hd.fun_of D15
  have b15 := F15.binds (ps := ["_law_state", "_law_things"]) fun _ _ _ _ _ _ us hl => match us, hl with | [_, _], _ => rfl
  obtain ⟨fd16, D16⟩ := SD.def_ 16 (d := hd16) rfl
  have a16 := Hd.glo_ns (SD.fact 16 (f := .glo "_law_bent") rfl)
  have k16 := D16.kp
  have F16 : Fun K "_law_bent" "_law_bent" s_Lbent (He.ga K "_law_bent") fd16 := Hd.fun_of D16
  have b16 := F16.binds (ps := ["_law_state", "_law_thing"]) fun _ _ _ _ _ _ us hl => match us, hl with | [_, _], _ => rfl
  obtain ⟨fd17, D17⟩ := SD.def_ 17 (d := hd17) rfl
  have a17 := Hd.glo_ns (SD.fact 17 (f := .glo "is_name") rfl)
  have k17 := D17.kp
  have F17 : Fun K "is_name" "is_name" s_is_name (He.ga K "is_name") fd17 := Hd.fun_of D17
  have b17 := F17.binds (ps := ["thing"]) fun _ _ _ _ _ _ us hl => match us, hl with | [_], _ => rfl
  obtain ⟨fd18, D18⟩ := SD.def_ 18 (d := hd18) rfl
  have a18 := Hd.glo_ns (SD.fact 18 (f := .glo "is_whole") rfl)
  have k18 := D18.kp
  have F18 : Fun K "is_whole" "is_whole" s_is_whole (He.ga K "is_whole") fd18 := Hd.fun_of D18
  have b18 := F18.binds (ps := ["thing"]) fun _ _ _ _ _ _ us hl => match us, hl with | [_], _ => rfl
  obtain ⟨fd19, D19⟩ := SD.def_ 19 (d := hd19) rfl
  have a19 := Hd.glo_ns (SD.fact 19 (f := .glo "is_derivative") rfl)
  have k19 := D19.kp
  have F19 : Fun K "is_derivative" "is_derivative" s_is_derivative (He.ga K "is_derivative") fd19 := Hd.fun_of D19
  have b19 := F19.binds (ps := ["thing"]) fun _ _ _ _ _ _ us hl => match us, hl with | [_], _ => rfl
  obtain ⟨fd20, D20⟩ := SD.def_ 20 (d := hd20) rfl
  have a20 := Hd.glo_ns (SD.fact 20 (f := .glo "_is_powered") rfl)
  have k20 := D20.kp
  have F20 : Fun K "_is_powered" "_is_powered" s__is_powered (He.ga K "_is_powered") fd20 := Hd.fun_of D20
  have b20 := F20.binds (ps := ["thing"]) fun _ _ _ _ _ _ us hl => match us, hl with | [_], _ => rfl
  obtain ⟨fd21, D21⟩ := SD.def_ 21 (d := hd21) rfl
  have a21 := Hd.glo_ns (SD.fact 21 (f := .glo "is_monomial") rfl)
  have k21 := D21.kp
  have F21 : Fun K "is_monomial" "is_monomial" s_is_monomial (He.ga K "is_monomial") fd21 := Hd.fun_of D21
  have b21 := F21.binds (ps := ["thing"]) fun _ _ _ _ _ _ us hl => match us, hl with | [_], _ => rfl
  obtain ⟨fd22, D22⟩ := SD.def_ 22 (d := hd22) rfl
  have a22 := Hd.glo_ns (SD.fact 22 (f := .glo "is_fraction") rfl)
  have k22 := D22.kp
  have F22 : Fun K "is_fraction" "is_fraction" s_is_fraction (He.ga K "is_fraction") fd22 := Hd.fun_of D22
  have b22 := F22.binds (ps := ["thing"]) fun _ _ _ _ _ _ us hl => match us, hl with | [_], _ => rfl
  obtain ⟨fd23, D23⟩ := SD.def_ 23 (d := hd23) rfl
  have a23 := Hd.glo_ns (SD.fact 23 (f := .glo "_is_term") rfl)
  have k23 := D23.kp
  have F23 : Fun K "_is_term" "_is_term" s__is_term (He.ga K "_is_term") fd23 := Hd.fun_of D23
  have b23 := F23.binds (ps := ["thing"]) fun _ _ _ _ _ _ us hl => match us, hl with | [_], _ => rfl
  obtain ⟨fd24, D24⟩ := SD.def_ 24 (d := hd24) rfl
  have a24 := Hd.glo_ns (SD.fact 24 (f := .glo "need_polynomial") rfl)
  have k24 := D24.kp
  have F24 : Fun K "need_polynomial" "need_polynomial" s_need_polynomial (He.ga K "need_polynomial") fd24 := Hd.fun_of D24
  have b24 := F24.binds (ps := ["thing"]) fun _ _ _ _ _ _ us hl => match us, hl with | [_], _ => rfl
  obtain ⟨fd25, D25⟩ := SD.def_ 25 (d := hd25) rfl
  have a25 := Hd.glo_ns (SD.fact 25 (f := .glo "is_polynomial") rfl)
  have k25 := D25.kp
  have F25 : Fun K "is_polynomial" "is_polynomial" s_is_polynomial (He.ga K "is_polynomial") fd25 := Hd.fun_of D25
  have b25 := F25.binds (ps := ["thing"]) fun _ _ _ _ _ _ us hl => match us, hl with | [_], _ => rfl
  obtain ⟨fd26, D26⟩ := SD.def_ 26 (d := hd26) rfl
  have a26 := Hd.glo_ns (SD.fact 26 (f := .glo "_law_kinds") rfl)
  have k26 := D26.kp
  have F26 : Fun K "_law_kinds" "_law_kinds" s_Lkinds (He.ga K "_law_kinds") fd26 := Hd.fun_of D26
  have b26 := F26.binds (ps := ["_law_error"]) fun _ _ _ _ _ _ us hl => match us, hl with | [_], _ => rfl
  obtain ⟨fd27, D27⟩ := SD.def_ 27 (d := hd27) rfl
  have a27 := Hd.glo_ns (SD.fact 27 (f := .glo "_law_right") rfl)
  have k27 := D27.kp
  have F27 : Fun K "_law_right" "_law_right" s_Lright (He.ga K "_law_right") fd27 := Hd.fun_of D27
  have b27 := F27.binds (ps := ["_law_thing"]) fun _ _ _ _ _ _ us hl => match us, hl with | [_], _ => rfl
  obtain ⟨fd28, D28⟩ := SD.def_ 28 (d := hd28) rfl
  have k28 := D28.kp
  have F28 : Fun K "law" "law" s_law (He.ga K "law") fd28 := Hd.fun_of D28
  have hb := D28.bindsA (ps := ["_law_script"]) fun _ _ _ _ _ _ us hl => match us, hl with | [_], _ => rfl
  obtain ⟨fd101, D101⟩ := SD.def_ 29 (d := hd29) rfl
  have F101 : FunD K "__init__" "BadPolynomial.__init__" (defArgs s_BadPolynomial) (defBody s_BadPolynomial) (defScope s_BadPolynomial) [.non] [] (He.ma K (He.ga K "BadPolynomial") "__init__") fd101 := D101
  obtain ⟨_, kP1⟩ := F101.kbindsD (ps := ["self", "number"]) 2 [] (fun us _ _ => us) (by simp) (fun a _ _ => a) fun T kV doc pm an cdv ct us its ws l1 l2 l3 => match us, its, ws, l1, l2, l3 with | [_, _], [_], [], _, _, _ => ⟨_, rfl, rfl⟩
  obtain ⟨_, kZ1⟩ := F101.kbindsD (ps := ["self", "number"]) 1 [] (fun us its _ => us ++ its) (by simp) (fun a b _ => a.append b) fun T kV doc pm an cdv ct us its ws l1 l2 l3 => match us, its, ws, l1, l2, l3 with | [_], [_], [], _, _, _ => ⟨_, rfl, rfl⟩
  have i1 : PySem.W.findIn K (.ref (He.ga K "BadPolynomial")) "__init__" = some (some (.ref (He.ma K (He.ga K "BadPolynomial") "__init__"))) := of_decide_eq_true (Bool.and_eq_true_iff.mp (SD.fact 68 (f := .meth "BadPolynomial" "__init__") rfl)).1
  have n1_number : PySem.W.findIn K (.ref (He.ga K "BadPolynomial")) "number" = some none := of_decide_eq_true (SD.fact 69 (f := .noat "BadPolynomial" "number") rfl)
  have n0_row : PySem.W.findIn K (.ref (He.ga K "BadRow")) "row" = some none := of_decide_eq_true (SD.fact 70 (f := .noat "BadRow" "row") rfl)
  have n0_word : PySem.W.findIn K (.ref (He.ga K "BadRow")) "word" = some none := of_decide_eq_true (SD.fact 71 (f := .noat "BadRow" "word") rfl)
  have n2_place : PySem.W.findIn K (.ref (He.ga K "BadRanking")) "place" = some none := of_decide_eq_true (SD.fact 72 (f := .noat "BadRanking" "place") rfl)
  have n3_place : PySem.W.findIn K (.ref (He.ga K "BadChain")) "place" = some none := of_decide_eq_true (SD.fact 73 (f := .noat "BadChain" "place") rfl)
  have n4_place : PySem.W.findIn K (.ref (He.ga K "BadData")) "place" = some none := of_decide_eq_true (SD.fact 74 (f := .noat "BadData" "place") rfl)
  have n5_place : PySem.W.findIn K (.ref (He.ga K "BadJet")) "place" = some none := of_decide_eq_true (SD.fact 75 (f := .noat "BadJet" "place") rfl)
  have n6_place : PySem.W.findIn K (.ref (He.ga K "BadPaper")) "place" = some none := of_decide_eq_true (SD.fact 76 (f := .noat "BadPaper" "place") rfl)
  have n7_name : PySem.W.findIn K (.ref (He.ga K "NoUnknown")) "name" = some none := of_decide_eq_true (SD.fact 77 (f := .noat "NoUnknown" "name") rfl)
  have n8_number : PySem.W.findIn K (.ref (He.ga K "NoEquation")) "number" = some none := of_decide_eq_true (SD.fact 78 (f := .noat "NoEquation" "number") rfl)
  have n9_number : PySem.W.findIn K (.ref (He.ga K "NoCase")) "number" = some none := of_decide_eq_true (SD.fact 79 (f := .noat "NoCase" "number") rfl)
  have n10_number : PySem.W.findIn K (.ref (He.ga K "Contradicted")) "number" = some none := of_decide_eq_true (SD.fact 80 (f := .noat "Contradicted" "number") rfl)
  have n11_number : PySem.W.findIn K (.ref (He.ga K "Knotted")) "number" = some none := of_decide_eq_true (SD.fact 81 (f := .noat "Knotted" "number") rfl)
  have m_LookupError := PySem.W.mg_none_of X G (Hd.free_ns (SD.fact 48 (f := .free "LookupError") rfl))
  have m_RuntimeError := PySem.W.mg_none_of X G (Hd.free_ns (SD.fact 49 (f := .free "RuntimeError") rfl))
  have m_ValueError := PySem.W.mg_none_of X G (Hd.free_ns (SD.fact 50 (f := .free "ValueError") rfl))
  have m_abs := PySem.W.mg_none_of X G (Hd.free_ns (SD.fact 51 (f := .free "abs") rfl))
  have m_all := PySem.W.mg_none_of X G (Hd.free_ns (SD.fact 52 (f := .free "all") rfl))
  have m_bool := PySem.W.mg_none_of X G (Hd.free_ns (SD.fact 53 (f := .free "bool") rfl))
  have m_dict := PySem.W.mg_none_of X G (Hd.free_ns (SD.fact 54 (f := .free "dict") rfl))
  have m_enumerate := PySem.W.mg_none_of X G (Hd.free_ns (SD.fact 55 (f := .free "enumerate") rfl))
  have m_int := PySem.W.mg_none_of X G (Hd.free_ns (SD.fact 56 (f := .free "int") rfl))
  have m_isinstance := PySem.W.mg_none_of X G (Hd.free_ns (SD.fact 57 (f := .free "isinstance") rfl))
  have m_len := PySem.W.mg_none_of X G (Hd.free_ns (SD.fact 58 (f := .free "len") rfl))
  have m_list := PySem.W.mg_none_of X G (Hd.free_ns (SD.fact 59 (f := .free "list") rfl))
  have m_range := PySem.W.mg_none_of X G (Hd.free_ns (SD.fact 60 (f := .free "range") rfl))
  have m_repr := PySem.W.mg_none_of X G (Hd.free_ns (SD.fact 61 (f := .free "repr") rfl))
  have m_sorted := PySem.W.mg_none_of X G (Hd.free_ns (SD.fact 62 (f := .free "sorted") rfl))
  have m_str := PySem.W.mg_none_of X G (Hd.free_ns (SD.fact 63 (f := .free "str") rfl))
  have m_sum := PySem.W.mg_none_of X G (Hd.free_ns (SD.fact 64 (f := .free "sum") rfl))
  have m_tuple := PySem.W.mg_none_of X G (Hd.free_ns (SD.fact 65 (f := .free "tuple") rfl))
  have xm_BadPolynomial_BadPolynomial : PySem.W.exmOne K (.ref (He.ga K "BadPolynomial")) (.ref (He.ga K "BadPolynomial")) = some true := of_decide_eq_true (SD.fact 82 (f := .exm "BadPolynomial" "BadPolynomial" true) rfl)
  have xm_BadRow_ChainError : PySem.W.exmOne K (.ref (He.ga K "BadRow")) (.ref (He.ga K "ChainError")) = some true := of_decide_eq_true (SD.fact 83 (f := .exm "BadRow" "ChainError" true) rfl)
  have xm_BadPolynomial_ChainError : PySem.W.exmOne K (.ref (He.ga K "BadPolynomial")) (.ref (He.ga K "ChainError")) = some true := of_decide_eq_true (SD.fact 84 (f := .exm "BadPolynomial" "ChainError" true) rfl)
  have xm_BadRanking_ChainError : PySem.W.exmOne K (.ref (He.ga K "BadRanking")) (.ref (He.ga K "ChainError")) = some true := of_decide_eq_true (SD.fact 85 (f := .exm "BadRanking" "ChainError" true) rfl)
  have xm_BadChain_ChainError : PySem.W.exmOne K (.ref (He.ga K "BadChain")) (.ref (He.ga K "ChainError")) = some true := of_decide_eq_true (SD.fact 86 (f := .exm "BadChain" "ChainError" true) rfl)
  have xm_BadData_ChainError : PySem.W.exmOne K (.ref (He.ga K "BadData")) (.ref (He.ga K "ChainError")) = some true := of_decide_eq_true (SD.fact 87 (f := .exm "BadData" "ChainError" true) rfl)
  have xm_BadJet_ChainError : PySem.W.exmOne K (.ref (He.ga K "BadJet")) (.ref (He.ga K "ChainError")) = some true := of_decide_eq_true (SD.fact 88 (f := .exm "BadJet" "ChainError" true) rfl)
  have xm_BadPaper_ChainError : PySem.W.exmOne K (.ref (He.ga K "BadPaper")) (.ref (He.ga K "ChainError")) = some true := of_decide_eq_true (SD.fact 89 (f := .exm "BadPaper" "ChainError" true) rfl)
  have xm_Twice_ChainError : PySem.W.exmOne K (.ref (He.ga K "Twice")) (.ref (He.ga K "ChainError")) = some true := of_decide_eq_true (SD.fact 90 (f := .exm "Twice" "ChainError" true) rfl)
  have xm_OutOfPlace_ChainError : PySem.W.exmOne K (.ref (He.ga K "OutOfPlace")) (.ref (He.ga K "ChainError")) = some true := of_decide_eq_true (SD.fact 91 (f := .exm "OutOfPlace" "ChainError" true) rfl)
  have xm_TooGreat_ChainError : PySem.W.exmOne K (.ref (He.ga K "TooGreat")) (.ref (He.ga K "ChainError")) = some true := of_decide_eq_true (SD.fact 92 (f := .exm "TooGreat" "ChainError" true) rfl)
  obtain ⟨tk_gML, gML⟩ := Hd.int_ns (SD.fact 66 (f := .int "MOST_LETTERS" 8) rfl)
  obtain ⟨tk_gLE, gLE⟩ := Hd.str_ns (SD.fact 67 (f := .str "LETTERS" "abcdefghijklmnopqrstuvwxyz") rfl)
  have x0 : xcB K (He.ga K "BadRow") (bmI 0) (nwI 0) = true := hex_at E 0 (e := hx_x0) rfl
  have x1 : xcB K (He.ga K "BadPolynomial") (bmI 1) (nwI 1) = true := hex_at E 1 (e := hx_x1) rfl
  have x2 : xcB K (He.ga K "BadRanking") (bmI 2) (nwI 2) = true := hex_at E 2 (e := hx_x2) rfl
  have x3 : xcB K (He.ga K "BadChain") (bmI 3) (nwI 3) = true := hex_at E 3 (e := hx_x3) rfl
  have x4 : xcB K (He.ga K "BadData") (bmI 4) (nwI 4) = true := hex_at E 4 (e := hx_x4) rfl
  have x5 : xcB K (He.ga K "BadJet") (bmI 5) (nwI 5) = true := hex_at E 5 (e := hx_x5) rfl
  have x6 : xcB K (He.ga K "BadPaper") (bmI 6) (nwI 6) = true := hex_at E 6 (e := hx_x6) rfl
  have x7 : xcB K (He.ga K "NoUnknown") (bmI 7) (nwI 7) = true := hex_at E 7 (e := hx_x7) rfl
  have x8 : xcB K (He.ga K "NoEquation") (bmI 8) (nwI 8) = true := hex_at E 8 (e := hx_x8) rfl
  have x9 : xcB K (He.ga K "NoCase") (bmI 9) (nwI 9) = true := hex_at E 9 (e := hx_x9) rfl
  have x10 : xcB K (He.ga K "Contradicted") (bmI 10) (nwI 10) = true := hex_at E 10 (e := hx_x10) rfl
  have x11 : xcB K (He.ga K "Knotted") (bmI 11) (nwI 11) = true := hex_at E 11 (e := hx_x11) rfl
  have x12 : xcB K (He.ga K "Twice") (bmI 12) (nwI 12) = true := hex_at E 12 (e := hx_x12) rfl
  have x13 : xcB K (He.ga K "OutOfPlace") (bmI 13) (nwI 13) = true := hex_at E 13 (e := hx_x13) rfl
  have x14 : xcB K (He.ga K "TooGreat") (bmI 14) (nwI 14) = true := hex_at E 14 (e := hx_x14) rfl
  have x15 : xcB K (He.ga K "Nothing") (bmI 15) (nwI 15) = true := hex_at E 15 (e := hx_x15) rfl
  have q12 : PySem.W.excIn K (He.ga K "Twice") (bmI 12) (nwI 12) = true := hex_at E 16 (e := hx_q12) rfl
  have q13 : PySem.W.excIn K (He.ga K "OutOfPlace") (bmI 13) (nwI 13) = true := hex_at E 17 (e := hx_q13) rfl
  have q14 : PySem.W.excIn K (He.ga K "TooGreat") (bmI 14) (nwI 14) = true := hex_at E 18 (e := hx_q14) rfl
  have q15 : PySem.W.excIn K (He.ga K "Nothing") (bmI 15) (nwI 15) = true := hex_at E 19 (e := hx_q15) rfl
  have kt0 := of_decide_eq_true (p := (testsOf (cxOfL [(He.ga K "BadRow"), (He.ga K "BadPolynomial"), (He.ga K "BadRanking"), (He.ga K "BadChain"), (He.ga K "BadData"), (He.ga K "BadJet"), (He.ga K "BadPaper"), (He.ga K "NoUnknown"), (He.ga K "NoEquation"), (He.ga K "NoCase"), (He.ga K "Contradicted"), (He.ga K "Knotted"), (He.ga K "Twice"), (He.ga K "OutOfPlace"), (He.ga K "TooGreat"), (He.ga K "Nothing"), (He.ga K "ChainError"), (He.ga K "MissError"), (He.ga K "CaseError")])).map (PySem.W.kitOne K (.ref (He.ga K "BadRow"))) = (kb 0).map some) (hex_at E 20 (e := hx_kt0) rfl)
  have kt1 := of_decide_eq_true (p := (testsOf (cxOfL [(He.ga K "BadRow"), (He.ga K "BadPolynomial"), (He.ga K "BadRanking"), (He.ga K "BadChain"), (He.ga K "BadData"), (He.ga K "BadJet"), (He.ga K "BadPaper"), (He.ga K "NoUnknown"), (He.ga K "NoEquation"), (He.ga K "NoCase"), (He.ga K "Contradicted"), (He.ga K "Knotted"), (He.ga K "Twice"), (He.ga K "OutOfPlace"), (He.ga K "TooGreat"), (He.ga K "Nothing"), (He.ga K "ChainError"), (He.ga K "MissError"), (He.ga K "CaseError")])).map (PySem.W.kitOne K (.ref (He.ga K "BadPolynomial"))) = (kb 1).map some) (hex_at E 21 (e := hx_kt1) rfl)
  have kt2 := of_decide_eq_true (p := (testsOf (cxOfL [(He.ga K "BadRow"), (He.ga K "BadPolynomial"), (He.ga K "BadRanking"), (He.ga K "BadChain"), (He.ga K "BadData"), (He.ga K "BadJet"), (He.ga K "BadPaper"), (He.ga K "NoUnknown"), (He.ga K "NoEquation"), (He.ga K "NoCase"), (He.ga K "Contradicted"), (He.ga K "Knotted"), (He.ga K "Twice"), (He.ga K "OutOfPlace"), (He.ga K "TooGreat"), (He.ga K "Nothing"), (He.ga K "ChainError"), (He.ga K "MissError"), (He.ga K "CaseError")])).map (PySem.W.kitOne K (.ref (He.ga K "BadRanking"))) = (kb 2).map some) (hex_at E 22 (e := hx_kt2) rfl)
  have kt3 := of_decide_eq_true (p := (testsOf (cxOfL [(He.ga K "BadRow"), (He.ga K "BadPolynomial"), (He.ga K "BadRanking"), (He.ga K "BadChain"), (He.ga K "BadData"), (He.ga K "BadJet"), (He.ga K "BadPaper"), (He.ga K "NoUnknown"), (He.ga K "NoEquation"), (He.ga K "NoCase"), (He.ga K "Contradicted"), (He.ga K "Knotted"), (He.ga K "Twice"), (He.ga K "OutOfPlace"), (He.ga K "TooGreat"), (He.ga K "Nothing"), (He.ga K "ChainError"), (He.ga K "MissError"), (He.ga K "CaseError")])).map (PySem.W.kitOne K (.ref (He.ga K "BadChain"))) = (kb 3).map some) (hex_at E 23 (e := hx_kt3) rfl)
  have kt4 := of_decide_eq_true (p := (testsOf (cxOfL [(He.ga K "BadRow"), (He.ga K "BadPolynomial"), (He.ga K "BadRanking"), (He.ga K "BadChain"), (He.ga K "BadData"), (He.ga K "BadJet"), (He.ga K "BadPaper"), (He.ga K "NoUnknown"), (He.ga K "NoEquation"), (He.ga K "NoCase"), (He.ga K "Contradicted"), (He.ga K "Knotted"), (He.ga K "Twice"), (He.ga K "OutOfPlace"), (He.ga K "TooGreat"), (He.ga K "Nothing"), (He.ga K "ChainError"), (He.ga K "MissError"), (He.ga K "CaseError")])).map (PySem.W.kitOne K (.ref (He.ga K "BadData"))) = (kb 4).map some) (hex_at E 24 (e := hx_kt4) rfl)
  have kt5 := of_decide_eq_true (p := (testsOf (cxOfL [(He.ga K "BadRow"), (He.ga K "BadPolynomial"), (He.ga K "BadRanking"), (He.ga K "BadChain"), (He.ga K "BadData"), (He.ga K "BadJet"), (He.ga K "BadPaper"), (He.ga K "NoUnknown"), (He.ga K "NoEquation"), (He.ga K "NoCase"), (He.ga K "Contradicted"), (He.ga K "Knotted"), (He.ga K "Twice"), (He.ga K "OutOfPlace"), (He.ga K "TooGreat"), (He.ga K "Nothing"), (He.ga K "ChainError"), (He.ga K "MissError"), (He.ga K "CaseError")])).map (PySem.W.kitOne K (.ref (He.ga K "BadJet"))) = (kb 5).map some) (hex_at E 25 (e := hx_kt5) rfl)
  have kt6 := of_decide_eq_true (p := (testsOf (cxOfL [(He.ga K "BadRow"), (He.ga K "BadPolynomial"), (He.ga K "BadRanking"), (He.ga K "BadChain"), (He.ga K "BadData"), (He.ga K "BadJet"), (He.ga K "BadPaper"), (He.ga K "NoUnknown"), (He.ga K "NoEquation"), (He.ga K "NoCase"), (He.ga K "Contradicted"), (He.ga K "Knotted"), (He.ga K "Twice"), (He.ga K "OutOfPlace"), (He.ga K "TooGreat"), (He.ga K "Nothing"), (He.ga K "ChainError"), (He.ga K "MissError"), (He.ga K "CaseError")])).map (PySem.W.kitOne K (.ref (He.ga K "BadPaper"))) = (kb 6).map some) (hex_at E 26 (e := hx_kt6) rfl)
  have kt7 := of_decide_eq_true (p := (testsOf (cxOfL [(He.ga K "BadRow"), (He.ga K "BadPolynomial"), (He.ga K "BadRanking"), (He.ga K "BadChain"), (He.ga K "BadData"), (He.ga K "BadJet"), (He.ga K "BadPaper"), (He.ga K "NoUnknown"), (He.ga K "NoEquation"), (He.ga K "NoCase"), (He.ga K "Contradicted"), (He.ga K "Knotted"), (He.ga K "Twice"), (He.ga K "OutOfPlace"), (He.ga K "TooGreat"), (He.ga K "Nothing"), (He.ga K "ChainError"), (He.ga K "MissError"), (He.ga K "CaseError")])).map (PySem.W.kitOne K (.ref (He.ga K "NoUnknown"))) = (kb 7).map some) (hex_at E 27 (e := hx_kt7) rfl)
  have kt8 := of_decide_eq_true (p := (testsOf (cxOfL [(He.ga K "BadRow"), (He.ga K "BadPolynomial"), (He.ga K "BadRanking"), (He.ga K "BadChain"), (He.ga K "BadData"), (He.ga K "BadJet"), (He.ga K "BadPaper"), (He.ga K "NoUnknown"), (He.ga K "NoEquation"), (He.ga K "NoCase"), (He.ga K "Contradicted"), (He.ga K "Knotted"), (He.ga K "Twice"), (He.ga K "OutOfPlace"), (He.ga K "TooGreat"), (He.ga K "Nothing"), (He.ga K "ChainError"), (He.ga K "MissError"), (He.ga K "CaseError")])).map (PySem.W.kitOne K (.ref (He.ga K "NoEquation"))) = (kb 8).map some) (hex_at E 28 (e := hx_kt8) rfl)
  have kt9 := of_decide_eq_true (p := (testsOf (cxOfL [(He.ga K "BadRow"), (He.ga K "BadPolynomial"), (He.ga K "BadRanking"), (He.ga K "BadChain"), (He.ga K "BadData"), (He.ga K "BadJet"), (He.ga K "BadPaper"), (He.ga K "NoUnknown"), (He.ga K "NoEquation"), (He.ga K "NoCase"), (He.ga K "Contradicted"), (He.ga K "Knotted"), (He.ga K "Twice"), (He.ga K "OutOfPlace"), (He.ga K "TooGreat"), (He.ga K "Nothing"), (He.ga K "ChainError"), (He.ga K "MissError"), (He.ga K "CaseError")])).map (PySem.W.kitOne K (.ref (He.ga K "NoCase"))) = (kb 9).map some) (hex_at E 29 (e := hx_kt9) rfl)
  have kt10 := of_decide_eq_true (p := (testsOf (cxOfL [(He.ga K "BadRow"), (He.ga K "BadPolynomial"), (He.ga K "BadRanking"), (He.ga K "BadChain"), (He.ga K "BadData"), (He.ga K "BadJet"), (He.ga K "BadPaper"), (He.ga K "NoUnknown"), (He.ga K "NoEquation"), (He.ga K "NoCase"), (He.ga K "Contradicted"), (He.ga K "Knotted"), (He.ga K "Twice"), (He.ga K "OutOfPlace"), (He.ga K "TooGreat"), (He.ga K "Nothing"), (He.ga K "ChainError"), (He.ga K "MissError"), (He.ga K "CaseError")])).map (PySem.W.kitOne K (.ref (He.ga K "Contradicted"))) = (kb 10).map some) (hex_at E 30 (e := hx_kt10) rfl)
  have kt11 := of_decide_eq_true (p := (testsOf (cxOfL [(He.ga K "BadRow"), (He.ga K "BadPolynomial"), (He.ga K "BadRanking"), (He.ga K "BadChain"), (He.ga K "BadData"), (He.ga K "BadJet"), (He.ga K "BadPaper"), (He.ga K "NoUnknown"), (He.ga K "NoEquation"), (He.ga K "NoCase"), (He.ga K "Contradicted"), (He.ga K "Knotted"), (He.ga K "Twice"), (He.ga K "OutOfPlace"), (He.ga K "TooGreat"), (He.ga K "Nothing"), (He.ga K "ChainError"), (He.ga K "MissError"), (He.ga K "CaseError")])).map (PySem.W.kitOne K (.ref (He.ga K "Knotted"))) = (kb 11).map some) (hex_at E 31 (e := hx_kt11) rfl)
  have kt12 := of_decide_eq_true (p := (testsOf (cxOfL [(He.ga K "BadRow"), (He.ga K "BadPolynomial"), (He.ga K "BadRanking"), (He.ga K "BadChain"), (He.ga K "BadData"), (He.ga K "BadJet"), (He.ga K "BadPaper"), (He.ga K "NoUnknown"), (He.ga K "NoEquation"), (He.ga K "NoCase"), (He.ga K "Contradicted"), (He.ga K "Knotted"), (He.ga K "Twice"), (He.ga K "OutOfPlace"), (He.ga K "TooGreat"), (He.ga K "Nothing"), (He.ga K "ChainError"), (He.ga K "MissError"), (He.ga K "CaseError")])).map (PySem.W.kitOne K (.ref (He.ga K "Twice"))) = (kb 12).map some) (hex_at E 32 (e := hx_kt12) rfl)
  have kt13 := of_decide_eq_true (p := (testsOf (cxOfL [(He.ga K "BadRow"), (He.ga K "BadPolynomial"), (He.ga K "BadRanking"), (He.ga K "BadChain"), (He.ga K "BadData"), (He.ga K "BadJet"), (He.ga K "BadPaper"), (He.ga K "NoUnknown"), (He.ga K "NoEquation"), (He.ga K "NoCase"), (He.ga K "Contradicted"), (He.ga K "Knotted"), (He.ga K "Twice"), (He.ga K "OutOfPlace"), (He.ga K "TooGreat"), (He.ga K "Nothing"), (He.ga K "ChainError"), (He.ga K "MissError"), (He.ga K "CaseError")])).map (PySem.W.kitOne K (.ref (He.ga K "OutOfPlace"))) = (kb 13).map some) (hex_at E 33 (e := hx_kt13) rfl)
  have kt14 := of_decide_eq_true (p := (testsOf (cxOfL [(He.ga K "BadRow"), (He.ga K "BadPolynomial"), (He.ga K "BadRanking"), (He.ga K "BadChain"), (He.ga K "BadData"), (He.ga K "BadJet"), (He.ga K "BadPaper"), (He.ga K "NoUnknown"), (He.ga K "NoEquation"), (He.ga K "NoCase"), (He.ga K "Contradicted"), (He.ga K "Knotted"), (He.ga K "Twice"), (He.ga K "OutOfPlace"), (He.ga K "TooGreat"), (He.ga K "Nothing"), (He.ga K "ChainError"), (He.ga K "MissError"), (He.ga K "CaseError")])).map (PySem.W.kitOne K (.ref (He.ga K "TooGreat"))) = (kb 14).map some) (hex_at E 34 (e := hx_kt14) rfl)
  have kt15 := of_decide_eq_true (p := (testsOf (cxOfL [(He.ga K "BadRow"), (He.ga K "BadPolynomial"), (He.ga K "BadRanking"), (He.ga K "BadChain"), (He.ga K "BadData"), (He.ga K "BadJet"), (He.ga K "BadPaper"), (He.ga K "NoUnknown"), (He.ga K "NoEquation"), (He.ga K "NoCase"), (He.ga K "Contradicted"), (He.ga K "Knotted"), (He.ga K "Twice"), (He.ga K "OutOfPlace"), (He.ga K "TooGreat"), (He.ga K "Nothing"), (He.ga K "ChainError"), (He.ga K "MissError"), (He.ga K "CaseError")])).map (PySem.W.kitOne K (.ref (He.ga K "Nothing"))) = (kb 15).map some) (hex_at E 35 (e := hx_kt15) rfl)
  have sysF : HdC.sysB K = true := hex_at E 36 (e := hx_sysF) rfl
  have r16 : PySem.W.readsIn K (He.ga K "ChainError") (.type "type") = true := hex_at E 37 (e := hx_r16) rfl
  have y16 := Hd.isVal_ok (hex_at E 38 (e := hx_y16) rfl)
  have ty1 := of_decide_eq_true (p := PySem.W.typeIn K (.ref (He.ga K "BadPolynomial")) = some (.type "type")) (hex_at E 39 (e := hx_ty1) rfl)
  have t101 := of_decide_eq_true (p := PySem.W.typeIn K (.ref (He.ma K (He.ga K "BadPolynomial") "__init__")) = some (.type "function")) (hex_at E 40 (e := hx_t101) rfl)
  have s16 : PySem.W.specialIn K (.ref (He.ga K "ChainError")) "__getattribute__" = some (some (.builtin "type.__getattribute__")) := (List.cons.inj EV).1
  have gGC : PySem.W.nsIn K mainGlobals "gcd" = some (some (.builtin "math.gcd")) := (List.cons.inj (List.cons.inj EV).2).1
  have z16 : PySem.W.handedIn (.builtin "ValueError.__init__") = true := by decide +kernel
  have Tx : XT K mg (cxOfL [(He.ga K "BadRow"), (He.ga K "BadPolynomial"), (He.ga K "BadRanking"), (He.ga K "BadChain"), (He.ga K "BadData"), (He.ga K "BadJet"), (He.ga K "BadPaper"), (He.ga K "NoUnknown"), (He.ga K "NoEquation"), (He.ga K "NoCase"), (He.ga K "Contradicted"), (He.ga K "Knotted"), (He.ga K "Twice"), (He.ga K "OutOfPlace"), (He.ga K "TooGreat"), (He.ga K "Nothing"), (He.ga K "ChainError"), (He.ga K "MissError"), (He.ga K "CaseError")]) := by
    refine ⟨?_, ?_, n0_row, n0_word, n1_number, n2_place, n3_place, n4_place, n5_place, n6_place, n7_name, n8_number, n9_number, n10_number, n11_number, ?_, (PySem.W.mg_of X G gc_BadRow), (PySem.W.mg_of X G gc_BadPolynomial), (PySem.W.mg_of X G gc_BadRanking), (PySem.W.mg_of X G gc_BadChain), (PySem.W.mg_of X G gc_BadData), (PySem.W.mg_of X G gc_BadJet), (PySem.W.mg_of X G gc_BadPaper), (PySem.W.mg_of X G gc_NoUnknown), (PySem.W.mg_of X G gc_NoEquation), (PySem.W.mg_of X G gc_NoCase), (PySem.W.mg_of X G gc_Contradicted), (PySem.W.mg_of X G gc_Knotted), (PySem.W.mg_of X G gc_Twice), (PySem.W.mg_of X G gc_OutOfPlace), (PySem.W.mg_of X G gc_TooGreat), (PySem.W.mg_of X G gc_Nothing), (PySem.W.mg_of X G gc_ChainError), (PySem.W.mg_of X G gc_MissError), (PySem.W.mg_of X G gc_CaseError), m_isinstance, m_ValueError, m_LookupError, m_RuntimeError⟩
    · intro i hi
      match i, hi with
      | 0, _ => exact xc_of x0
      | 1, _ => exact xc_of x1
      | 2, _ => exact xc_of x2
      | 3, _ => exact xc_of x3
      | 4, _ => exact xc_of x4
      | 5, _ => exact xc_of x5
      | 6, _ => exact xc_of x6
      | 7, _ => exact xc_of x7
      | 8, _ => exact xc_of x8
      | 9, _ => exact xc_of x9
      | 10, _ => exact xc_of x10
      | 11, _ => exact xc_of x11
      | 12, _ => exact xc_of x12
      | 13, _ => exact xc_of x13
      | 14, _ => exact xc_of x14
      | 15, _ => exact xc_of x15
      | n + 16, h => exact absurd h (by omega)
    · intro i hi h12
      match i, hi, h12 with
      | 12, _, _ => exact q12
      | 13, _, _ => exact q13
      | 14, _, _ => exact q14
      | 15, _, _ => exact q15
      | 0, _, h | 1, _, h | 2, _, h | 3, _, h | 4, _, h | 5, _, h | 6, _, h | 7, _, h | 8, _, h | 9, _, h | 10, _, h | 11, _, h => exact absurd h (by decide)
      | n + 16, h, _ => exact absurd h (by omega)
    · intro i hi
      match i, hi with
      | 0, _ => exact kt0
      | 1, _ => exact kt1
      | 2, _ => exact kt2
      | 3, _ => exact kt3
      | 4, _ => exact kt4
      | 5, _ => exact kt5
      | 6, _ => exact kt6
      | 7, _ => exact kt7
      | 8, _ => exact kt8
      | 9, _ => exact kt9
      | 10, _ => exact kt10
      | 11, _ => exact kt11
      | 12, _ => exact kt12
      | 13, _ => exact kt13
      | 14, _ => exact kt14
      | 15, _ => exact kt15
      | n + 16, h => exact absurd h (by omega)
  have hx : ∀ i, i < 16 → (kb i).getD 16 false = true → PySem.W.exmOne K (.ref ((cxOfL [(He.ga K "BadRow"), (He.ga K "BadPolynomial"), (He.ga K "BadRanking"), (He.ga K "BadChain"), (He.ga K "BadData"), (He.ga K "BadJet"), (He.ga K "BadPaper"), (He.ga K "NoUnknown"), (He.ga K "NoEquation"), (He.ga K "NoCase"), (He.ga K "Contradicted"), (He.ga K "Knotted"), (He.ga K "Twice"), (He.ga K "OutOfPlace"), (He.ga K "TooGreat"), (He.ga K "Nothing"), (He.ga K "ChainError"), (He.ga K "MissError"), (He.ga K "CaseError")]) i)) (.ref ((cxOfL [(He.ga K "BadRow"), (He.ga K "BadPolynomial"), (He.ga K "BadRanking"), (He.ga K "BadChain"), (He.ga K "BadData"), (He.ga K "BadJet"), (He.ga K "BadPaper"), (He.ga K "NoUnknown"), (He.ga K "NoEquation"), (He.ga K "NoCase"), (He.ga K "Contradicted"), (He.ga K "Knotted"), (He.ga K "Twice"), (He.ga K "OutOfPlace"), (He.ga K "TooGreat"), (He.ga K "Nothing"), (He.ga K "ChainError"), (He.ga K "MissError"), (He.ga K "CaseError")]) 16)) = some true := by
    intro i hi hk
    match i, hi, hk with
    | 0, _, _ => exact xm_BadRow_ChainError
    | 1, _, _ => exact xm_BadPolynomial_ChainError
    | 2, _, _ => exact xm_BadRanking_ChainError
    | 3, _, _ => exact xm_BadChain_ChainError
    | 4, _, _ => exact xm_BadData_ChainError
    | 5, _, _ => exact xm_BadJet_ChainError
    | 6, _, _ => exact xm_BadPaper_ChainError
    | 12, _, _ => exact xm_Twice_ChainError
    | 13, _, _ => exact xm_OutOfPlace_ChainError
    | 14, _, _ => exact xm_TooGreat_ChainError
    | 7, _, h | 8, _, h | 9, _, h | 10, _, h | 11, _, h | 15, _, h => exact absurd h (by decide)
    | n + 16, h, _ => exact absurd h (by omega)
  have Z16 : XD K mg "ChainError" (He.ga K "ChainError") "ValueError.__init__" := ⟨(PySem.W.mg_of X G gc_ChainError), s16, r16, y16, z16⟩
  let TT : List (Addr × Str) := []
  refine ⟨fd28, [], spLaw K TT, (fun _ h => absurd h List.not_mem_nil), (fun _ h => absurd h List.not_mem_nil), (fun _ h => absurd h List.not_mem_nil), fun s v => hb s [v] rfl, fun H a ns hl _ hT hS => ⟨a, ns, rfl, hS, hl, fun p hp => absurd hp List.not_mem_nil, fun _ => rfl⟩, fun base hKb hNb hTB => ?_⟩
  have RBP : RP l.prog w K mg base "BadPolynomial" (He.ga K "BadPolynomial") "number" (He.ma K (He.ga K "BadPolynomial") "__init__") _ _ := ⟨xc_of x1, ⟨(xc_of x1).ex, ty1⟩, (PySem.W.mg_of X G gc_BadPolynomial), i1, t101, ok_BadPolynomial F101 (xc_of x1) Z16 n1_number, kP1, kZ1⟩
  have hS : SysK K := sysB_ok sysF
  have C0_ : Cal l.prog w K mg base "_law_draw" 1 ["_law_cell", "_law_k"] spDraw (He.ga K "_law_draw") _ := ⟨ok_Ldraw F0, (PySem.W.mg_of X G a0), k0, b0⟩
  have gM := ok_Lmixed (P := l.prog) (w := w) (mg := mg) (base := base) F1
  have C2_ : Cal l.prog w K mg base "_law_digit" 2 ["_law_state", "_law_size"] spDigit (He.ga K "_law_digit") _ := ⟨ok_Ldigit F2 gM m_range (PySem.W.mg_of X G a1) k1 b1, (PySem.W.mg_of X G a2), k2, b2⟩
  have C3_ : Cal l.prog w K mg base "_law_derivative" 3 ["_law_state", "_law_names", "_law_axes", "_law_high"] spDer (He.ga K "_law_derivative") _ := ⟨ok_Lderivative F3 C2_ m_len, (PySem.W.mg_of X G a3), k3, b3⟩
  have C4_ : Cal l.prog w K mg base "_law_monomial" 1 ["_law_pairs"] (spP (Rlm K)) (He.ga K "_law_monomial") _ := ⟨ok_Lmonomial F4 m_tuple m_sorted, (PySem.W.mg_of X G a4), k4, b4⟩
  have C5_ : Cal l.prog w K mg base "_law_lowest" 1 ["_law_top", "_law_bottom"] (spP (Rlow2 K)) (He.ga K "_law_lowest") _ := ⟨ok_Llowest F5 m_abs, (PySem.W.mg_of X G a5), k5, b5⟩
  have C6_ : Cal l.prog w K mg base "_law_number" 3 ["_law_state"] (spNum K TT) (He.ga K "_law_number") _ := ⟨ok_Lnumber F6 C2_ C5_, (PySem.W.mg_of X G a6), k6, b6⟩
  have C7_ : Cal l.prog w K mg base "_law_added" 2 ["_law_one", "_law_other", "_law_number_here"] (spP (Radd K)) (He.ga K "_law_added") _ := ⟨ok_Ladded F7 C5_ m_dict m_tuple m_sorted, (PySem.W.mg_of X G a7), k7, b7⟩
  have C8_ : Cal l.prog w K mg base "_law_poly" 4 ["_law_state", "_law_names", "_law_axes", "_law_size", "_law_high"] (spPoly K TT) (He.ga K "_law_poly") _ := ⟨ok_Lpoly F8 C2_ C3_ C4_ C6_ C7_ m_range m_tuple, (PySem.W.mg_of X G a8), k8, b8⟩
  have C9_ : Cal l.prog w K mg base "_law_among" 1 ["_law_thing", "_law_least"] (spP (RamE K)) (He.ga K "_law_among") _ := ⟨ok_Lamong F9 m_isinstance m_int m_bool, (PySem.W.mg_of X G a9), k9, b9⟩
  have C10_ : Cal l.prog w K mg base "_law_is_derivative" 2 ["_law_thing"] (spP (RBA K dvB)) (He.ga K "_law_is_derivative") _ := ⟨ok_Lis_derivative F10 C9_ m_isinstance m_tuple m_len m_str, (PySem.W.mg_of X G a10), k10, b10⟩
  have C11_ : Cal l.prog w K mg base "_law_is_monomial" 3 ["_law_thing"] (spP (RBA K moB)) (He.ga K "_law_is_monomial") _ := ⟨ok_Lis_monomial F11 C10_ C9_ m_isinstance m_tuple m_len, (PySem.W.mg_of X G a11), k11, b11⟩
  have C12_ : Cal l.prog w K mg base "_law_is_number" 2 ["_law_thing"] (spP (RNm K)) (He.ga K "_law_is_number") _ := ⟨ok_Lis_number F12 C9_ C5_ m_isinstance m_tuple m_len m_int, (PySem.W.mg_of X G a12), k12, b12⟩
  have C13_ : Cal l.prog w K mg base "_law_due" 4 ["_law_thing"] (spP (RdueE K)) (He.ga K "_law_due") _ := ⟨ok_Ldue F13 C11_ C12_ m_isinstance m_tuple m_len m_enumerate, (PySem.W.mg_of X G a13), k13, b13⟩
  have C14_ : Cal l.prog w K mg base "_law_odd" 3 ["_law_state"] (spOdd K TT) (He.ga K "_law_odd") _ := ⟨ok_Lodd F14 C2_, (PySem.W.mg_of X G a14), k14, b14⟩
  have C15_ : Cal l.prog w K mg base "_law_spoilt" 4 ["_law_state", "_law_things"] (spSpoilt K TT) (He.ga K "_law_spoilt") _ := ⟨ok_Lspoilt F15 C2_ C14_ m_len m_list, (PySem.W.mg_of X G a15), k15, b15⟩
  have C16_ : Cal l.prog w K mg base "_law_bent" 5 ["_law_state", "_law_thing"] (spBent K TT) (He.ga K "_law_bent") _ := ⟨ok_Lbent F16 C2_ C15_ m_len, (PySem.W.mg_of X G a16), k16, b16⟩
  have C17_ : Cal l.prog w K mg base "is_name" 2 ["thing"] (spP (RBE K nameB)) (He.ga K "is_name") _ := ⟨ok_is_name F17 m_isinstance m_str m_len m_all (PySem.W.mg_of X G gML) (PySem.W.mg_of X G gLE), (PySem.W.mg_of X G a17), k17, b17⟩
  have C18_ : Cal l.prog w K mg base "is_whole" 2 ["thing"] (spP (RBE K wholeB)) (He.ga K "is_whole") _ := ⟨ok_is_whole F18 m_isinstance m_int m_bool, (PySem.W.mg_of X G a18), k18, b18⟩
  have C19_ : Cal l.prog w K mg base "is_derivative" 3 ["thing"] (spP (RBE K dvB)) (He.ga K "is_derivative") _ := ⟨ok_is_derivative F19 C17_ C18_ m_isinstance m_tuple m_len, (PySem.W.mg_of X G a19), k19, b19⟩
  have C20_ : Cal l.prog w K mg base "_is_powered" 4 ["thing"] (spP (RBE K pwB)) (He.ga K "_is_powered") _ := ⟨ok__is_powered F20 C19_ C18_ m_isinstance m_tuple m_len, (PySem.W.mg_of X G a20), k20, b20⟩
  have C21_ : Cal l.prog w K mg base "is_monomial" 5 ["thing"] (spP (RBE K moB)) (He.ga K "is_monomial") _ := ⟨ok_is_monomial F21 C20_ m_isinstance m_tuple, (PySem.W.mg_of X G a21), k21, b21⟩
  have C22_ : Cal l.prog w K mg base "is_fraction" 3 ["thing"] (spP (RBE K frB)) (He.ga K "is_fraction") _ := ⟨ok_is_fraction F22 C18_ m_isinstance m_tuple m_len (PySem.W.mg_of X G gGC), (PySem.W.mg_of X G a22), k22, b22⟩
  have C23_ : Cal l.prog w K mg base "_is_term" 6 ["thing"] (spP (RBE K tmB)) (He.ga K "_is_term") _ := ⟨ok__is_term F23 C21_ C22_ m_isinstance m_tuple m_len, (PySem.W.mg_of X G a23), k23, b23⟩
  have C24_ : CalX l.prog w K mg base "need_polynomial" 7 ["thing"] (spO (RpoO K ((cxOfL [(He.ga K "BadRow"), (He.ga K "BadPolynomial"), (He.ga K "BadRanking"), (He.ga K "BadChain"), (He.ga K "BadData"), (He.ga K "BadJet"), (He.ga K "BadPaper"), (He.ga K "NoUnknown"), (He.ga K "NoEquation"), (He.ga K "NoCase"), (He.ga K "Contradicted"), (He.ga K "Knotted"), (He.ga K "Twice"), (He.ga K "OutOfPlace"), (He.ga K "TooGreat"), (He.ga K "Nothing"), (He.ga K "ChainError"), (He.ga K "MissError"), (He.ga K "CaseError")]) 1))) (He.ga K "need_polynomial") _ := ⟨ok_need_polynomial F24 C23_ m_isinstance m_tuple m_enumerate RBP, (PySem.W.mg_of X G a24), k24, b24⟩
  have C25_ : Cal l.prog w K mg base "is_polynomial" 8 ["thing"] (spP (RBE K poB)) (He.ga K "is_polynomial") _ := ⟨ok_is_polynomial F25 C24_ (PySem.W.mg_of X G gc_BadPolynomial) xm_BadPolynomial_BadPolynomial, (PySem.W.mg_of X G a25), k25, b25⟩
  have C26_ : Cal l.prog w K mg base "_law_kinds" 1 ["_law_error"] (spKinds (cxOfL [(He.ga K "BadRow"), (He.ga K "BadPolynomial"), (He.ga K "BadRanking"), (He.ga K "BadChain"), (He.ga K "BadData"), (He.ga K "BadJet"), (He.ga K "BadPaper"), (He.ga K "NoUnknown"), (He.ga K "NoEquation"), (He.ga K "NoCase"), (He.ga K "Contradicted"), (He.ga K "Knotted"), (He.ga K "Twice"), (He.ga K "OutOfPlace"), (He.ga K "TooGreat"), (He.ga K "Nothing"), (He.ga K "ChainError"), (He.ga K "MissError"), (He.ga K "CaseError")])) (He.ga K "_law_kinds") _ := ⟨ok_Lkinds F26 Tx, (PySem.W.mg_of X G a26), k26, b26⟩
  have C27_ : Gd.CalG l.prog w K mg base "_law_right" 9 ["_law_thing"] (spP (Rright K)) (He.ga K "_law_right") _ := ⟨ok_Lright F27 C25_ C13_ C24_ C26_ m_repr Tx hS xm_BadPolynomial_ChainError, (PySem.W.mg_of X G a27), k27, b27⟩
  exact ok_law F28 C0_ C2_ C8_ C13_ C16_ C3_ C15_ C14_ C19_ C10_ m_enumerate m_sum m_repr m_range C27_ hS
theorem walk2 {l : PySem.W.OpenLaw} {q : Program} {loose : List Str} {XP : (Str → Option Value) → Heap → Prop} {YP : World → Heap → Prop} {d : DefRec} (hn : l.most = some 63) (hdf : d.params.defaults = [])
    (F : ∀ (w : World) (mg : Str → Option Value) (fa : Addr) (h : Heap), YP w h → h.Ns mainGlobals mg → mg d.name = some (.ref fa) → ∃ K : PySem.W.Frag, K.In h ∧ Gd.LawAtG l w K 10 63 "_law_script" mg fa h) :
    PySem.W.WalkO q loose XP YP l.row.toRowW d [] (fun f vs => PySem.call f vs) :=
  Att.attach_callB hn hdf fun w _ _ mg _ fa _ _ _ _ a _ ns G Y _ _ _ hmg hobj hints hlen hbits hg => by
    obtain ⟨K, KX, fd, cs, sp, hT, nT, C, hb, hsp, hF⟩ := F w mg fa _ Y G.T.g hmg
    exact Gd.lawG KX G.T.g G.T.b G.T.builtins G.T.nolimit hg hT nT C G.T.bmain hobj hints (Nat.le_trans hlen (by decide)) ⟨rfl, by decide, by decide⟩ hF hb fun H hH hS => hsp H a ns hlen hbits hH hS
end K12
open PySem PySem.W PySem.Calls PyProof.Rows
set_option maxRecDepth 100000 in
set_option maxHeartbeats 0 in
theorem PySem.Challenge.cw_rankedchains_k02_polynomials_looked_at_holds : PySem.Challenge.rw_rankedchains_k02_polynomials_looked_at.Holds := by
  w_on; o_law
  refine HandSHeadRun.head_imp (r := OpenLaw.row PySem.Challenge.rw_rankedchains_k02_polynomials_looked_at) (q := view (OpenLaw.row PySem.Challenge.rw_rankedchains_k02_polynomials_looked_at).prog [0, 57]) (H := K12.hk) (ob := K12.hob) (M := 7000) (loose := K12.hnames) (d := HandSHeadRun.topDef (OpenLaw.row PySem.Challenge.rw_rankedchains_k02_polynomials_looked_at).prog 57) (kwd := []) K12.hob_eq
    K12.hrun (by kernel_rfl) (by kernel_rfl) (by kernel_rfl) (by rfl) (by first | assumption | decide +kernel) (by decide +kernel) ⟨rfl, rfl, rfl, rfl, rfl, by decide +kernel⟩ ?hw ?hc
  case hw => w_witness2
  case hc =>
    refine K12.walk2 (l := PySem.Challenge.rw_rankedchains_k02_polynomials_looked_at) rfl (by kernel_rfl) (fun w mg fa h Y G hmg0 => ?_)
    obtain ⟨K, KX, c, e, ev, lm⟩ := Y
    have hmg : mg ("law" : PySem.Str) = some (.ref fa) := by
      have e : (HandSHeadRun.topDef (OpenLaw.row PySem.Challenge.rw_rankedchains_k02_polynomials_looked_at).prog 57).name = ("law" : PySem.Str) := by kernel_rfl
      rw [← e]
      exact hmg0
    exact ⟨K, KX, K12.all_mk2 KX G hmg c e ev lm⟩
#print axioms PySem.Challenge.cw_rankedchains_k02_polynomials_looked_at_holds
