import PyProof.Rows.All
import Wide.All
import OpenK.AllK
import Wide.FinOn
import HandS.ForMost
import HandS.ForExc
import HandS.Walk
import HandS.Strs
import HandS.Deep
import HandS.Conv
import HandS.IsInst
import HandS.Style
import HandS.Evl
import HandS.Wide
import HandS.Set
import HandS.Nested
import HandS.EndTab
import KE.SortKeyHeap
import KE.KDictCopyH
import HandS.Head0
import HandS.Head1
import HandS.Head2
import HandS.Head3
import HandS.HeadEnd
import HandS.HeadHook1
import HandS.HeadHook2
import HandS.Words
import HandS.WordsExc
import HandS.ExcInit
import KE.KExcInit
import KE.KExcIs
import HandS.ExcOwn
import KE.KDictPairs
import KE.DataMinKey
import KE.DataCmp
import HandS.More
import HandS.Defaults
import HandS.Gcd
import HandS.Zip
import HandS.TryOnly
import HandS.Conv
import HandS.TupAny
import HandS.NoneIn
import KE.SortData
import KE.SortCalls
import KE.KDictKeyed
import PyProof.DictRoadsH
import PyProof.DictCompW
import HandS.DictComp
import HandS.DictTup
import HandS.RaiseMore
import HandS.Comp
import HandS.Lambda
import HandS.SortKw
import PyProof.ReprRoads
import PyProof.CallFns
import PyProof.ReprLen
import PyProof.StrLawsRepr
import PyProof.ReprText
import PyProof.DictItems
import KE.KRevSl
import KE.KDictWalk
import KE.GoesMore
import KE.GoesEnum
import KE.LtData
import HandS.New
import HandS.ExcValue
import HandS.MakeKw
import KE.DataMinMax
import KE.KDictDisplayH
import PyProof.Rows.TupDisplay
import PySem.Challenge.RW_rankedchains_k10_rankings_looked_at
set_option Elab.async false
set_option maxRecDepth 100000
set_option maxHeartbeats 4000000
namespace Hd
set_option autoImplicit false
open PySem PySem.Spec PySem.W PyProof.Rows L2 He
theorem fun_of {K : PySem.W.Frag} {x qual : Str} {st : Stmt} {f : Addr} {fd : FuncData} {kws : List (Str × V)} (F : FunD K x qual (defArgs st) (defBody st) (defScope st) [] kws f fd) : Fun K x qual st f fd := by
  obtain ⟨⟨oc, od, dV, kV, doc, pm, an, cdv, ct, osl, e, lk, hc, hd, hk⟩, kp⟩ := F
  rcases hd with ⟨_, rfl⟩ | ⟨ne, _⟩
  · exact ⟨⟨oc, od, kV, doc, pm, an, cdv, ct, osl, e, lk, hc⟩, kp⟩
  · exact absurd rfl ne
/-- where a def's code stands, and its table -/
def fcode (K : PySem.W.Frag) (x : Str) : Addr := match K.lookup (ga K x) with
  | some ⟨_, _, .func fd, _⟩ => (match fd.code with | .ref c => c | _ => 0)
  | _ => 0
def ctab (K : PySem.W.Frag) (c : Addr) : Addr := match K.lookup c with
  | some ⟨_, _, .fields vs, _⟩ => (match (vs[11]? : Option Value) with | some (Value.ref p) => p | _ => 0)
  | _ => 0
def lamB (K : PySem.W.Frag) (x : Str) : Bool := (match K.lookup (ga K x) with
  | some ⟨_, _, .func fd, _⟩ => decide (fd.code = .ref (fcode K x))
  | _ => false) && (codeHdIn K (fcode K x) (ctab K (fcode K x)) && (K.lookup (ctab K (fcode K x))).isNone)
def tabB (g : Addr → Option Obj) (tb : Addr) : Bool := match g tb with
  | some ⟨c, d, .fields vs, sl⟩ => decide (c = .none) && (d.isNone && (vs.isEmpty && sl.isEmpty))
  | _ => false
theorem tabB_ok {g : Addr → Option Obj} {tb : Addr} (h : tabB g tb = true) : g tb = some (tabObj #[]) := by
  unfold tabB at h
  split at h
  · rename_i c d vs sl e
    rw [e]
    simp only [Bool.and_eq_true, decide_eq_true_eq, Option.isNone_iff_eq_none, Array.isEmpty_iff] at h
    obtain ⟨rfl, rfl, rfl, rfl⟩ := h
    rfl
  · cases h
/-- what stands at the end, at these addresses -/
def frX (g : Addr → Option Obj) (as : List Addr) : PySem.W.Frag := frG g as
theorem frX_in {h : Heap} {as : List Addr} : (frX h.get? as).In h := frG_in
def obsX (n : List Addr) (fa : List Fa) (fn : List DefD) (lams : List Str) (ex : PySem.W.Frag → Bool) (vf : PySem.W.Frag → List (Option (Option Value))) (g : Addr → Option Obj) : AlD × Bool × List (Option (Option Value)) :=
  (obsD fa fn (frX g n), (ex (frX g n) && lams.all fun x => lamB (frX g n) x && tabB g (ctab (frX g n) (fcode (frX g n) x))), vf (frX g n))
def hookX (n : List Addr) (fa : List Fa) (fn : List DefD) (lams : List Str) (ex : PySem.W.Frag → Bool) (vf : PySem.W.Frag → List (Option (Option Value))) (vv : List (Option (Option Value))) : PySem.W.Hook where
  α := AlD × Bool × List (Option (Option Value))
  obs s := obsX n fa fn lams ex vf s.heap.get?
  val _ := (valD fn, true, vv)
  says _ h := ∃ K : PySem.W.Frag, K.In h ∧ SaysD fa fn K ∧ ex K = true ∧ vf K = vv ∧ ∀ x ∈ lams, lamB K x = true ∧ h.get? (ctab K (fcode K x)) = some (tabObj #[])
  of w s e := by
    have e1 : obsD fa fn (frX s.heap.get? n) = valD fn := congrArg Prod.fst e
    have e2 : (ex (frX s.heap.get? n) && lams.all fun x => lamB (frX s.heap.get? n) x && tabB s.heap.get? (ctab (frX s.heap.get? n) (fcode (frX s.heap.get? n) x))) = true := congrArg (fun z => z.2.1) e
    have e3 : vf (frX s.heap.get? n) = vv := congrArg (fun z => z.2.2) e
    rw [Bool.and_eq_true, List.all_eq_true] at e2
    exact ⟨frX s.heap.get? n, frX_in, e1, e2.1, e3, fun x hx => by
      have := e2.2 x hx
      rw [Bool.and_eq_true] at this
      exact ⟨this.1, tabB_ok this.2⟩⟩
  keeps w h h' := fun ⟨K, k, c, e, v, l⟩ m => ⟨K, fun a o z => m a o (k a o z), c, e, v, fun x hx => ⟨(l x hx).1, m _ _ (l x hx).2⟩⟩
theorem obsX_eq {n : List Addr} {fa : List Fa} {fn : List DefD} {lams : List Str} {ex : PySem.W.Frag → Bool} {vf : PySem.W.Frag → List (Option (Option Value))} {vv : List (Option (Option Value))} {g : Addr → Option Obj} {s : Shared} (h : ∀ a, g a = s.heap.get? a) : obsX n fa fn lams ex vf g = (hookX n fa fn lams ex vf vv).obs s := by
  have e := funext h
  rw [e]
  rfl
theorem glo_ns {K : PySem.W.Frag} {x : Str} (h : Fa.ok K (.glo x) = true) : nsIn K mainGlobals x = some (some (.ref (ga K x))) := of_decide_eq_true h
theorem free_ns {K : PySem.W.Frag} {x : Str} (h : Fa.ok K (.free x) = true) : nsIn K mainGlobals x = some none := of_decide_eq_true h
theorem int_ns {K : PySem.W.Frag} {x : Str} {i : Int} (h : Fa.ok K (.int x i) = true) : ∃ tk, nsIn K mainGlobals x = some (some (.int i tk)) := by
  have h : (match nsIn K mainGlobals x with | some (some (Value.int j _)) => decide (j = i) | _ => false) = true := h
  split at h
  · rename_i j tk e
    rw [← of_decide_eq_true h]
    exact ⟨tk, e⟩
  · cases h
theorem str_ns {K : PySem.W.Frag} {x z : Str} (h : Fa.ok K (.str x z) = true) : ∃ tk, nsIn K mainGlobals x = some (some (.str z tk)) := by
  have h : (match nsIn K mainGlobals x with | some (some (Value.str j _)) => decide (j = z) | _ => false) = true := h
  split at h
  · rename_i j tk e
    rw [← of_decide_eq_true h]
    exact ⟨tk, e⟩
  · cases h
/-- a tuple at a place -/
def tupAt (K : PySem.W.Frag) (a : Addr) (vs : List V) : Bool := match K.lookup a with
  | some ⟨Value.type c, _, .seq its _, _⟩ => decide (c = "tuple") && (decide (its.size ≤ sizeLine) && relAll vs its.toList)
  | _ => false
theorem tupAt_ok {K : PySem.W.Frag} {a : Addr} {vs : List V} (h : tupAt K a vs = true) (H : Hp) : SqT K H a vs := by
  unfold tupAt at h
  split at h
  · rename_i c d its n sl e
    simp only [Bool.and_eq_true, decide_eq_true_eq] at h
    obtain ⟨rfl, h2, h3⟩ := h
    exact .inr ⟨_, its, n, e, rfl, rfl, h2, relAll_ok h3⟩
  · cases h
def elt (K : PySem.W.Frag) (a : Addr) (i : Nat) : Addr := match K.lookup a with
  | some ⟨_, _, .seq its _, _⟩ => (match (its[i]? : Option Value) with | some (Value.ref p) => p | _ => 0)
  | _ => 0
def isVal (o : Option CFound) (v : Value) : Bool := match o with
  | some (.val u) => decide (u = v)
  | _ => false
theorem isVal_ok {o : Option CFound} {v : Value} (h : isVal o v = true) : o = some (.val v) := by
  unfold isVal at h
  split at h
  · rw [of_decide_eq_true h]
  · cases h
theorem lam_cd {K : PySem.W.Frag} {x : Str} (h : lamB K x = true) : codeHdIn K (fcode K x) (ctab K (fcode K x)) = true := by
  unfold lamB at h
  simp only [Bool.and_eq_true] at h
  exact h.2.1
theorem lam_no {K : PySem.W.Frag} {x : Str} (h : lamB K x = true) : K.lookup (ctab K (fcode K x)) = none := by
  unfold lamB at h
  simp only [Bool.and_eq_true, Option.isNone_iff_eq_none] at h
  exact h.2.2
end Hd
namespace HdC
set_option autoImplicit false
open PySem PySem.Spec PySem.W
def testsOf (cx : Nat → Addr) : List Value := [.ref (cx 0), .ref (cx 1), .ref (cx 2), .ref (cx 3), .ref (cx 4), .ref (cx 5), .ref (cx 6), .ref (cx 12), .ref (cx 13), .ref (cx 14), .ref (cx 7), .ref (cx 8), .ref (cx 9), .ref (cx 15), .ref (cx 10), .ref (cx 11), .ref (cx 16), .type "ValueError", .ref (cx 17), .type "LookupError", .ref (cx 18), .type "RuntimeError"]
def nmOf : List Str := ["row", "polynomial", "ranking", "chain", "data", "jet", "paper", "twice", "place", "great", "unknown", "equation", "case", "nothing", "contradicted", "knotted", "ours", "value", "miss", "lookup", "end", "runtime"]
def kb : Nat → List Bool
  | 0 => [true, false, false, false, false, false, false, false, false, false, false, false, false, false, false, false, true, true, false, false, false, false]
  | 1 => [false, true, false, false, false, false, false, false, false, false, false, false, false, false, false, false, true, true, false, false, false, false]
  | 2 => [false, false, true, false, false, false, false, false, false, false, false, false, false, false, false, false, true, true, false, false, false, false]
  | 3 => [false, false, false, true, false, false, false, false, false, false, false, false, false, false, false, false, true, true, false, false, false, false]
  | 4 => [false, false, false, false, true, false, false, false, false, false, false, false, false, false, false, false, true, true, false, false, false, false]
  | 5 => [false, false, false, false, false, true, false, false, false, false, false, false, false, false, false, false, true, true, false, false, false, false]
  | 6 => [false, false, false, false, false, false, true, false, false, false, false, false, false, false, false, false, true, true, false, false, false, false]
  | 7 => [false, false, false, false, false, false, false, false, false, false, true, false, false, false, false, false, false, false, true, true, false, false]
  | 8 => [false, false, false, false, false, false, false, false, false, false, false, true, false, false, false, false, false, false, true, true, false, false]
  | 9 => [false, false, false, false, false, false, false, false, false, false, false, false, true, false, false, false, false, false, true, true, false, false]
  | 10 => [false, false, false, false, false, false, false, false, false, false, false, false, false, false, true, false, false, false, false, false, true, true]
  | 11 => [false, false, false, false, false, false, false, false, false, false, false, false, false, false, false, true, false, false, false, false, true, true]
  | 12 => [false, false, false, false, false, false, false, true, false, false, false, false, false, false, false, false, true, true, false, false, false, false]
  | 13 => [false, false, false, false, false, false, false, false, true, false, false, false, false, false, false, false, true, true, false, false, false, false]
  | 14 => [false, false, false, false, false, false, false, false, false, true, false, false, false, false, false, false, true, true, false, false, false, false]
  | 15 => [false, false, false, false, false, false, false, false, false, false, false, false, false, true, false, false, false, false, true, true, false, false]
  | _ => []
def bmI : Nat → List Value
  | 0 => [.type "ValueError", .type "Exception", .type "BaseException", .type "object"]
  | 1 => [.type "ValueError", .type "Exception", .type "BaseException", .type "object"]
  | 2 => [.type "ValueError", .type "Exception", .type "BaseException", .type "object"]
  | 3 => [.type "ValueError", .type "Exception", .type "BaseException", .type "object"]
  | 4 => [.type "ValueError", .type "Exception", .type "BaseException", .type "object"]
  | 5 => [.type "ValueError", .type "Exception", .type "BaseException", .type "object"]
  | 6 => [.type "ValueError", .type "Exception", .type "BaseException", .type "object"]
  | 7 => [.type "LookupError", .type "Exception", .type "BaseException", .type "object"]
  | 8 => [.type "LookupError", .type "Exception", .type "BaseException", .type "object"]
  | 9 => [.type "LookupError", .type "Exception", .type "BaseException", .type "object"]
  | 10 => [.type "RuntimeError", .type "Exception", .type "BaseException", .type "object"]
  | 11 => [.type "RuntimeError", .type "Exception", .type "BaseException", .type "object"]
  | 12 => [.type "ValueError", .type "Exception", .type "BaseException", .type "object"]
  | 13 => [.type "ValueError", .type "Exception", .type "BaseException", .type "object"]
  | 14 => [.type "ValueError", .type "Exception", .type "BaseException", .type "object"]
  | 15 => [.type "LookupError", .type "Exception", .type "BaseException", .type "object"]
  | _ => []
def nwI : Nat → String
  | 0 => "ValueError.__new__"
  | 1 => "ValueError.__new__"
  | 2 => "ValueError.__new__"
  | 3 => "ValueError.__new__"
  | 4 => "ValueError.__new__"
  | 5 => "ValueError.__new__"
  | 6 => "ValueError.__new__"
  | 7 => "LookupError.__new__"
  | 8 => "LookupError.__new__"
  | 9 => "LookupError.__new__"
  | 10 => "RuntimeError.__new__"
  | 11 => "RuntimeError.__new__"
  | 12 => "ValueError.__new__"
  | 13 => "ValueError.__new__"
  | 14 => "ValueError.__new__"
  | 15 => "LookupError.__new__"
  | _ => ""
def cxOfL (l : List Addr) : Nat → Addr := fun i => l.getD i 0
/-- the facts of an own exception class, asked at once -/
def xcB (K : PySem.W.Frag) (C : Addr) (bmB : List Value) (newId : String) : Bool :=
  PySem.W.excInitIn K C bmB newId && PySem.W.hasDictIn K C && decide (PySem.W.findIn K (.ref C) "__setattr__" = some (some (.builtin "object.__setattr__"))) && decide (PySem.W.findIn K (.ref C) "__getattribute__" = some (some (.builtin "BaseException.__getattribute__"))) &&
  decide (PySem.W.findIn K (.ref C) "__getattr__" = some none) && decide (PySem.W.subIn K (.ref C) (.type "BaseException") = some true) && decide (PySem.W.findIn K (.ref C) "__class__" = some (some (.builtin "object.__class__"))) &&
  decide (PySem.W.specialIn K (.builtin "object.__class__") "__get__" = some (some (.builtin "getset_descriptor.__get__"))) && decide (PySem.W.takesIn K (.builtin "object.__class__") = some true) && decide (PySem.W.mroIn K C (.type "object") = some true) && PySem.W.keepIn K (.ref C)
end HdC
namespace K12
set_option autoImplicit false
open PySem PySem.Spec PySem.W PyProof.Rows L2 HdC
abbrev hS (i : Nat) : Stmt := PySem.Challenge.pw_rankedchains_k10_rankings_looked_at.main.body.getD i (.Pass ⟨0, 0, 0, 0⟩)
def hd0 : He.DefD := ⟨("_law_draw", none), "_law_draw", "_law_draw", defArgs (hS 62), defBody (hS 62), defScope (hS 62), [], []⟩
def hd1 : He.DefD := ⟨("_law_mixed", none), "_law_mixed", "_law_mixed", defArgs (hS 61), defBody (hS 61), defScope (hS 61), [], []⟩
def hd2 : He.DefD := ⟨("_law_digit", none), "_law_digit", "_law_digit", defArgs (hS 63), defBody (hS 63), defScope (hS 63), [], []⟩
def hd3 : He.DefD := ⟨("_law_word", none), "_law_word", "_law_word", defArgs (hS 64), defBody (hS 64), defScope (hS 64), [], []⟩
def hd4 : He.DefD := ⟨("_law_names", none), "_law_names", "_law_names", defArgs (hS 65), defBody (hS 65), defScope (hS 65), [], []⟩
def hd5 : He.DefD := ⟨("_law_by", none), "_law_by", "_law_by", defArgs (hS 67), defBody (hS 67), defScope (hS 67), [], []⟩
def hd6 : He.DefD := ⟨("is_name", none), "is_name", "is_name", defArgs (hS 27), defBody (hS 27), defScope (hS 27), [], []⟩
def hd7 : He.DefD := ⟨("_are_names", none), "_are_names", "_are_names", defArgs (hS 45), defBody (hS 45), defScope (hS 45), [], []⟩
def hd8 : He.DefD := ⟨("is_axis", none), "is_axis", "is_axis", defArgs (hS 28), defBody (hS 28), defScope (hS 28), [], []⟩
def hd9 : He.DefD := ⟨("_are_axes", none), "_are_axes", "_are_axes", defArgs (hS 46), defBody (hS 46), defScope (hS 46), [], []⟩
def hd10 : He.DefD := ⟨("need_ranking", none), "need_ranking", "need_ranking", defArgs (hS 44), defBody (hS 44), defScope (hS 44), [], []⟩
def hd11 : He.DefD := ⟨("is_ranking", none), "is_ranking", "is_ranking", defArgs (hS 47), defBody (hS 47), defScope (hS 47), [], []⟩
def hd12 : He.DefD := ⟨("_law_derivative", none), "_law_derivative", "_law_derivative", defArgs (hS 66), defBody (hS 66), defScope (hS 66), [], []⟩
def hd13 : He.DefD := ⟨("_law_odd", none), "_law_odd", "_law_odd", defArgs (hS 72), defBody (hS 72), defScope (hS 72), [], []⟩
def hd14 : He.DefD := ⟨("_law_bent", none), "_law_bent", "_law_bent", defArgs (hS 73), defBody (hS 73), defScope (hS 73), [], []⟩
def hd15 : He.DefD := ⟨("_law_is_name", none), "_law_is_name", "_law_is_name", defArgs (hS 70), defBody (hS 70), defScope (hS 70), [], []⟩
def hd16 : He.DefD := ⟨("_law_due", none), "_law_due", "_law_due", defArgs (hS 71), defBody (hS 71), defScope (hS 71), [], []⟩
def hd17 : He.DefD := ⟨("is_whole", none), "is_whole", "is_whole", defArgs (hS 25), defBody (hS 25), defScope (hS 25), [], []⟩
def hd18 : He.DefD := ⟨("is_derivative", none), "is_derivative", "is_derivative", defArgs (hS 32), defBody (hS 32), defScope (hS 32), [], []⟩
def hd19 : He.DefD := ⟨("_is_powered", none), "_is_powered", "_is_powered", defArgs (hS 34), defBody (hS 34), defScope (hS 34), [], []⟩
def hd20 : He.DefD := ⟨("is_monomial", none), "is_monomial", "is_monomial", defArgs (hS 33), defBody (hS 33), defScope (hS 33), [], []⟩
def hd21 : He.DefD := ⟨("is_fraction", none), "is_fraction", "is_fraction", defArgs (hS 30), defBody (hS 30), defScope (hS 30), [], []⟩
def hd22 : He.DefD := ⟨("_is_term", none), "_is_term", "_is_term", defArgs (hS 35), defBody (hS 35), defScope (hS 35), [], []⟩
def hd23 : He.DefD := ⟨("need_polynomial", none), "need_polynomial", "need_polynomial", defArgs (hS 36), defBody (hS 36), defScope (hS 36), [], []⟩
def hd24 : He.DefD := ⟨("is_polynomial", none), "is_polynomial", "is_polynomial", defArgs (hS 37), defBody (hS 37), defScope (hS 37), [], []⟩
def hd25 : He.DefD := ⟨("derivatives_in", none), "derivatives_in", "derivatives_in", defArgs (hS 38), defBody (hS 38), defScope (hS 38), [], []⟩
def hd26 : He.DefD := ⟨("_stands_there", none), "_stands_there", "_stands_there", defArgs (hS 52), defBody (hS 52), defScope (hS 52), [], []⟩
def hd27 : He.DefD := ⟨("polynomial_fits", none), "polynomial_fits", "polynomial_fits", defArgs (hS 51), defBody (hS 51), defScope (hS 51), [], []⟩
def hd28 : He.DefD := ⟨("holds_of", none), "holds_of", "holds_of", defArgs (hS 49), defBody (hS 49), defScope (hS 49), [], []⟩
def hd29 : He.DefD := ⟨("_law_is_known", none), "_law_is_known", "_law_is_known", defArgs (hS 74), defBody (hS 74), defScope (hS 74), [], []⟩
def hd30 : He.DefD := ⟨("derivative_fits", none), "derivative_fits", "derivative_fits", defArgs (hS 50), defBody (hS 50), defScope (hS 50), [], []⟩
def hd31 : He.DefD := ⟨("is_of", none), "is_of", "is_of", defArgs (hS 48), defBody (hS 48), defScope (hS 48), [], []⟩
def hd32 : He.DefD := ⟨("need_derivative", none), "need_derivative", "need_derivative", defArgs (hS 53), defBody (hS 53), defScope (hS 53), [], []⟩
def hd33 : He.DefD := ⟨("compared", none), "compared", "compared", defArgs (hS 57), defBody (hS 57), defScope (hS 57), [], []⟩
def hd34 : He.DefD := ⟨("rank_key", none), "rank_key", "rank_key", defArgs (hS 54), defBody (hS 54), defScope (hS 54), [], []⟩
def hd35 : He.DefD := ⟨("rank_compared", none), "rank_compared", "rank_compared", defArgs (hS 56), defBody (hS 56), defScope (hS 56), [], []⟩
def hd36 : He.DefD := ⟨("rising", none), "rising", "rising", defArgs (hS 55), defBody (hS 55), defScope (hS 55), [], []⟩
def hd37 : He.DefD := ⟨("in_rank", none), "in_rank", "in_rank", defArgs (hS 58), defBody (hS 58), defScope (hS 58), [], []⟩
def hd38 : He.DefD := ⟨("is_among", none), "is_among", "is_among", defArgs (hS 26), defBody (hS 26), defScope (hS 26), [], []⟩
def hd39 : He.DefD := ⟨("all_to", none), "all_to", "all_to", defArgs (hS 59), defBody (hS 59), defScope (hS 59), [], []⟩
def hd40 : He.DefD := ⟨("_law_kinds", none), "_law_kinds", "_law_kinds", defArgs (hS 68), defBody (hS 68), defScope (hS 68), [], []⟩
def hd41 : He.DefD := ⟨("_law_told", none), "_law_told", "_law_told", defArgs (hS 69), defBody (hS 69), defScope (hS 69), [], []⟩
def hd42 : He.DefD := ⟨("_law_good_right", none), "_law_good_right", "_law_good_right", defArgs (hS 76), defBody (hS 76), defScope (hS 76), [], []⟩
def hd43 : He.DefD := ⟨("_law_bad_right", none), "_law_bad_right", "_law_bad_right", defArgs (hS 75), defBody (hS 75), defScope (hS 75), [], []⟩
def hd44 : He.DefD := ⟨("_law_sums_right", none), "_law_sums_right", "_law_sums_right", defArgs (hS 77), defBody (hS 77), defScope (hS 77), [], []⟩
def hd45 : He.DefD := ⟨("law", none), "law", "law", defArgs (hS 78), defBody (hS 78), defScope (hS 78), [], []⟩
def hd46 : He.DefD := ⟨("BadPolynomial", some "__init__"), "__init__", "BadPolynomial.__init__", defArgs (inClass (hS 4) 0), defBody (inClass (hS 4) 0), defScope (inClass (hS 4) 0), [.non], []⟩
def hd47 : He.DefD := ⟨("BadRanking", some "__init__"), "__init__", "BadRanking.__init__", defArgs (inClass (hS 5) 0), defBody (inClass (hS 5) 0), defScope (inClass (hS 5) 0), [.non], []⟩
def hfn : List He.DefD := ([hd0, hd1, hd2, hd3, hd4, hd5, hd6, hd7, hd8, hd9, hd10, hd11, hd12, hd13] : List He.DefD) ++ ([hd14, hd15, hd16, hd17, hd18, hd19, hd20, hd21, hd22, hd23, hd24, hd25, hd26, hd27] : List He.DefD) ++ ([hd28, hd29, hd30, hd31, hd32, hd33, hd34, hd35, hd36, hd37, hd38, hd39, hd40, hd41] : List He.DefD) ++ ([hd42, hd43, hd44, hd45, hd46, hd47] : List He.DefD)
def hfa : List He.Fa := ([.glo "_law_draw", .glo "_law_mixed", .glo "_law_digit", .glo "_law_word", .glo "_law_names", .glo "_law_by", .glo "is_name", .glo "_are_names", .glo "is_axis", .glo "_are_axes", .glo "need_ranking", .glo "is_ranking", .glo "_law_derivative", .glo "_law_odd"] : List He.Fa) ++ ([.glo "_law_bent", .glo "_law_is_name", .glo "_law_due", .glo "is_whole", .glo "is_derivative", .glo "_is_powered", .glo "is_monomial", .glo "is_fraction", .glo "_is_term", .glo "need_polynomial", .glo "is_polynomial", .glo "derivatives_in", .glo "_stands_there", .glo "polynomial_fits"] : List He.Fa) ++ ([.glo "holds_of", .glo "_law_is_known", .glo "derivative_fits", .glo "is_of", .glo "need_derivative", .glo "compared", .glo "rank_key", .glo "rank_compared", .glo "rising", .glo "in_rank", .glo "is_among", .glo "all_to", .glo "_law_kinds", .glo "_law_told"] : List He.Fa) ++ ([.glo "_law_good_right", .glo "_law_bad_right", .glo "_law_sums_right", .glo "law", .glo "BadRow", .glo "BadPolynomial", .glo "BadRanking", .glo "BadChain", .glo "BadData", .glo "BadJet", .glo "BadPaper", .glo "NoUnknown", .glo "NoEquation", .glo "NoCase"] : List He.Fa) ++ ([.glo "Contradicted", .glo "Knotted", .glo "Twice", .glo "OutOfPlace", .glo "TooGreat", .glo "Nothing", .glo "ChainError", .glo "MissError", .glo "CaseError", .free "LookupError", .free "RuntimeError", .free "ValueError", .free "all", .free "bool"] : List He.Fa) ++ ([.free "enumerate", .free "int", .free "isinstance", .free "len", .free "list", .free "range", .free "repr", .free "set", .free "sorted", .free "str", .free "sum", .free "tuple", .int "MOST_LETTERS" 8, .int "MOST_NAMES" 3] : List He.Fa) ++ ([.int "MOST_ORDER" 12, .str "LETTERS" "abcdefghijklmnopqrstuvwxyz", .glo "AXES", .glo "SORTS", .glo "AXES_ALL", .meth "BadPolynomial" "__init__", .meth "BadRanking" "__init__", .noat "BadPolynomial" "number", .noat "BadRanking" "place", .noat "BadRow" "row", .noat "BadRow" "word", .noat "BadChain" "place", .noat "BadData" "place", .noat "BadJet" "place"] : List He.Fa) ++ ([.noat "BadPaper" "place", .noat "NoUnknown" "name", .noat "NoEquation" "number", .noat "NoCase" "number", .noat "Contradicted" "number", .noat "Knotted" "number", .exm "BadPolynomial" "BadPolynomial" true, .exm "BadRanking" "BadRanking" true, .exm "BadRow" "ChainError" true, .exm "BadPolynomial" "ChainError" true, .exm "BadRanking" "ChainError" true, .exm "BadChain" "ChainError" true, .exm "BadData" "ChainError" true, .exm "BadJet" "ChainError" true] : List He.Fa) ++ ([.exm "BadPaper" "ChainError" true, .exm "Twice" "ChainError" true, .exm "OutOfPlace" "ChainError" true, .exm "TooGreat" "ChainError" true, .keep "OutOfPlace"] : List He.Fa)
def haddr : List Addr := ([3, 2, 6, 4, 52, 72, 92, 112, 132, 152, 172, 192, 204, 216] : List Addr) ++ ([228, 240, 260, 279, 298, 310, 322, 342, 361, 364, 371, 378, 383, 390] : List Addr) ++ ([397, 404, 411, 418, 425, 432, 439, 446, 447, 451, 458, 463, 468, 475] : List Addr) ++ ([482, 489, 496, 501, 508, 515, 522, 529, 536, 543, 550, 555, 562, 569] : List Addr) ++ ([576, 581, 586, 593, 600, 605, 612, 617, 622, 629, 634, 639, 646, 653] : List Addr) ++ ([658, 665, 0, 51, 71, 91, 111, 131, 151, 171, 191, 203, 215, 227] : List Addr) ++ ([239, 259, 278, 297, 309, 321, 341, 360, 370, 377, 382, 389, 396, 403] : List Addr) ++ ([410, 417, 424, 431, 438, 445, 448, 449, 450, 457, 462, 467, 474, 481] : List Addr) ++ ([488, 495, 500, 507, 514, 521, 528, 535, 542, 549, 554, 561, 568, 575] : List Addr) ++ ([580, 585, 592, 599, 604, 611, 616, 621, 628, 633, 638, 645, 652, 657] : List Addr) ++ ([664, 50, 53, 69, 70, 89, 90, 109, 110, 129, 130, 149, 150, 169] : List Addr) ++ ([170, 189, 190, 202, 214, 226, 238, 241, 257, 258, 276, 277, 295, 296] : List Addr) ++ ([308, 320, 323, 339, 340, 358, 359, 365, 367, 368, 372, 374, 375, 379] : List Addr) ++ ([384, 386, 387, 391, 393, 394, 398, 400, 401, 405, 407, 408, 412, 414] : List Addr) ++ ([415, 419, 421, 422, 426, 428, 429, 433, 435, 436, 440, 442, 443, 452] : List Addr) ++ ([454, 455, 459, 464, 469, 471, 472, 476, 478, 479, 483, 485, 486, 490] : List Addr) ++ ([492, 493, 497, 502, 504, 505, 509, 511, 512, 516, 518, 519, 523, 525] : List Addr) ++ ([526, 530, 532, 533, 537, 539, 540, 544, 546, 547, 551, 556, 558, 559] : List Addr) ++ ([563, 565, 566, 570, 572, 573, 577, 582, 587, 589, 590, 594, 596, 597] : List Addr) ++ ([601, 606, 608, 609, 613, 618, 623, 625, 626, 630, 635, 640, 642, 643] : List Addr) ++ ([647, 649, 650, 654, 659, 661, 662, 68, 88, 82, 108, 102, 128, 122] : List Addr) ++ ([148, 142, 168, 162, 188, 182, 256, 275, 294, 338, 357] : List Addr)
def hnames : List Str := (["gcd", "__name__", "ChainError", "BadRow", "BadPolynomial", "BadRanking", "BadChain", "BadData", "BadJet", "BadPaper", "Twice", "OutOfPlace", "TooGreat", "MissError"] : List Str) ++ (["NoUnknown", "NoEquation", "NoCase", "Nothing", "CaseError", "Contradicted", "Knotted", "AXES", "LETTERS", "MOST_LETTERS", "is_whole", "is_among", "is_name", "is_axis"] : List Str) ++ (["is_fraction", "is_derivative", "is_monomial", "_is_powered", "_is_term", "need_polynomial", "is_polynomial", "derivatives_in", "SORTS", "AXES_ALL", "MOST_NAMES", "MOST_ORDER", "need_ranking", "_are_names"] : List Str) ++ (["_are_axes", "is_ranking", "is_of", "holds_of", "derivative_fits", "polynomial_fits", "_stands_there", "need_derivative", "rank_key", "rising", "rank_compared", "compared", "in_rank", "all_to"] : List Str) ++ (["_law_mixed", "_law_draw", "_law_digit", "_law_word", "_law_names", "_law_derivative", "_law_by", "_law_kinds", "_law_told", "_law_is_name", "_law_due", "_law_odd", "_law_bent", "_law_is_known"] : List Str) ++ (["_law_bad_right", "_law_good_right", "_law_sums_right"] : List Str)
def hx_x0 (K : PySem.W.Frag) : Bool := xcB K (He.ga K "BadRow") (bmI 0) (nwI 0)
def hx_x1 (K : PySem.W.Frag) : Bool := xcB K (He.ga K "BadPolynomial") (bmI 1) (nwI 1)
def hx_x2 (K : PySem.W.Frag) : Bool := xcB K (He.ga K "BadRanking") (bmI 2) (nwI 2)
def hx_x3 (K : PySem.W.Frag) : Bool := xcB K (He.ga K "BadChain") (bmI 3) (nwI 3)
def hx_x4 (K : PySem.W.Frag) : Bool := xcB K (He.ga K "BadData") (bmI 4) (nwI 4)
def hx_x5 (K : PySem.W.Frag) : Bool := xcB K (He.ga K "BadJet") (bmI 5) (nwI 5)
def hx_x6 (K : PySem.W.Frag) : Bool := xcB K (He.ga K "BadPaper") (bmI 6) (nwI 6)
def hx_x7 (K : PySem.W.Frag) : Bool := xcB K (He.ga K "NoUnknown") (bmI 7) (nwI 7)
def hx_x8 (K : PySem.W.Frag) : Bool := xcB K (He.ga K "NoEquation") (bmI 8) (nwI 8)
def hx_x9 (K : PySem.W.Frag) : Bool := xcB K (He.ga K "NoCase") (bmI 9) (nwI 9)
def hx_x10 (K : PySem.W.Frag) : Bool := xcB K (He.ga K "Contradicted") (bmI 10) (nwI 10)
def hx_x11 (K : PySem.W.Frag) : Bool := xcB K (He.ga K "Knotted") (bmI 11) (nwI 11)
def hx_x12 (K : PySem.W.Frag) : Bool := xcB K (He.ga K "Twice") (bmI 12) (nwI 12)
def hx_x13 (K : PySem.W.Frag) : Bool := xcB K (He.ga K "OutOfPlace") (bmI 13) (nwI 13)
def hx_x14 (K : PySem.W.Frag) : Bool := xcB K (He.ga K "TooGreat") (bmI 14) (nwI 14)
def hx_x15 (K : PySem.W.Frag) : Bool := xcB K (He.ga K "Nothing") (bmI 15) (nwI 15)
def hx_q13 (K : PySem.W.Frag) : Bool := PySem.W.excIn K (He.ga K "OutOfPlace") (bmI 13) (nwI 13)
def hx_q12 (K : PySem.W.Frag) : Bool := PySem.W.excIn K (He.ga K "Twice") (bmI 12) (nwI 12)
def hx_q14 (K : PySem.W.Frag) : Bool := PySem.W.excIn K (He.ga K "TooGreat") (bmI 14) (nwI 14)
def hx_q15 (K : PySem.W.Frag) : Bool := PySem.W.excIn K (He.ga K "Nothing") (bmI 15) (nwI 15)
def hx_kt0 (K : PySem.W.Frag) : Bool := decide ((testsOf (cxOfL [(He.ga K "BadRow"), (He.ga K "BadPolynomial"), (He.ga K "BadRanking"), (He.ga K "BadChain"), (He.ga K "BadData"), (He.ga K "BadJet"), (He.ga K "BadPaper"), (He.ga K "NoUnknown"), (He.ga K "NoEquation"), (He.ga K "NoCase"), (He.ga K "Contradicted"), (He.ga K "Knotted"), (He.ga K "Twice"), (He.ga K "OutOfPlace"), (He.ga K "TooGreat"), (He.ga K "Nothing"), (He.ga K "ChainError"), (He.ga K "MissError"), (He.ga K "CaseError")])).map (PySem.W.kitOne K (.ref (He.ga K "BadRow"))) = (kb 0).map some)
def hx_kt1 (K : PySem.W.Frag) : Bool := decide ((testsOf (cxOfL [(He.ga K "BadRow"), (He.ga K "BadPolynomial"), (He.ga K "BadRanking"), (He.ga K "BadChain"), (He.ga K "BadData"), (He.ga K "BadJet"), (He.ga K "BadPaper"), (He.ga K "NoUnknown"), (He.ga K "NoEquation"), (He.ga K "NoCase"), (He.ga K "Contradicted"), (He.ga K "Knotted"), (He.ga K "Twice"), (He.ga K "OutOfPlace"), (He.ga K "TooGreat"), (He.ga K "Nothing"), (He.ga K "ChainError"), (He.ga K "MissError"), (He.ga K "CaseError")])).map (PySem.W.kitOne K (.ref (He.ga K "BadPolynomial"))) = (kb 1).map some)
def hx_kt2 (K : PySem.W.Frag) : Bool := decide ((testsOf (cxOfL [(He.ga K "BadRow"), (He.ga K "BadPolynomial"), (He.ga K "BadRanking"), (He.ga K "BadChain"), (He.ga K "BadData"), (He.ga K "BadJet"), (He.ga K "BadPaper"), (He.ga K "NoUnknown"), (He.ga K "NoEquation"), (He.ga K "NoCase"), (He.ga K "Contradicted"), (He.ga K "Knotted"), (He.ga K "Twice"), (He.ga K "OutOfPlace"), (He.ga K "TooGreat"), (He.ga K "Nothing"), (He.ga K "ChainError"), (He.ga K "MissError"), (He.ga K "CaseError")])).map (PySem.W.kitOne K (.ref (He.ga K "BadRanking"))) = (kb 2).map some)
def hx_kt3 (K : PySem.W.Frag) : Bool := decide ((testsOf (cxOfL [(He.ga K "BadRow"), (He.ga K "BadPolynomial"), (He.ga K "BadRanking"), (He.ga K "BadChain"), (He.ga K "BadData"), (He.ga K "BadJet"), (He.ga K "BadPaper"), (He.ga K "NoUnknown"), (He.ga K "NoEquation"), (He.ga K "NoCase"), (He.ga K "Contradicted"), (He.ga K "Knotted"), (He.ga K "Twice"), (He.ga K "OutOfPlace"), (He.ga K "TooGreat"), (He.ga K "Nothing"), (He.ga K "ChainError"), (He.ga K "MissError"), (He.ga K "CaseError")])).map (PySem.W.kitOne K (.ref (He.ga K "BadChain"))) = (kb 3).map some)
def hx_kt4 (K : PySem.W.Frag) : Bool := decide ((testsOf (cxOfL [(He.ga K "BadRow"), (He.ga K "BadPolynomial"), (He.ga K "BadRanking"), (He.ga K "BadChain"), (He.ga K "BadData"), (He.ga K "BadJet"), (He.ga K "BadPaper"), (He.ga K "NoUnknown"), (He.ga K "NoEquation"), (He.ga K "NoCase"), (He.ga K "Contradicted"), (He.ga K "Knotted"), (He.ga K "Twice"), (He.ga K "OutOfPlace"), (He.ga K "TooGreat"), (He.ga K "Nothing"), (He.ga K "ChainError"), (He.ga K "MissError"), (He.ga K "CaseError")])).map (PySem.W.kitOne K (.ref (He.ga K "BadData"))) = (kb 4).map some)
def hx_kt5 (K : PySem.W.Frag) : Bool := decide ((testsOf (cxOfL [(He.ga K "BadRow"), (He.ga K "BadPolynomial"), (He.ga K "BadRanking"), (He.ga K "BadChain"), (He.ga K "BadData"), (He.ga K "BadJet"), (He.ga K "BadPaper"), (He.ga K "NoUnknown"), (He.ga K "NoEquation"), (He.ga K "NoCase"), (He.ga K "Contradicted"), (He.ga K "Knotted"), (He.ga K "Twice"), (He.ga K "OutOfPlace"), (He.ga K "TooGreat"), (He.ga K "Nothing"), (He.ga K "ChainError"), (He.ga K "MissError"), (He.ga K "CaseError")])).map (PySem.W.kitOne K (.ref (He.ga K "BadJet"))) = (kb 5).map some)
def hx_kt6 (K : PySem.W.Frag) : Bool := decide ((testsOf (cxOfL [(He.ga K "BadRow"), (He.ga K "BadPolynomial"), (He.ga K "BadRanking"), (He.ga K "BadChain"), (He.ga K "BadData"), (He.ga K "BadJet"), (He.ga K "BadPaper"), (He.ga K "NoUnknown"), (He.ga K "NoEquation"), (He.ga K "NoCase"), (He.ga K "Contradicted"), (He.ga K "Knotted"), (He.ga K "Twice"), (He.ga K "OutOfPlace"), (He.ga K "TooGreat"), (He.ga K "Nothing"), (He.ga K "ChainError"), (He.ga K "MissError"), (He.ga K "CaseError")])).map (PySem.W.kitOne K (.ref (He.ga K "BadPaper"))) = (kb 6).map some)
def hx_kt7 (K : PySem.W.Frag) : Bool := decide ((testsOf (cxOfL [(He.ga K "BadRow"), (He.ga K "BadPolynomial"), (He.ga K "BadRanking"), (He.ga K "BadChain"), (He.ga K "BadData"), (He.ga K "BadJet"), (He.ga K "BadPaper"), (He.ga K "NoUnknown"), (He.ga K "NoEquation"), (He.ga K "NoCase"), (He.ga K "Contradicted"), (He.ga K "Knotted"), (He.ga K "Twice"), (He.ga K "OutOfPlace"), (He.ga K "TooGreat"), (He.ga K "Nothing"), (He.ga K "ChainError"), (He.ga K "MissError"), (He.ga K "CaseError")])).map (PySem.W.kitOne K (.ref (He.ga K "NoUnknown"))) = (kb 7).map some)
def hx_kt8 (K : PySem.W.Frag) : Bool := decide ((testsOf (cxOfL [(He.ga K "BadRow"), (He.ga K "BadPolynomial"), (He.ga K "BadRanking"), (He.ga K "BadChain"), (He.ga K "BadData"), (He.ga K "BadJet"), (He.ga K "BadPaper"), (He.ga K "NoUnknown"), (He.ga K "NoEquation"), (He.ga K "NoCase"), (He.ga K "Contradicted"), (He.ga K "Knotted"), (He.ga K "Twice"), (He.ga K "OutOfPlace"), (He.ga K "TooGreat"), (He.ga K "Nothing"), (He.ga K "ChainError"), (He.ga K "MissError"), (He.ga K "CaseError")])).map (PySem.W.kitOne K (.ref (He.ga K "NoEquation"))) = (kb 8).map some)
def hx_kt9 (K : PySem.W.Frag) : Bool := decide ((testsOf (cxOfL [(He.ga K "BadRow"), (He.ga K "BadPolynomial"), (He.ga K "BadRanking"), (He.ga K "BadChain"), (He.ga K "BadData"), (He.ga K "BadJet"), (He.ga K "BadPaper"), (He.ga K "NoUnknown"), (He.ga K "NoEquation"), (He.ga K "NoCase"), (He.ga K "Contradicted"), (He.ga K "Knotted"), (He.ga K "Twice"), (He.ga K "OutOfPlace"), (He.ga K "TooGreat"), (He.ga K "Nothing"), (He.ga K "ChainError"), (He.ga K "MissError"), (He.ga K "CaseError")])).map (PySem.W.kitOne K (.ref (He.ga K "NoCase"))) = (kb 9).map some)
def hx_kt10 (K : PySem.W.Frag) : Bool := decide ((testsOf (cxOfL [(He.ga K "BadRow"), (He.ga K "BadPolynomial"), (He.ga K "BadRanking"), (He.ga K "BadChain"), (He.ga K "BadData"), (He.ga K "BadJet"), (He.ga K "BadPaper"), (He.ga K "NoUnknown"), (He.ga K "NoEquation"), (He.ga K "NoCase"), (He.ga K "Contradicted"), (He.ga K "Knotted"), (He.ga K "Twice"), (He.ga K "OutOfPlace"), (He.ga K "TooGreat"), (He.ga K "Nothing"), (He.ga K "ChainError"), (He.ga K "MissError"), (He.ga K "CaseError")])).map (PySem.W.kitOne K (.ref (He.ga K "Contradicted"))) = (kb 10).map some)
def hx_kt11 (K : PySem.W.Frag) : Bool := decide ((testsOf (cxOfL [(He.ga K "BadRow"), (He.ga K "BadPolynomial"), (He.ga K "BadRanking"), (He.ga K "BadChain"), (He.ga K "BadData"), (He.ga K "BadJet"), (He.ga K "BadPaper"), (He.ga K "NoUnknown"), (He.ga K "NoEquation"), (He.ga K "NoCase"), (He.ga K "Contradicted"), (He.ga K "Knotted"), (He.ga K "Twice"), (He.ga K "OutOfPlace"), (He.ga K "TooGreat"), (He.ga K "Nothing"), (He.ga K "ChainError"), (He.ga K "MissError"), (He.ga K "CaseError")])).map (PySem.W.kitOne K (.ref (He.ga K "Knotted"))) = (kb 11).map some)
def hx_kt12 (K : PySem.W.Frag) : Bool := decide ((testsOf (cxOfL [(He.ga K "BadRow"), (He.ga K "BadPolynomial"), (He.ga K "BadRanking"), (He.ga K "BadChain"), (He.ga K "BadData"), (He.ga K "BadJet"), (He.ga K "BadPaper"), (He.ga K "NoUnknown"), (He.ga K "NoEquation"), (He.ga K "NoCase"), (He.ga K "Contradicted"), (He.ga K "Knotted"), (He.ga K "Twice"), (He.ga K "OutOfPlace"), (He.ga K "TooGreat"), (He.ga K "Nothing"), (He.ga K "ChainError"), (He.ga K "MissError"), (He.ga K "CaseError")])).map (PySem.W.kitOne K (.ref (He.ga K "Twice"))) = (kb 12).map some)
def hx_kt13 (K : PySem.W.Frag) : Bool := decide ((testsOf (cxOfL [(He.ga K "BadRow"), (He.ga K "BadPolynomial"), (He.ga K "BadRanking"), (He.ga K "BadChain"), (He.ga K "BadData"), (He.ga K "BadJet"), (He.ga K "BadPaper"), (He.ga K "NoUnknown"), (He.ga K "NoEquation"), (He.ga K "NoCase"), (He.ga K "Contradicted"), (He.ga K "Knotted"), (He.ga K "Twice"), (He.ga K "OutOfPlace"), (He.ga K "TooGreat"), (He.ga K "Nothing"), (He.ga K "ChainError"), (He.ga K "MissError"), (He.ga K "CaseError")])).map (PySem.W.kitOne K (.ref (He.ga K "OutOfPlace"))) = (kb 13).map some)
def hx_kt14 (K : PySem.W.Frag) : Bool := decide ((testsOf (cxOfL [(He.ga K "BadRow"), (He.ga K "BadPolynomial"), (He.ga K "BadRanking"), (He.ga K "BadChain"), (He.ga K "BadData"), (He.ga K "BadJet"), (He.ga K "BadPaper"), (He.ga K "NoUnknown"), (He.ga K "NoEquation"), (He.ga K "NoCase"), (He.ga K "Contradicted"), (He.ga K "Knotted"), (He.ga K "Twice"), (He.ga K "OutOfPlace"), (He.ga K "TooGreat"), (He.ga K "Nothing"), (He.ga K "ChainError"), (He.ga K "MissError"), (He.ga K "CaseError")])).map (PySem.W.kitOne K (.ref (He.ga K "TooGreat"))) = (kb 14).map some)
def hx_kt15 (K : PySem.W.Frag) : Bool := decide ((testsOf (cxOfL [(He.ga K "BadRow"), (He.ga K "BadPolynomial"), (He.ga K "BadRanking"), (He.ga K "BadChain"), (He.ga K "BadData"), (He.ga K "BadJet"), (He.ga K "BadPaper"), (He.ga K "NoUnknown"), (He.ga K "NoEquation"), (He.ga K "NoCase"), (He.ga K "Contradicted"), (He.ga K "Knotted"), (He.ga K "Twice"), (He.ga K "OutOfPlace"), (He.ga K "TooGreat"), (He.ga K "Nothing"), (He.ga K "ChainError"), (He.ga K "MissError"), (He.ga K "CaseError")])).map (PySem.W.kitOne K (.ref (He.ga K "Nothing"))) = (kb 15).map some)
def hx_r16 (K : PySem.W.Frag) : Bool := PySem.W.readsIn K (He.ga K "ChainError") (.type "type")
def hx_y16 (K : PySem.W.Frag) : Bool := Hd.isVal (PySem.W.findCls K (.ref (He.ga K "ChainError")) (.type "type") "__init__") (.builtin "ValueError.__init__")
def hx_ty1 (K : PySem.W.Frag) : Bool := decide (PySem.W.typeIn K (.ref (He.ga K "BadPolynomial")) = some (.type "type"))
def hx_ty2 (K : PySem.W.Frag) : Bool := decide (PySem.W.typeIn K (.ref (He.ga K "BadRanking")) = some (.type "type"))
def hx_ty13 (K : PySem.W.Frag) : Bool := decide (PySem.W.typeIn K (.ref (He.ga K "OutOfPlace")) = some (.type "type"))
def hx_t101 (K : PySem.W.Frag) : Bool := decide (PySem.W.typeIn K (.ref (He.ma K (He.ga K "BadPolynomial") "__init__")) = some (.type "function"))
def hx_t102 (K : PySem.W.Frag) : Bool := decide (PySem.W.typeIn K (.ref (He.ma K (He.ga K "BadRanking") "__init__")) = some (.type "function"))
def hx_vAX (K : PySem.W.Frag) : Bool := Hd.tupAt K (He.ga K "AXES") [.str "x", .str "y"]
def hx_vSO (K : PySem.W.Frag) : Bool := Hd.tupAt K (He.ga K "SORTS") [.str "total", .str "names"]
def hx_vAL (K : PySem.W.Frag) : Bool := Hd.tupAt K (He.ga K "AXES_ALL") [.ref (Hd.elt K (He.ga K "AXES_ALL") 0), .ref (Hd.elt K (He.ga K "AXES_ALL") 1), .ref (Hd.elt K (He.ga K "AXES_ALL") 2)]
def hx_vb1 (K : PySem.W.Frag) : Bool := Hd.tupAt K (Hd.elt K (He.ga K "AXES_ALL") 0) [.str "x"]
def hx_vb2 (K : PySem.W.Frag) : Bool := Hd.tupAt K (Hd.elt K (He.ga K "AXES_ALL") 1) [.str "x", .str "y"]
def hx_vb3 (K : PySem.W.Frag) : Bool := Hd.tupAt K (Hd.elt K (He.ga K "AXES_ALL") 2) [.str "y", .str "x"]
def hx_d1_2 (K : PySem.W.Frag) : Bool := decide ((Hd.ctab K (Hd.fcode K "rising")) ≠ (Hd.ctab K (Hd.fcode K "_law_bad_right")))
def hx_d1_3 (K : PySem.W.Frag) : Bool := decide ((Hd.ctab K (Hd.fcode K "rising")) ≠ (Hd.ctab K (Hd.fcode K "_law_good_right")))
def hx_d2_3 (K : PySem.W.Frag) : Bool := decide ((Hd.ctab K (Hd.fcode K "_law_bad_right")) ≠ (Hd.ctab K (Hd.fcode K "_law_good_right")))
def hexs : List (PySem.W.Frag → Bool) := ([hx_x0, hx_x1, hx_x2, hx_x3, hx_x4, hx_x5, hx_x6, hx_x7, hx_x8, hx_x9, hx_x10, hx_x11, hx_x12, hx_x13] : List (PySem.W.Frag → Bool)) ++ ([hx_x14, hx_x15, hx_q13, hx_q12, hx_q14, hx_q15, hx_kt0, hx_kt1, hx_kt2, hx_kt3, hx_kt4, hx_kt5, hx_kt6, hx_kt7] : List (PySem.W.Frag → Bool)) ++ ([hx_kt8, hx_kt9, hx_kt10, hx_kt11, hx_kt12, hx_kt13, hx_kt14, hx_kt15, hx_r16, hx_y16, hx_ty1, hx_ty2, hx_ty13, hx_t101] : List (PySem.W.Frag → Bool)) ++ ([hx_t102, hx_vAX, hx_vSO, hx_vAL, hx_vb1, hx_vb2, hx_vb3, hx_d1_2, hx_d1_3, hx_d2_3] : List (PySem.W.Frag → Bool))
def hex (K : PySem.W.Frag) : Bool := hexs.all fun e => e K
def hlams : List Str := (["rising", "_law_bad_right", "_law_good_right"] : List Str)
theorem hex_at {K : PySem.W.Frag} (h : hex K = true) (i : Nat) {e : PySem.W.Frag → Bool} (q : hexs[i]? = some e) : e K = true := List.all_eq_true.mp h e (List.mem_of_getElem? q)
abbrev hR : PySem.W.OpenRow := PySem.W.OpenLaw.row PySem.Challenge.rw_rankedchains_k10_rankings_looked_at
def hvf (K : PySem.W.Frag) : List (Option (Option Value)) := [PySem.W.specialIn K (.ref (He.ga K "ChainError")) "__getattribute__", PySem.W.nsIn K mainGlobals "gcd"]
def hvv : List (Option (Option Value)) := [some (some (.builtin "type.__getattribute__")), some (some (.builtin "math.gcd"))]
abbrev hk : PySem.W.Hook := Hd.hookX haddr hfa hfn hlams hex hvf hvv
def hob (s : PySem.W.SharedT) : He.AlD × Bool × List (Option (Option Value)) := Hd.obsX haddr hfa hfn hlams hex hvf (HandSHeadRun.getT s)
theorem hob_eq (s : PySem.W.SharedT) : hob s = hk.obs s.abs := Hd.obsX_eq (HandSHeadRun.getT_eq s)
set_option maxRecDepth 100000 in
set_option maxHeartbeats 0 in
theorem hrun (w : World) : HandSHeadRun.RunEqI hR (PySem.W.view hR.prog [0, 78]) hk hob 7000 hnames w := by
  unfold HandSHeadRun.RunEqI
  kernel_rfl
end K12
namespace My
open PySem L2
theorem isP {p : Prop} (h : p) : p := h
theorem new {H : Hp} {p : Addr} {o : HO} (hp : H p = none) : Same H (upd H p o) := fun b u e => by
  rw [upd_ne (ne_of_none e hp)]
  exact e
theorem new2 {H : Hp} {p : Addr} {o o' : HO} (hp : H p = none) : Same H (upd (upd H p o) p o') := fun b u e => by
  rw [upd_ne (ne_of_none e hp), upd_ne (ne_of_none e hp)]
  exact e
theorem lstNew {K : PySem.W.Frag} {H : Hp} {p : Addr} {xs : List V} : SqL K (upd H p (.lst xs)) p xs := .inl (.inl upd_same)
theorem atIn {α : Type} (xs : List α) (i : Int) (h0 : 0 ≤ i) (h1 : i < xs.length) : ∃ v, v ∈ xs ∧ atI xs i = some v := by
  obtain ⟨n, rfl⟩ : ∃ n : Nat, i = (n : Int) := ⟨i.toNat, by omega⟩
  have hn : n < xs.length := by omega
  exact ⟨xs[n], List.getElem_mem hn, atI_nat (List.getElem?_eq_getElem hn)⟩
theorem cutTo (xs : List V) (k : Nat) : cutV xs none (some (k : Int)) = xs.take k := by
  unfold cutV
  rw [HT.sIx_none, HT.sIx_nat, List.drop_zero, Nat.sub_zero]
  by_cases h : k ≤ xs.length
  · rw [Nat.min_eq_left h]
  · rw [Nat.min_eq_right (by omega), List.take_length, List.take_of_length_le (by omega)]
theorem small {n : Nat} (h : n ≤ 1000) : n ≤ sizeLine := Nat.le_of_lt (small1000 h)
end My
namespace My
set_option autoImplicit false
open PySem L2 Evl
/-- what is known of a value, whatever is made beside -/
structure Pr where
  P : V → Hp → Prop
  m : ∀ {v : V} {H H' : Hp}, Ex H H' → P v H → P v H'
def AllP : List Pr → List V → Hp → Prop
  | [], [], _ => True
  | p :: ps, v :: vs, H => p.P v H ∧ AllP ps vs H
  | [], _ :: _, _ => False
  | _ :: _, [], _ => False
theorem AllP.m {H H' : Hp} (e : Ex H H') : ∀ {ps : List Pr} {vs : List V}, AllP ps vs H → AllP ps vs H'
  | [], [], _ => trivial
  | _ :: _, _ :: _, h => ⟨Pr.m _ e h.1, AllP.m e h.2⟩
theorem AllP.len {H : Hp} : ∀ {ps : List Pr} {vs : List V}, AllP ps vs H → vs.length = ps.length
  | [], [], _ => rfl
  | _ :: _, _ :: _, h => congrArg Nat.succ (AllP.len h.2)
theorem AllP.app {H : Hp} : ∀ {ps qs : List Pr} {vs ws : List V}, AllP ps vs H → AllP qs ws H → AllP (ps ++ qs) (vs ++ ws) H
  | [], _, [], _, _, h => h
  | _ :: _, _, _ :: _, _, a, h => ⟨a.1, AllP.app a.2 h⟩
theorem AllP.get {H : Hp} : ∀ {ps : List Pr} {vs : List V} {i : Nat} {v : V}, AllP ps vs H → vs[i]? = some v → ∃ p, ps[i]? = some p ∧ p.P v H
  | [], [], i, v, _, h => by simp at h
  | p :: _, w :: _, 0, v, a, h => by
    obtain rfl : w = v := Option.some.inj h
    exact ⟨p, rfl, a.1⟩
  | _ :: _, _ :: _, i + 1, v, a, h => AllP.get (i := i) a.2 h
theorem AllP.at {H : Hp} : ∀ {ps : List Pr} {vs : List V} {i : Nat} {p : Pr}, AllP ps vs H → ps[i]? = some p → ∃ v, vs[i]? = some v ∧ p.P v H
  | [], [], i, v, _, h => by simp at h
  | q :: _, w :: _, 0, p, a, h => by
    obtain rfl : q = p := Option.some.inj h
    exact ⟨w, rfl, a.1⟩
  | _ :: _, _ :: _, i + 1, v, a, h => AllP.at (i := i) a.2 h
/-- without tables of code -/
def NoTab (B : Hp) : Prop := ∀ b ps, B b ≠ some (.tbl ps)
/-- from what is known, B, within the heap H, to B' within H': what is known of B' leans on nothing else that stood in H -/
structure Gr (B H B' H' : Hp) : Prop where
  a : Ex H H'
  b : Ex B B'
  c : Ex B' H'
  d : ∀ x, B x = none → H x ≠ none → B' x = none
  e : NoTab B → NoTab B'
theorem Gr.refl {B H : Hp} (e : Ex B H) : Gr B H B H := ⟨Ex.refl H, Ex.refl B, e, fun _ h _ => h, id⟩
theorem has {H H' : Hp} {x : Addr} (e : Ex H H') (h : H x ≠ none) : H' x ≠ none := by
  cases q : H x with
  | none => exact absurd q h
  | some o =>
    rw [e x o q]
    exact fun z => nomatch z
theorem Gr.trans {B H B1 H1 B2 H2 : Hp} (g : Gr B H B1 H1) (k : Gr B1 H1 B2 H2) : Gr B H B2 H2 :=
  ⟨g.a.trans k.a, g.b.trans k.b, k.c, fun x hb hh => k.d x (g.d x hb hh) (has g.a hh), fun z => k.e (g.e z)⟩
/-- nothing new is known -/
theorem Gr.wide {B H H1 : Hp} (e : Ex B H) (k : Ex H H1) : Gr B H B H1 := ⟨k, Ex.refl B, e.trans k, fun _ h _ => h, id⟩
/-- a new object -/
theorem Gr.new {B H : Hp} {r : Addr} (o : HO) (e : Ex B H) (hr : H r = none) (ho : ∀ ps, o ≠ .tbl ps := by intro _ z; cases z) : Gr B H (upd B r o) (upd H r o) :=
  ⟨Ex.new hr, Ex.new (fresh_back e hr), fun a u h => by
    by_cases q : a = r
    · subst q
      rw [upd_same] at h ⊢
      exact h
    · rw [upd_ne q] at h ⊢
      exact e a u h, fun x hb hh => by
    by_cases q : x = r
    · subst q
      exact absurd hr hh
    · rw [upd_ne q]
      exact hb, fun z b ps q => by
    by_cases n : b = r
    · subst n
      rw [upd_same] at q
      exact ho ps (Option.some.inj q)
    · rw [upd_ne n] at q
      exact z b ps q⟩
/-- two parts of one heap together -/
def both (B C : Hp) : Hp := fun b => match B b with
  | some o => some o
  | none => C b
theorem both_l {B C : Hp} : Ex B (both B C) := fun a o h => by
  unfold both
  rw [h]
theorem both_r {B C H : Hp} (e : Ex B H) (k : Ex C H) : Ex C (both B C) := fun a o h => by
  unfold both
  cases q : B a with
  | none => exact h
  | some u =>
    have h1 := e a u q
    have h2 := k a o h
    rw [h1] at h2
    exact h2
theorem both_in {B C H : Hp} (e : Ex B H) (k : Ex C H) : Ex (both B C) H := fun a o h => by
  unfold both at h
  cases q : B a with
  | none =>
    rw [q] at h
    exact k a o h
  | some u =>
    rw [q] at h
    obtain rfl : u = o := Option.some.inj h
    exact e a u q
theorem both_none {B C : Hp} {x : Addr} (h : B x = none) (k : C x = none) : both B C x = none := by
  unfold both
  rw [h]
  exact k
theorem both_nt {B C : Hp} (h : NoTab B) (k : NoTab C) : NoTab (both B C) := fun b ps q => by
  unfold both at q
  cases z : B b with
  | none =>
    rw [z] at q
    exact k b ps q
  | some o =>
    rw [z] at q
    have q : some o = some (HO.tbl ps) := q
    rw [q] at z
    exact h b ps z
/-- one behind the other, each from the same B -/
theorem Gr.join {B H B1 H1 B2 H2 : Hp} (g : Gr B H B1 H1) (k : Gr B H1 B2 H2) : Gr B H (both B1 B2) H2 :=
  ⟨g.a.trans k.a, g.b.trans both_l, both_in (g.c.trans k.a) k.c, fun x hb hh => both_none (g.d x hb hh) (k.d x hb (has g.a hh)), fun z => both_nt (g.e z) (k.e z)⟩
/-- without D -/
def wo (D : Addr) (H : Hp) : Hp := fun b => if b = D then none else H b
theorem wo_ne {D b : Addr} {H : Hp} (n : b ≠ D) : wo D H b = H b := if_neg n
theorem wo_same {D : Addr} {H : Hp} : wo D H D = none := if_pos rfl
theorem wo_some {D b : Addr} {H : Hp} {o : HO} (h : wo D H b = some o) : b ≠ D ∧ H b = some o := by
  by_cases n : b = D
  · rw [n, wo_same] at h
    exact nomatch h
  · rw [wo_ne n] at h
    exact ⟨n, h⟩
theorem wo_ex {D : Addr} {H : Hp} : Ex (wo D H) H := fun _ _ e => (wo_some e).2
theorem ex_wo {B H : Hp} {D : Addr} (e : Ex B H) (h : B D = none) : Ex B (wo D H) := fun b o k => by
  rw [wo_ne (ne_of_none k h)]
  exact e b o k
theorem wo_none {B H : Hp} {D : Addr} (e : Ex B (wo D H)) : B D = none := by
  cases q : B D with
  | none => rfl
  | some o =>
    have := e _ _ q
    rw [wo_same] at this
    exact nomatch this
theorem wo_new {H : Hp} {D : Addr} {o : HO} (h : H D = none) : wo D (upd H D o) = H := funext fun b => by
  by_cases n : b = D
  · rw [n, wo_same, h]
  · rw [wo_ne n, upd_ne n]
theorem wo_upd {H : Hp} {D : Addr} {o : HO} : wo D (upd H D o) = wo D H := funext fun b => by
  by_cases n : b = D
  · rw [n, wo_same, wo_same]
  · rw [wo_ne n, wo_ne n, upd_ne n]
/-- what a turn adds, the list at D left aside -/
theorem Gr.side {B H B1 H1 B2 H2 : Hp} {D : Addr} (g : Gr B H B1 (wo D H1)) (hD : H1 D ≠ none) (k : Gr B1 H1 B2 H2) : Gr B H B2 (wo D H2) :=
  ⟨fun b o e => by
    obtain ⟨n, q⟩ := wo_some (g.a b o e)
    rw [wo_ne n]
    exact k.a b o q, g.b.trans k.b, ex_wo k.c (k.d D (wo_none g.c) hD), fun x hb hh => k.d x (g.d x hb hh) (has wo_ex (has g.a hh)), fun z => k.e (g.e z)⟩
/-- just this value -/
def IsV (x : V) : Pr := ⟨fun v _ => v = x, fun _ h => h⟩
/-- a new list | a list | a tuple, of what -/
def LsP (ps : List Pr) : Pr := ⟨fun v H => ∃ p xs, v = .ref p ∧ H p = some (.lst xs) ∧ AllP ps xs H, fun e ⟨p, xs, a, b, c⟩ => ⟨p, xs, a, e _ _ b, c.m e⟩⟩
def LqP (K : PySem.W.Frag) (ps : List Pr) : Pr := ⟨fun v H => ∃ p xs, v = .ref p ∧ SqL K H p xs ∧ AllP ps xs H, fun e ⟨p, xs, a, b, c⟩ => ⟨p, xs, a, ex_l e b, c.m e⟩⟩
def TuP (K : PySem.W.Frag) (ps : List Pr) : Pr := ⟨fun v H => ∃ p xs, v = .ref p ∧ SqT K H p xs ∧ AllP ps xs H, fun e ⟨p, xs, a, b, c⟩ => ⟨p, xs, a, ex_t e b, c.m e⟩⟩
theorem lq_ls {K : PySem.W.Frag} {ps : List Pr} {v : V} {H : Hp} (h : (LsP ps).P v H) : (LqP K ps).P v H := by
  obtain ⟨p, xs, a, b, c⟩ := h
  exact ⟨p, xs, a, sq_of b, c⟩
mutual
theorem dp_m {K : PySem.W.Frag} {H H' : Hp} (e : Ex H H') : ∀ {d : PyData} {v : V}, Dp K H v d → Dp K H' v d
  | _, _, .non => .non
  | _, _, .bl b => .bl b
  | _, _, .int i => .int i
  | _, _, .str x => .str x
  | _, _, .lst a b => .lst (ex_l e a) (dps_m e b)
  | _, _, .tup a b => .tup (ex_t e a) (dps_m e b)
theorem dps_m {K : PySem.W.Frag} {H H' : Hp} (e : Ex H H') : ∀ {ds : List PyData} {vs : List V}, DpAll K H vs ds → DpAll K H' vs ds
  | _, _, .nil => .nil
  | _, _, .cons a b => .cons (dp_m e a) (dps_m e b)
end
/-- plain data -/
def IsD (K : PySem.W.Frag) (d : PyData) : Pr := ⟨fun v H => Dp K H v d, fun e h => dp_m e h⟩
theorem dps_of {K : PySem.W.Frag} {H : Hp} : ∀ {ds : List PyData} {vs : List V}, AllP (ds.map (IsD K)) vs H → DpAll K H vs ds
  | [], [], _ => .nil
  | _ :: _, _ :: _, h => .cons h.1 (dps_of h.2)
theorem dps_to {K : PySem.W.Frag} {H : Hp} : ∀ {ds : List PyData} {vs : List V}, DpAll K H vs ds → AllP (ds.map (IsD K)) vs H
  | [], [], _ => trivial
  | _ :: _, _ :: _, .cons a b => ⟨a, dps_to b⟩
/-- an expression gives such a value, over all that stands beside -/
def EvP (te : TE) (σ : L2.St) (B : Hp) (p : Pr) : Prop := ∀ H1, Ex B H1 → ∀ Q : VK, (∀ v B' H2, Gr B H1 B' H2 → p.P v B' → Q v H2) → te σ H1 Q
def EvPs (ta : TA) (σ : L2.St) (B : Hp) (ps : List Pr) : Prop := ∀ H1, Ex B H1 → ∀ Q : List V → Hp → Prop, (∀ vs B' H2, Gr B H1 B' H2 → AllP ps vs B' → Q vs H2) → ta σ H1 Q
section
variable {te ta tb : TE} {t tr : TA} {σ : L2.St} {B B' H : Hp} {p q : Pr} {ps qs : List Pr} {v : V} {K : PySem.W.Frag} {D : Ends}
theorem EvP.mono (e : Ex B B') (h : EvP te σ B p) : EvP te σ B' p := fun H1 a Q k => h H1 (e.trans a) Q fun v C H2 g b =>
  k v (both B' C) H2 ⟨g.a, both_l, both_in (a.trans g.a) g.c, fun x hb hh => both_none hb (g.d x (fresh_back e hb) hh), fun z => both_nt z (g.e fun b ps q => z b ps (e _ _ q))⟩ (p.m (both_r (a.trans g.a) g.c) b)
theorem EvP.imp (h : EvP te σ B p) (i : ∀ v B1, Ex B B1 → p.P v B1 → q.P v B1) : EvP te σ B q := fun H1 a _ k => h H1 a _ fun v B2 H2 g b => k v B2 H2 g (i v B2 g.b b)
theorem p_var {i : Nat} (h : σ[i]? = some (some v)) (hp : p.P v B) : EvP (tVar i) σ B p := fun H1 a _ k => ⟨v, h, k v B H1 (Gr.refl a) hp⟩
theorem p_c : EvP (tC v) σ B (IsV v) := fun H1 a _ k => k v B H1 (Gr.refl a) rfl
theorem p_ev (h : Ev te σ B v) : EvP te σ B (IsV v) := fun H1 a _ k => h H1 a _ fun H2 e => k v B H2 (Gr.wide a e) rfl
theorem ev_p (h : EvP te σ B (IsV v)) : Ev te σ B v := fun H1 a _ k => h H1 a _ fun w B2 H2 g b => by
  obtain rfl : w = v := b
  exact k H2 g.a
theorem q_nil : EvPs tNil σ B [] := fun H1 a _ k => k [] B H1 (Gr.refl a) trivial
theorem q_cons (h : EvP te σ B p) (hr : EvPs tr σ B ps) : EvPs (tCons te tr) σ B (p :: ps) := fun H1 a _ k =>
  h H1 a _ fun v B2 H2 g b => hr H2 (g.b.trans g.c) _ fun vs B3 H3 g3 b3 => k (v :: vs) (both B2 B3) H3 (g.join g3) ⟨p.m both_l b, b3.m (both_r (g.c.trans g3.a) g3.c)⟩
theorem p_lst (h : EvPs t σ B ps) (hl : ps.length ≤ 100000) : EvP (tLst t) σ B (LsP ps) := fun H1 a _ k =>
  h H1 a _ fun vs B2 H2 g b => ⟨sz_of (by rw [b.len]; exact hl), fun r hr => k _ _ _ (g.trans (Gr.new _ g.c hr)) ⟨r, vs, rfl, upd_same, b.m (Ex.new (fresh_back g.c hr))⟩⟩
theorem p_tup (h : EvPs t σ B ps) (hl : ps.length ≤ 100000) : EvP (tTup t) σ B (TuP K ps) := fun H1 a _ k =>
  h H1 a _ fun vs B2 H2 g b => ⟨sz_of (by rw [b.len]; exact hl), fun r hr => k _ _ _ (g.trans (Gr.new _ g.c hr)) ⟨r, vs, rfl, st_of upd_same, b.m (Ex.new (fresh_back g.c hr))⟩⟩
theorem p_cat (ha : EvP ta σ B (LsP ps)) (hb : EvP tb σ B (LsP qs)) (hl : ps.length + qs.length ≤ 100000) : EvP (tOp rCat ta tb) σ B (LsP (ps ++ qs)) := fun H1 a Q k =>
  ha H1 a _ fun v B2 H2 g b => hb H2 (g.b.trans g.c) _ fun w B3 H3 g3 b3 => by
    obtain ⟨p, xs, rfl, hp, hx⟩ := b
    obtain ⟨q, ys, rfl, hq, hy⟩ := b3
    have l1 := hx.len
    have l2 := hy.len
    have gj := g.join g3
    refine ⟨p, q, xs, ys, rfl, rfl, g3.a _ _ (g.c _ _ hp), g3.c _ _ hq, sz_of (by omega), fun r hr => k _ _ _ (gj.trans (Gr.new _ gj.c hr)) ⟨r, xs ++ ys, rfl, upd_same, ?_⟩⟩
    have en : Ex (both B2 B3) (upd (both B2 B3) r (.lst (xs ++ ys))) := Ex.new (fresh_back gj.c hr)
    exact (hx.m (both_l.trans en)).app (hy.m ((both_r (g.c.trans g3.a) g3.c).trans en))
/-- of data -/
theorem d_lst {ds : List PyData} (h : EvP te σ B (LsP (ds.map (IsD K)))) : EvP te σ B (IsD K (.list ds)) := h.imp fun v H1 _ b => by
  obtain ⟨r, xs, rfl, hr, hx⟩ := b
  exact .lst (sq_of hr) (dps_of hx)
theorem d_tup {ds : List PyData} (h : EvP te σ B (TuP K (ds.map (IsD K)))) : EvP te σ B (IsD K (.tuple ds)) := h.imp fun v H1 _ b => by
  obtain ⟨r, xs, rfl, hr, hx⟩ := b
  exact .tup hr (dps_of hx)
theorem d_int {i : Int} (h : EvP te σ B (IsV (.int i))) : EvP te σ B (IsD K (.int i)) := h.imp fun v H1 _ b => by
  obtain rfl : v = V.int i := b
  exact .int i
theorem d_str {x : Str} (h : EvP te σ B (IsV (.str x))) : EvP te σ B (IsD K (.str x)) := h.imp fun v H1 _ b => by
  obtain rfl : v = V.str x := b
  exact .str x
theorem d_bl {x : Bool} (h : EvP te σ B (IsV (.bl x))) : EvP te σ B (IsD K (.bool x)) := h.imp fun v H1 _ b => by
  obtain rfl : v = V.bl x := b
  exact .bl x
theorem ev_eqD {d e : PyData} (ha : EvP ta σ B (IsD K d)) (hb : EvP tb σ B (IsD K e)) (hd : SeqAt.shaped d = true) (he : SeqAt.shaped e = true) : Ev (tOp (rEqD K) ta tb) σ B (.bl (PyData.eqv d e)) := fun H1 a Q k =>
  ha H1 a _ fun v B2 H2 g b => hb H2 (g.b.trans g.c) _ fun w B3 H3 g3 b3 => ⟨d, e, dp_m (g.c.trans g3.a) b, dp_m g3.c b3, hd, he, k H3 (g.a.trans g3.a)⟩
theorem ev_neD {d e : PyData} (ha : EvP ta σ B (IsD K d)) (hb : EvP tb σ B (IsD K e)) (hd : SeqAt.shaped d = true) (he : SeqAt.shaped e = true) : Ev (tOp (rNeD K) ta tb) σ B (.bl (!PyData.eqv d e)) := fun H1 a Q k =>
  ha H1 a _ fun v B2 H2 g b => hb H2 (g.b.trans g.c) _ fun w B3 H3 g3 b3 => ⟨d, e, dp_m (g.c.trans g3.a) b, dp_m g3.c b3, hd, he, k H3 (g.a.trans g3.a)⟩
theorem ps_asg {i : Nat} (a : Ex B H) (h : EvP te σ B p) (k : ∀ v B1 H1, Gr B H B1 H1 → p.P v B1 → D.nx (σ.set i (some v)) H1) : tAsg te (gName i) D σ H := h H a _ k
theorem ps_asgN {i : Nat} (σ' : V → L2.St) (a : Ex B H) (h : EvP te σ B p) (k : ∀ v B1 H1, Gr B H B1 H1 → p.P v B1 → D.nx (σ' v) H1) (e : ∀ v, σ.set i (some v) = σ' v := by intro _; rfl) : tAsg te (gName i) D σ H := h H a _ fun v B1 H1 g b => by
  have := k v B1 H1 g b
  rw [← e v] at this
  exact this
theorem ps_ret (a : Ex B H) (h : EvP te σ B p) (k : ∀ v B1 H1, Gr B H B1 H1 → p.P v B1 → D.rt v H1) : tRet te D σ H := h H a _ k
/-- a call: what the def is handed, what it tells -/
def SpOk (sp : Sp) (ps : List Pr) (p : Pr) : Prop := ∀ vs B H Q E, Ex B H → AllP ps vs B → (∀ u B' H', Gr B H B' H' → p.P u B' → Q u H') → sp vs H Q E
theorem p_call {sp : Sp} (h : EvPs t σ B ps) (hs : SpOk sp ps p) : EvP (tCall sp [] E0 t) σ B p := fun H1 a Q k =>
  h H1 a _ fun vs B2 H2 g b => by
    rw [List.append_nil]
    exact hs vs B2 H2 Q E0 g.c b fun u B3 H3 g3 c => k u B3 H3 (g.trans g3) c
/-- a comprehension over a list, some items left out -/
theorem p_lc {g : TG} {tt : TT} {vs : List Nat} (h : EvP ta σ B (LqP K ps)) (hl : ps.length ≤ 100000) (keep : Nat → Bool) (res : Nat → Pr)
    (step : ∀ i p v B1, ps[i]? = some p → Ex B B1 → p.P v B1 → ∃ σ2, wipe σ2 vs = wipe σ vs ∧ (∀ H2 Q, Ex B1 H2 → Q σ2 H2 → g v (wipe σ vs) H2 Q) ∧ EvT tt σ2 B1 (keep i) ∧ (keep i = true → EvP te σ2 B1 (res i))) :
    EvP (tLc (iList K ta) g tt te vs) σ B (LsP (((List.range ps.length).filter keep).map res)) := fun H1 a Q k =>
  h H1 a _ fun v B2 H2 gr b => by
    obtain ⟨l, xs, rfl, hx, hal⟩ := b
    have hlen := hal.len
    refine ⟨l, rfl, ⟨xs, ex_l gr.c hx⟩, fun Dd hD => ?_⟩
    refine lc_list (K := K) (a := l) (xs := xs) (fun i H3 => ∃ B3 acc, Gr B2 H2 B3 (wo Dd H3) ∧ H3 Dd = some (.lst acc) ∧ AllP (((List.range i).filter keep).map res) acc B3) ?_ ?_ ?_ ?_
    · exact ⟨B2, [], by rw [wo_new hD]; exact Gr.refl gr.c, upd_same, trivial⟩
    · rintro i H3 _ ⟨B3, acc, g3, _, _⟩
      exact ex_l (g3.b.trans (g3.c.trans wo_ex)) hx
    · rintro i x H3 hi ⟨B3, acc, g3, hDd, hacc⟩
      obtain ⟨p, hp, px⟩ := hal.get hi
      have hil : i < xs.length := (List.getElem?_eq_some_iff.mp hi).1
      have exB : Ex B3 H3 := g3.c.trans wo_ex
      have hB3 : B3 Dd = none := wo_none g3.c
      have some3 : H3 Dd ≠ none := by
        rw [hDd]
        exact fun z => nomatch z
      obtain ⟨σ2, hw, hg, ht, he⟩ := step i p x B3 hp (gr.b.trans g3.b) (p.m g3.b px)
      refine hg H3 _ exB ⟨hw, ht H3 exB _ fun H4 e4 => ?_⟩
      have e34 : Ex B3 H4 := exB.trans e4
      have hD4 := e4 _ _ hDd
      have g4 : Gr B2 H2 B3 (wo Dd H4) := g3.side some3 (Gr.wide exB e4)
      have some4 : H4 Dd ≠ none := has e4 some3
      cases hk : keep i with
      | true =>
        rw [if_pos rfl]
        refine he hk H4 e34 _ fun y B5 H5 g5 hy => ?_
        have la : acc.length ≤ i := by
          rw [hacc.len, List.length_map]
          exact Nat.le_trans (List.length_filter_le _ _) (by rw [List.length_range]; exact Nat.le_refl _)
        refine ⟨acc, g5.a _ _ hD4, sz_lt (by omega), B5, acc ++ [y], by rw [wo_upd]; exact g4.side some4 g5, upd_same, ?_⟩
        rw [List.range_succ, List.filter_append, List.map_append]
        refine (hacc.m g5.b).app ?_
        have : List.filter keep [i] = [i] := by simp [hk]
        rw [this]
        exact ⟨hy, trivial⟩
      | false =>
        rw [if_neg Bool.false_ne_true]
        refine ⟨B3, acc, g4, hD4, ?_⟩
        rw [List.range_succ, List.filter_append, List.map_append]
        have : List.filter keep [i] = [] := by simp [hk]
        rw [this, List.map_nil, List.append_nil]
        exact hacc
    · rintro H3 ⟨B3, acc, g3, hDd, hacc⟩
      have hB3 : B3 Dd = none := wo_none g3.c
      rw [hlen] at hacc
      refine k (.ref Dd) (upd B3 Dd (.lst acc)) H3 ⟨gr.a.trans (g3.a.trans wo_ex), gr.b.trans (g3.b.trans (Ex.new hB3)), fun b o e => ?_, fun x hb hh => ?_, fun z b ps q => ?_⟩ ⟨Dd, acc, rfl, upd_same, hacc.m (Ex.new hB3)⟩
      · by_cases n : b = Dd
        · subst n
          rw [upd_same] at e
          rw [hDd]
          exact e
        · rw [upd_ne n] at e
          exact g3.c.trans wo_ex _ _ e
      · have n : x ≠ Dd := fun z => by
          subst z
          exact has gr.a hh hD
        rw [upd_ne n]
        exact g3.d x (gr.d x hb hh) (has gr.a hh)
      · by_cases n : b = Dd
        · subst n
          rw [upd_same] at q
          cases q
        · rw [upd_ne n] at q
          exact g3.e (gr.e z) b ps q
end
end My
namespace My
set_option autoImplicit false
open PySem L2 Evl
/-- what is known says which data it is -/
def To (K : PySem.W.Frag) (p : Pr) (d : PyData) : Prop := ∀ v H, p.P v H → Dp K H v d
inductive ToAll (K : PySem.W.Frag) : List Pr → List PyData → Prop
  | nil : ToAll K [] []
  | cons {p : Pr} {d : PyData} {ps : List Pr} {ds : List PyData} : To K p d → ToAll K ps ds → ToAll K (p :: ps) (d :: ds)
section
variable {te ta tb : TE} {t tr : TA} {σ : L2.St} {B B' H : Hp} {p q : Pr} {ps qs : List Pr} {v : V} {K : PySem.W.Frag} {D : Ends} {d e : PyData} {ds : List PyData}
theorem to_int {i : Int} : To K (IsV (.int i)) (.int i) := fun v H h => by
  obtain rfl : v = _ := h
  exact .int i
theorem to_str {x : Str} : To K (IsV (.str x)) (.str x) := fun v H h => by
  obtain rfl : v = _ := h
  exact .str x
theorem to_bl {b : Bool} : To K (IsV (.bl b)) (.bool b) := fun v H h => by
  obtain rfl : v = _ := h
  exact .bl b
theorem to_non : To K (IsV .non) .none := fun v H h => by
  obtain rfl : v = _ := h
  exact .non
theorem toAll_all {H : Hp} : ∀ {ps : List Pr} {ds : List PyData} {vs : List V}, ToAll K ps ds → AllP ps vs H → DpAll K H vs ds
  | [], _, [], .nil, _ => .nil
  | _ :: _, _, _ :: _, .cons a b, h => .cons (a _ _ h.1) (toAll_all b h.2)
theorem to_lst (h : ToAll K ps ds) : To K (LsP ps) (.list ds) := fun v H hv => by
  obtain ⟨r, xs, rfl, hr, hx⟩ := hv
  exact .lst (sq_of hr) (toAll_all h hx)
theorem to_tup (h : ToAll K ps ds) : To K (TuP K ps) (.tuple ds) := fun v H hv => by
  obtain ⟨r, xs, rfl, hr, hx⟩ := hv
  exact .tup hr (toAll_all h hx)
theorem toAll_map {α : Type} {f : α → Pr} {g : α → PyData} (l : List α) (h : ∀ x, To K (f x) (g x)) : ToAll K (l.map f) (l.map g) := by
  induction l with
  | nil => exact .nil
  | cons x r ih => exact .cons (h x) ih
theorem p_to (h : EvP te σ B p) (k : To K p d) : EvP te σ B (IsD K d) := h.imp fun v B1 _ b => k v B1 b
theorem p_varV {i : Nat} (h : σ[i]? = some (some v)) : EvP (tVar i) σ B (IsV v) := p_var h rfl
theorem p_lq (h : EvP te σ B (LsP ps)) : EvP te σ B (LqP K ps) := h.imp fun _ _ _ b => lq_ls b
theorem p_ixT {j : Int} (h : EvP ta σ B (TuP K ps)) (hj : EvP tb σ B (IsV (.int j))) (hp : atI ps j = some p) : EvP (tOp (rIxT K) ta tb) σ B p := fun H1 a Q k =>
  h H1 a _ fun v B2 H2 g b => hj H2 (g.b.trans g.c) _ fun w B3 H3 g3 b3 => by
    obtain ⟨l, xs, rfl, hx, hal⟩ := b
    obtain rfl : w = _ := b3
    have hlen := hal.len
    unfold atI at hp
    rw [← hlen] at hp
    obtain ⟨n, hn, hq⟩ := Option.bind_eq_some_iff.mp hp
    obtain ⟨z, hz, pz⟩ := hal.at hq
    have gj := g.join g3
    refine ⟨l, xs, j, z, rfl, rfl, ex_t (g.c.trans g3.a) hx, ?_, k z _ _ gj (p.m both_l pz)⟩
    unfold atI
    rw [hn]
    exact hz
theorem AllP.rep {H : Hp} {vs : List V} (h : AllP ps vs H) : ∀ n, AllP (List.replicate n ps).flatten (List.replicate n vs).flatten H
  | 0 => trivial
  | n + 1 => by
    rw [List.replicate_succ, List.replicate_succ, List.flatten_cons, List.flatten_cons]
    exact h.app (AllP.rep h n)
theorem p_rep {n : Nat} (h : EvP ta σ B (LsP ps)) (hb : EvP tb σ B (IsV (.int (n : Int)))) (hn : n ≤ 100000) (hl : ps.length * n ≤ 100000) : EvP (tOp rRep ta tb) σ B (LsP (List.replicate n ps).flatten) := fun H1 a Q k =>
  h H1 a _ fun v B2 H2 g b => hb H2 (g.b.trans g.c) _ fun w B3 H3 g3 b3 => by
    obtain ⟨l, xs, rfl, hx, hal⟩ := b
    obtain rfl : w = _ := b3
    have gj := g.join g3
    have hlen := hal.len
    refine ⟨l, (n : Int), xs, rfl, rfl, g3.a _ _ (g.c _ _ hx), by omega, by omega, sz_of (by rw [hlen]; exact hl), fun r hr => k _ _ _ (gj.trans (Gr.new _ gj.c hr)) ⟨r, _, rfl, upd_same, ?_⟩⟩
    exact (AllP.rep (hal.m both_l) n).m (Ex.new (fresh_back gj.c hr))
theorem et_yes : EvT tYes σ B true := fun H1 _ _ q => q H1 (Ex.refl H1)
theorem ps_ifT {t : TT} {tu tw : TS} (a : Ex B H) (h : EvT t σ B true) (k : ∀ H1, Ex H H1 → tu D σ H1) : tIfS t tu tw D σ H := h H a _ fun H1 e => by
  rw [if_pos rfl]
  exact k H1 e
theorem et_ne {d : PyData} (ha : EvP ta σ B (IsD K d)) (hb : EvP tb σ B (IsD K d)) (hd : SeqAt.shaped d = true) : EvT (tTest (tOp (rNeD K) ta tb)) σ B false :=
  et_is (et_test (ev_neD ha hb hd hd)) (by rw [SeqAt.eqv_refl d (Bool.and_eq_true_iff.mp hd).1]; rfl)
theorem ev_notN (h : EvP ta σ B (IsV .non)) : Ev (tOp (fun x y H Q => y = V.non ∧ Q (.bl (!decide (x = V.non))) H) ta (tC .non)) σ B (.bl false) := fun H1 a Q k =>
  h H1 a _ fun v B2 H2 g b => by
    obtain rfl : v = V.non := b
    exact ⟨rfl, k H2 g.a⟩
end
end My
namespace My
set_option autoImplicit false
open PySem PySem.Spec PySem.W PyProof.Rows L2 Evl NdefX LamX
/-- an address of ours that nothing else speaks of -/
structure Fre (X : Cx) (pins : List (Addr × Obj)) (a : Addr) : Prop where
  base : X.s_0.heap.objs.size ≤ a
  loc : a ≠ X.env.locals
  cel : ∀ y c, X.env.cells.lookup y = some c → c ≠ a
  pin : ∀ p ∈ X.pn ++ pins, p.1 ≠ a
  fs : a ∉ X.fs
section
variable {X : Cx} {pins : List (Addr × Obj)} {σ : L2.St} {H : Hp} {s : Shared} {a b : Addr}
theorem Fre.of (I : Inv X pins σ H s) (h : s.heap.objs.size ≤ a) : Fre X pins a := by
  have no : ∀ c : Addr, c < s.heap.objs.size → c ≠ a := fun c hc z => by
    rw [z] at hc
    exact Nat.lt_irrefl _ (Nat.lt_of_lt_of_le hc h)
  refine ⟨Nat.le_trans I.sz h, (no _ I.lt).symm, fun y c e => ?_, fun p hp => ?_, I.nofs h⟩
  · obtain ⟨v, o, ho, _⟩ := I.cell y c e
    exact no c (Heap.lt_size ho)
  · exact no p.1 (Heap.lt_size (I.pin p hp).1)
theorem Fre.more (f : Fre X pins a) {o : Obj} (h : b ≠ a) : Fre X ((b, o) :: pins) a :=
  ⟨f.base, f.loc, f.cel, fun p hp => (List.mem_append.mp hp).elim (fun z => f.pin p (List.mem_append_left _ z)) fun z => by
    rcases List.mem_cons.mp z with rfl | z
    · exact h
    · exact f.pin p (List.mem_append_right _ z), f.fs⟩
/-- fewer pins -/
theorem unpin {p : Addr × Obj} (I : Inv X (p :: pins) σ H s) : Inv X pins σ H s := I.pins_of fun q hq => I.pin q (List.mem_append_right _ (List.mem_cons_of_mem _ hq))
theorem repin {o : Obj} (I : Inv X pins σ H s) (f : Fre X pins a) (ho : s.heap.get? a = some o) (hn : H a = none) (hd : ∀ v, o.data ≠ .cell v) : Inv X ((a, o) :: pins) σ H s := I.pins_of fun q hq => by
  rcases List.mem_cons.mp hq with rfl | hq
  · exact ⟨ho, hn, f.loc, f.fs, hd⟩
  · exact I.pin q (List.mem_append_right _ hq)
/-- two objects that are not known of, written; one may be known from now on -/
theorem free2 {h' : Heap} {t' : Nat} {ys : List V} (I : Inv X pins σ H s) (fa : Fre X pins a) (fb : Fre X pins b) (na : H a = none) (nb : H b = none)
    (k : ∀ c o, c ≠ a → c ≠ b → s.heap.get? c = some o → h'.get? c = some o) (new : ys.length ≤ sizeLine ∧ ∃ (its : List Value) (n : Nat), Vals ys its ∧ h'.get? a = some { cls := .type "list", data := .seq its.toArray n }) :
    Inv X pins σ (upd H a (.lst ys)) { s with heap := h', toks := t' } := by
  have ne : ∀ c u, H c = some u → c ≠ a := fun c u e => ne_of_none e na
  have neb : ∀ c u, H c = some u → c ≠ b := fun c u e => ne_of_none e nb
  have up : ∀ c u, H c = some u → upd H a (.lst ys) c = some u := fun c u e => by rw [upd_ne (ne c u e)]; exact e
  have out : ∀ c, c ∉ [a, b] → c ≠ a ∧ c ≠ b := fun c hc => ⟨fun z => hc (by simp [z]), fun z => hc (by simp [z])⟩
  refine I.step (g' := s.gens) (d' := s.drawn) (ch := [a, b]) (fun c hc => ?_) (fun c o _ _ hc e _ => k c o (out c hc).1 (out c hc).2 e) (fun c o _ _ hc e _ => ⟨o.slots, k c o (out c hc).1 (out c hc).2 e⟩) (fun c o hc _ n => ?_)
    (fun c o hc e => ⟨o, k c o (out c hc).1 (out c hc).2 e⟩) (fun c xs e => up _ _ e) (fun c o u e => up _ _ e) (fun c ps e => ⟨#[], by rw [up _ _ e]; simp⟩) (fun m hn => ?_) (fun c u e => ?_) I.bare
  · rcases List.mem_cons.mp hc with rfl | hc
    · exact ⟨.inr fa.base, fa.loc, fa.cel, fa.pin⟩
    · obtain rfl := List.mem_singleton.mp hc
      exact ⟨.inr fb.base, fb.loc, fb.cel, fb.pin⟩
  · rw [upd_ne (out c hc).1]
    exact n
  · obtain ⟨ob, es, ep, ho, r⟩ := hn
    exact ⟨ob, es, ep, k _ ob fa.loc.symm fb.loc.symm ho, r⟩
  · by_cases hc : c = a
    · subst hc
      rw [upd_same] at e
      cases e
      exact new
    · rw [upd_ne hc] at e
      refine (I.hok c u e).stay (fun d v hd q => ?_) (fun d q => up _ _ q) fun d xs q => up _ _ q
      rcases hd with rfl | z
      · exact k _ v (ne _ _ e) (neb _ _ e) q
      · exact k _ v (ne _ _ z) (neb _ _ z) q
/-- one pinned object, written -/
theorem pinSet {o o' : Obj} {h' : Heap} {t' : Nat} (I : Inv X ((a, o) :: pins) σ H s) (fa : Fre X pins a) (k : ∀ c o, c ≠ a → s.heap.get? c = some o → h'.get? c = some o) (ha : h'.get? a = some o') (hd : ∀ v, o'.data ≠ .cell v) :
    Inv X ((a, o') :: pins) σ H { s with heap := h', toks := t' } := by
  have na : H a = none := (I.pin (a, o) (List.mem_append_right _ List.mem_cons_self)).2.1
  have ne : ∀ c u, H c = some u → c ≠ a := fun c u e => ne_of_none e na
  have out : ∀ c, c ∉ [a] → c ≠ a := fun c hc z => hc (by simp [z])
  have J := (unpin I).step (h' := h') (H' := H) (g' := s.gens) (d' := s.drawn) (t' := t') (ch := [a]) (fun c hc => by
      obtain rfl := List.mem_singleton.mp hc
      exact ⟨.inr fa.base, fa.loc, fa.cel, fa.pin⟩) (fun c o _ _ hc e _ => k c o (out c hc) e) (fun c o _ _ hc e _ => ⟨o.slots, k c o (out c hc) e⟩) (fun c o hc _ n => n)
    (fun c o hc e => ⟨o, k c o (out c hc) e⟩) (fun c xs e => e) (fun c o u e => e) (fun c ps e => ⟨#[], by rw [e]; simp⟩) (fun m hn => by
      obtain ⟨ob, es, ep, ho, r⟩ := hn
      exact ⟨ob, es, ep, k _ ob fa.loc.symm ho, r⟩) (fun c u e => by
      refine (I.hok c u e).stay (fun d v hd q => ?_) (fun d q => q) fun d xs q => q
      rcases hd with rfl | z
      · exact k _ v (ne _ _ e) q
      · exact k _ v (ne _ _ z) q) I.bare
  exact repin J fa ha na hd
/-- a lambda of one parameter is called -/
theorem lam_call {A : Around} {F : NF} {body : Expr} {x0 : Str} {N fr : List Str} {f : Addr} {pm ctv : Value} {tb : TE} {k : Nat} {u : Value} {x : V} {js : List Nat} {Q : VK} {E' : Value → Shared → Prop}
    (I : Inv X pins σ H s) (S : NScope N [x0] fr F.scope) (hA : A.frames = some X.stack) (hr : Room (k + 1) A) (hf : s.heap.get? f = some (kla_obj F.name F.qual F.params body F.scope F.cl pm F.c ctv)) (hc : H F.c = some (CodeO F.c F.qual))
    (hbind : bindArgs (kla_fn F.name F.qual F.params body F.scope F.cl pm (.ref F.c) ctv) ⟨[u], []⟩ = pure [(x0, u)]) (cp : Caps X F.cl fr js) (r : RelV x u)
    (hbody : ∀ (s0 : Shared) (H0 : Hp), Room k (A.deeper (envF F f s0.heap.objs.size)) → PE (ncx C8.CX0 X.prog X.w X.K X.mg X.base N F f A X.stack s0 H0 C8.E0) body tb)
    (q : tb (startF N [x] (js.map (slotAt σ))) H Q) : wpAny (model X.prog X.w) A (call (.ref f) [u]) (EP X pins σ Q) E' s := by
  have e0 : Env0 X.prog X.w X.K X.mg X.base A X.stack s H := ⟨hA, I.ok.mod, I.bs, Nat.le_trans I.ok.bsz I.sz, I.stack, I.stkFree, I.hok, I.bare⟩
  have rc : codeAny (model X.prog X.w) A (.call (.ref f) ⟨[u], []⟩) (CR C8.CX0 X.stack X.prog X.w H s Q C8.E0) s := by
    refine kla_callFunE hr.depth hf rfl S.co S.gen rfl (codeO_at I.hok hc) ?_
    rw [hbind]
    refine wpAny_pure (wpAny_newFunctionEnv S.nocell (fun y hy => by
      obtain rfl := List.mem_singleton.mp hy
      exact S.par x0 List.mem_cons_self) (fun h1 hns hsb => ⟨I.nolimit.fresh _ hsb, ?_⟩) S.kind)
    show codeAny _ _ (.expr body (envF F f s.heap.objs.size)) _ _
    have kp : ∀ b o, s.heap.get? b = some o → h1.get? b = some o := fun b o e => hsb.extBut b o (Nat.ne_of_lt (Heap.lt_size e)) (Heap.get?_push_of_some _ e)
    have J : Inv (ncx C8.CX0 X.prog X.w X.K X.mg X.base N F f A X.stack s H C8.E0) [] (startF N [x] (js.map (slotAt σ))) H { s with heap := h1, toks := s.toks + [(x0, u)].length } :=
      inv_startN (us := [u]) S hr.hd e0 rfl (.cons r .nil) (cells_of I cp) hns kp
    refine kla_codeExpr (wpAny_mono ((hbody s H (hr.deeper _)).run [] _ _ H Q J q) (fun v s1 hq => ?_) fun e s1 hq => hq)
    obtain ⟨w', H', J', rv, qq⟩ := hq
    exact ⟨w', H', J'.os, J'.bare, J'.base, J'.hok, rv, qq⟩
  refine wpAny_call (codeAny_mono rc fun r s2 hq => ?_)
  cases r with
  | error e => exact (show False from hq).elim
  | ok fl =>
    cases fl with
    | ret u => exact I.after hq
    | next => exact False.elim hq
    | brk => exact False.elim hq
    | cont => exact False.elim hq
end
end My
namespace My
set_option autoImplicit false
open PySem PySem.Spec PySem.W PySem.Calls PyProof.Rows L2 Evl NdefX LamX
theorem dpAll_len {K : PySem.W.Frag} {H : Hp} : ∀ {vs : List V} {ds : List PyData}, DpAll K H vs ds → vs.length = ds.length
  | [], [], _ => rfl
  | _ :: _, _ :: _, .cons _ b => congrArg Nat.succ (dpAll_len b)
theorem dpAll_app {K : PySem.W.Frag} {H : Hp} : ∀ {vs ws : List V} {ds es : List PyData}, DpAll K H vs ds → DpAll K H ws es → DpAll K H (vs ++ ws) (ds ++ es)
  | [], _, [], _, _, h => h
  | _ :: _, _, _ :: _, _, .cons a b, h => .cons a (dpAll_app b h)
theorem vals_app {vs ws : List V} {us zs : List Value} (a : Vals vs us) (b : Vals ws zs) : Vals (vs ++ ws) (us ++ zs) := by
  induction a with
  | nil => exact b
  | cons r _ ih => exact .cons r ih
/-- the items, each with its key, in order, equal ones as they stood: the items alone -/
def byKey (xs : List V) (ks : List PyData) : List V := ((xs.zip ks).mergeSort (dataLe false (·.2))).map (·.1)
theorem vals_each {h : Heap} : ∀ {xs : List V} {us : List Value} {ks : List PyData}, Vals xs us → ks.length = xs.length → EachIs (fun (u : Value) (p : V × PyData) => RelV p.1 u) us (xs.zip ks)
  | [], [], ks, _, h => by
    obtain rfl := List.length_eq_zero_iff.mp h
    exact .nil
  | _ :: _, _ :: _, [], _, h => by simp at h
  | _ :: _, _ :: _, _ :: _, .cons r t, h => .cons r (vals_each (h := ‹Heap›) t (by simpa using h))
theorem each_vals : ∀ {us : List Value} {ps : List (V × PyData)}, EachIs (fun (u : Value) (p : V × PyData) => RelV p.1 u) us ps → Vals (ps.map (·.1)) us
  | _, _, .nil => .nil
  | _, _, .cons r t => .cons r (each_vals t)
theorem zip_snd {α β : Type} : ∀ {xs : List α} {ks : List β}, ks.length = xs.length → (xs.zip ks).map (·.2) = ks
  | [], ks, h => by
    obtain rfl := List.length_eq_zero_iff.mp h
    rfl
  | _ :: _, [], h => by simp at h
  | _ :: _, k :: _, h => congrArg (k :: ·) (zip_snd (by simpa using h))
theorem dps_each {X : Cx} {pins : List (Addr × Obj)} {σ : L2.St} {H : Hp} {s : Shared} (I : Inv X pins σ H s) : ∀ {vs : List V} {us : List Value} {ds : List PyData}, Vals vs us → DpAll X.K H vs ds → EachIs (fun u d => ∃ as, Reads s.heap u d as) us ds
  | [], [], [], _, _ => .nil
  | _ :: _, _ :: _, _ :: _, .cons r t, .cons a b => .cons (Dp.reads I _ _ _ a r) (dps_each I t b)
/-- f, called for x while the heap is at least H0, gives k -/
def KeyRun (X : Cx) (σ : L2.St) (A : Around) (f : Addr) (fo : Obj) (H0 : Hp) (x : V) (k : PyData) : Prop := ∀ (pins : List (Addr × Obj)) (s : Shared) (H : Hp) (u : Value) (E : Value → Shared → Prop),
  Inv X pins σ H s → (f, fo) ∈ pins → Ex H0 H → RelV x u → wpAny (model X.prog X.w) A (call (.ref f) [u]) (EP X pins σ fun v H' => Ex H H' ∧ Dp X.K H' v k) E s
section
variable {X : Cx} {pins : List (Addr × Obj)} {σ : L2.St} {H : Hp} {s : Shared} {A : Around} {f : Addr} {fo : Obj} {xs : List V} {ks : List PyData} {E : Value → Shared → Prop}
/-- the keys are made, one behind the other, then all is sorted -/
theorem rest_inv {a kS : Addr} {vs : List Value} {e1 : Nat} {Q : VK} (I : Inv X ((kS, seqObj "list" #[] 0) :: (a, seqObj "list" #[] e1) :: pins) σ H s) (hf : (f, fo) ∈ pins) (fa : Fre X pins a) (fk : Fre X pins kS) (hka : kS ≠ a)
    (hv : Vals xs vs) (hl : ks.length = xs.length) (hZ : xs.length ≤ sizeLine) (hal : AllAlike ks) (hsk : Sortable ks) (hu : ∀ d, d ∈ ks → A.units + d.depth < cLine)
    (key : ∀ (i : Nat) (x : V) (k : PyData), xs[i]? = some x → ks[i]? = some k → KeyRun X σ A f fo H x k)
    (q : ∀ H', Ex H H' → H' a = none → Q (.ref a) (upd H' a (.lst (byKey xs ks)))) :
    wpAny (model X.prog X.w) A (ksk_rest a (.ref f) false vs.toArray e1 (.ref kS)) (fun fin s' => fin = .done (.ret .none) ∧ EP X pins σ Q (.ref a) s') E s := by
  have hvl := hv.length
  have hks : ∀ z : Value, ∀ v, (seqObj "list" #[z] 0 : Obj).data ≠ .cell v := fun z v h => nomatch h
  have one : ∀ {i : Nat} {u : Value}, vs[i]? = some u → ∃ x k, xs[i]? = some x ∧ ks[i]? = some k ∧ RelV x u := fun {i u} hu => by
    have hi : i < vs.length := (List.getElem?_eq_some_iff.mp hu).1
    have e1 : xs[i]? = some xs[i] := List.getElem?_eq_getElem (by omega)
    have e2 : ks[i]? = some ks[i] := List.getElem?_eq_getElem (by omega)
    obtain ⟨w, hw, r⟩ := hv.get e1
    rw [hu] at hw
    obtain rfl := Option.some.inj hw
    exact ⟨_, _, e1, e2, r⟩
  unfold ksk_rest
  apply wpAny_bind
  apply wpAny_rule
  first
    | rw [List.forIn_toArray]
    | (rw [← Array.forIn_toList]; simp only [List.toList_toArray])
  apply wpAny_bind
  refine ksk_fold (fun i s' => ∃ (H' : Hp) (kA : Array Value) (n : Nat) (kvs : List V), Inv X ((kS, seqObj "list" kA n) :: (a, seqObj "list" #[] e1) :: pins) σ H' s' ∧ Ex H H' ∧ Vals kvs kA.toList ∧ DpAll X.K H' kvs (ks.take i)) vs 0 s
    ⟨H, #[], 0, [], I, Ex.refl H, .nil, by rw [List.take_zero]; exact .nil⟩ ?_ ?_
  · rintro j u s1 hj ⟨H1, kA, n, kvs, I1, x1, r1, d1⟩
    simp only [Nat.zero_add] at d1 ⊢
    obtain ⟨x, k, hx, hk, rx⟩ := one hj
    have jl : j < vs.length := (List.getElem?_eq_some_iff.mp hj).1
    have kz : kA.size ≤ sizeLine := by
      have h1 := r1.length
      have h2 := dpAll_len d1
      have h3 : kA.toList.length = kA.size := by simp
      rw [List.length_take] at h2
      omega
    refine wpAny_bind (wpAny_attempt (wpAny_mono (key j x k hx hk _ s1 H1 u (fun _ _ => False) I1 (List.mem_cons_of_mem _ (List.mem_cons_of_mem _ hf)) x1 rx) (fun w s2 hw => ?_) fun _ _ z => z.elim))
    obtain ⟨v, H2, I2, rv, x2, dv⟩ := hw
    dsimp only
    have at1 := (I2.pin _ (List.mem_append_right _ List.mem_cons_self)).1
    obtain ⟨n2, at2⟩ : ∃ n2, (s2.heap.update kS (Obj.mapSeq (·.push w))).get? kS = some (seqObj "list" (kA.push w) n2) := ⟨_, get?_update_seq at1 (·.push w)⟩
    have sb := Heap.SameBut.update s2.heap kS (Obj.mapSeq (·.push w))
    refine wpAny_bind (listUpdate_at at1 rfl ?_ kz (by rw [Array.size_push]; omega))
    refine wpAny_pure ⟨rfl, H2, kA.push w, n2, kvs ++ [v], pinSet (t' := s2.toks) I2 (fk.more hka.symm) (fun c o hc e => (sb.2 c hc).trans e) at2 (fun v z => nomatch z), x1.trans x2, ?_, ?_⟩
    · have : (kA.push w).toList = kA.toList ++ [w] := by simp
      rw [this]
      exact vals_app r1 (.cons rv .nil)
    · rw [List.take_add_one, hk]
      exact dpAll_app (dps_m x2 d1) (.cons dv .nil)
  · rintro s1 ⟨H1, kA, n, kvs, I1, x1, r1, d1⟩
    have ek : ks.take (0 + vs.length) = ks := List.take_of_length_le (by omega)
    rw [ek] at d1
    have at1 := (I1.pin _ (List.mem_append_right _ List.mem_cons_self)).1
    have nk := (I1.pin _ (List.mem_append_right _ List.mem_cons_self)).2.1
    have at2 := (I1.pin _ (List.mem_append_right _ (List.mem_cons_of_mem _ List.mem_cons_self))).1
    have na := (I1.pin _ (List.mem_append_right _ (List.mem_cons_of_mem _ List.mem_cons_self))).2.1
    have ksz : kA.size = vs.length := by
      have h1 := r1.length
      have h2 := dpAll_len d1
      have h3 : kA.toList.length = kA.size := by simp
      omega
    have ev := dps_each I1 r1 d1
    obtain ⟨G, g1, g2⟩ := restrict s1.heap fun c => decide (c ≠ kS)
    have kp : KeepsBut a G s1.heap := fun c o _ e => by
      by_cases hc : c = kS
      · rw [hc, g2 kS (decide_eq_false fun z => z rfl)] at e
        cases e
      · rw [← g1 c (decide_eq_true hc)]
        exact e
    refine wpAny_bind (listItems_at at1 rfl ?_)
    refine keyH_end (κ := dataKind s1.heap ks) (h₁ := G) kp (g2 kS (decide_eq_false fun z => z rfl)) at1 at2 hka (SortsAt.data ev hal hsk hu) ksz (by omega) fun h3 tk3 c k3 n3 => ⟨rfl, ?_⟩
    have out : KeyedOut false ks vs (sortVals (dataKind s1.heap ks) false kA.toList vs) := ⟨s1.heap, kA.toList, hal, rfl, ev⟩
    have ez := zip_snd hl
    have o2 : EachIs (fun (u : Value) (p : V × PyData) => RelV p.1 u) (sortVals (dataKind s1.heap ks) false kA.toList vs) ((xs.zip ks).mergeSort (dataLe false (·.2))) :=
      keyedOut_each (·.2) (by rw [ez]; exact out) (vals_each (h := s.heap) hv hl)
    have rv := each_vals o2
    have vl : (byKey xs ks).length ≤ sizeLine := by
      show (((xs.zip ks).mergeSort (dataLe false (·.2))).map (·.1)).length ≤ _
      rw [List.length_map, List.length_mergeSort, List.length_zip]
      omega
    exact ⟨.ref a, _, free2 (b := kS) (t' := tk3) (unpin (unpin I1)) fa fk na nk (fun d o h1 h2 e => k3 d o h1 (by rw [g1 d (decide_eq_true h2)]; exact e)) ⟨vl, _, c, rv, n3⟩, rfl, q H1 x1 na⟩
/-- the list at a, nobody's yet, is sorted by keys -/
theorem tree_inv {a : Addr} {vs : List Value} {n : Nat} {Q : VK} (I : Inv X pins σ H s) (hf : (f, fo) ∈ pins) (fa : Fre X pins a) (na : H a = none) (ha : s.heap.get? a = some (seqObj "list" vs.toArray n))
    (hv : Vals xs vs) (hl : ks.length = xs.length) (hZ : xs.length ≤ sizeLine) (hal : AllAlike ks) (hsk : Sortable ks) (hu : ∀ d, d ∈ ks → A.units + d.depth < cLine)
    (key : ∀ (i : Nat) (x : V) (k : PyData), xs[i]? = some x → ks[i]? = some k → KeyRun X σ A f fo H x k)
    (q : ∀ H', Ex H H' → H' a = none → Q (.ref a) (upd H' a (.lst (byKey xs ks)))) :
    wpAny (model X.prog X.w) A (ksk_tree a (.ref f) false) (fun fin s' => fin = .done (.ret .none) ∧ EP X pins σ Q (.ref a) s') E s := by
  have hvl := hv.length
  obtain ⟨e1, a1⟩ : ∃ e1, (s.heap.update a (Obj.mapSeq fun _ => (#[] : Array Value))).get? a = some (seqObj "list" #[] e1) := ⟨_, get?_update_seq ha fun _ => #[]⟩
  have sb := Heap.SameBut.update s.heap a (Obj.mapSeq fun _ => (#[] : Array Value))
  unfold ksk_tree
  refine wpAny_bind (listItems_at ha rfl ?_)
  refine wpAny_bind (listUpdate_at ha rfl ?_ (by rw [List.size_toArray]; omega) (Nat.zero_le _))
  refine wpAny_bind (seqEpoch_at a1 rfl ?_)
  refine wpAny_bind (wpAny_newTuple ?_ (by show vs.length ≤ _; omega))
  refine wpAny_bind (wpAny_newList ?_ (Nat.zero_le _))
  apply wpAny_holding
  have I0 : Inv X ((a, seqObj "list" #[] e1) :: pins) σ H { s with heap := s.heap.update a (Obj.mapSeq fun _ => (#[] : Array Value)), toks := s.toks } :=
    pinSet (repin I fa ha na fun v z => nomatch z) fa (fun c o hc e => (sb.2 c hc).trans e) a1 fun v z => nomatch z
  have I1 := I0.kept (t' := s.toks) (h' := ((s.heap.update a (Obj.mapSeq fun _ => (#[] : Array Value))).push (seqObj "tuple" vs.toArray 0))) (fun c o e => Heap.get?_push_of_some _ e)
  have hk : Fre X ((a, seqObj "list" #[] e1) :: pins) ((s.heap.update a (Obj.mapSeq fun _ => (#[] : Array Value))).push (seqObj "tuple" vs.toArray 0)).objs.size := Fre.of I1 (Nat.le_refl _)
  have I2 := I1.kept (t' := s.toks) (h' := (((s.heap.update a (Obj.mapSeq fun _ => (#[] : Array Value))).push (seqObj "tuple" vs.toArray 0)).push (seqObj "list" #[] 0))) (fun c o e => Heap.get?_push_of_some _ e)
  have I3 := repin I2 hk (Heap.get?_push_size _ rfl) (I1.hok.fresh (Nat.le_refl _)) (fun v z => nomatch z)
  exact rest_inv I3 hf fa ⟨hk.base, hk.loc, hk.cel, fun p hp => hk.pin p ((List.mem_append.mp hp).elim (List.mem_append_left _) fun z => List.mem_append_right _ (List.mem_cons_of_mem _ z)), hk.fs⟩
    (fun z => hk.pin (a, seqObj "list" #[] e1) (List.mem_append_right _ List.mem_cons_self) z.symm) hv hl hZ hal hsk hu key q
/-- sorted(xs, key=f) of a list -/
theorem sorted_list {l : Addr} {Q : VK} (I : Inv X pins σ H s) (hf : (f, fo) ∈ pins) (hs : SqL X.K H l xs) (hl : ks.length = xs.length) (hal : AllAlike ks) (hsk : Sortable ks) (hu : ∀ d, d ∈ ks → A.units + 2 + d.depth < cLine)
    (key : ∀ (i : Nat) (x : V) (k : PyData), xs[i]? = some x → ks[i]? = some k → KeyRun X σ A.in1.in1 f fo H x k)
    (q : ∀ H' a, Ex H H' → H' a = none → Q (.ref a) (upd H' a (.lst (byKey xs ks)))) :
    wpAny (model X.prog X.w) A (call (.builtin "sorted") [.ref l] [(Str.ofString "key", .ref f)]) (EP X pins σ Q) E s := by
  obtain ⟨vs, rv, pl, hz⟩ := I.list hs
  have hvl := rv.length
  refine sorted_of_sort pl.isList (by omega) (ksk_s1 _ _) (fun _ => ksk_l1 _ _) fun E' => ?_
  rw [ksk_t1]
  have I1 := I.kept (t' := s.toks) (h' := copyHeap s.heap vs) (fun c o e => copyHeap_old e)
  exact tree_inv (s := { s with heap := copyHeap s.heap vs, toks := s.toks }) I1 hf (Fre.of I (Nat.le_succ _)) (I.hok.fresh (Nat.le_succ _)) (copyHeap_at s.heap vs) rv hl hz hal hsk hu key fun H' x n => q H' _ x n
end
end My
namespace My
set_option autoImplicit false
open PySem PySem.Spec PySem.W PySem.Calls PyProof.Rows L2 Evl NdefX LamX
/-- what a list, or a dict by tuples, hands to whoever walks it -/
def SortSrc (K : PySem.W.Frag) (v : V) (H : Hp) (P : List V → Prop) : Prop := (∃ l xs, v = .ref l ∧ SqL K H l xs ∧ P xs) ∨
  ∃ d kvs, v = .ref d ∧ Rd H d (.dT kvs) ∧ ∀ as : List Addr, as.length = kvs.length → (∀ (i : Nat) (p : List Key × V), kvs[i]? = some p → ∃ a, as[i]? = some a ∧ H a = some (.tup (p.1.map kV))) → P (as.map V.ref)
theorem paired_get {α β : Type} {R : α → β → Prop} : ∀ {xs : List α} {ys : List β} {i : Nat} {x : α}, Paired R xs ys → xs[i]? = some x → ∃ y, ys[i]? = some y ∧ R x y
  | [], [], i, x, _, h => by simp at h
  | x :: _, y :: _, 0, z, .cons r _, h => by
    obtain rfl : x = z := Option.some.inj h
    exact ⟨y, rfl, r⟩
  | _ :: _, _ :: _, i + 1, z, .cons _ t, h => paired_get (i := i) t h
theorem paired_len {α β : Type} {R : α → β → Prop} : ∀ {xs : List α} {ys : List β}, Paired R xs ys → xs.length = ys.length
  | [], [], _ => rfl
  | _ :: _, _ :: _, .cons _ t => congrArg Nat.succ (paired_len t)
section
variable {X : Cx} {pins : List (Addr × Obj)} {σ : L2.St} {H : Hp} {s : Shared} {A : Around} {f : Addr} {fo : Obj} {E : Value → Shared → Prop}
theorem vals_refs : ∀ (as : List Addr), Vals (as.map V.ref) (as.map Value.ref)
  | [] => .nil
  | _ :: r => .cons rfl (vals_refs r)
/-- sorted(d, key=f) of a dict by tuples -/
theorem sorted_dict {d : Addr} {ks : List PyData} {as : List Addr} {Q : VK} (I : Inv X pins σ H s) (hf : (f, fo) ∈ pins) (hh : A.in1.handled = none) {o : Obj} {es : Array DictEntry} {ep : Nat} (lo : (d == sysModules) = false)
    (ho : s.heap.get? d = some o) (ex : o.ExactDict) (hd : o.data = .dict es ep) (hes : es.toList.map (·.key) = as.map Value.ref) (hz : as.length ≤ sizeLine)
    (hl : ks.length = as.length) (hal : AllAlike ks) (hsk : Sortable ks) (hu : ∀ d, d ∈ ks → A.units + 2 + d.depth < cLine)
    (key : ∀ (i : Nat) (x : V) (k : PyData), (as.map V.ref)[i]? = some x → ks[i]? = some k → KeyRun X σ A.in1.in1 f fo H x k)
    (q : ∀ H' a, Ex H H' → H' a = none → Q (.ref a) (upd H' a (.lst (byKey (as.map V.ref) ks)))) :
    wpAny (model X.prog X.w) A (call (.builtin "sorted") [.ref d] [(Str.ofString "key", .ref f)]) (EP X pins σ Q) E s := by
  have hsz : es.size = as.length := by
    have := congrArg List.length hes
    simpa using this
  refine call_function_entry_kw kind_sorted plain_sorted entry_sorted (ksk_s1 _ _) ?_
  unfold Builtin.«sorted»
  refine wpAny_bind (m := checkCount "sorted" 1 1 _) (wpAny_pure ?_)
  refine wpAny_bind (kdu_collect (A := A.in1) (KdlSrc.rawDict (es := es) (ep := ep) lo) hh ⟨o, ho, ex, hd⟩ (by omega) fun h1 tk acc hk hacc => ?_)
  have hA : acc.toList = as.map Value.ref := by
    apply List.ext_getElem?
    intro i
    by_cases hi : i < as.length
    · have hi2 : i < acc.size := by rw [hacc.1]; omega
      obtain ⟨hi3, e⟩ := hacc.2 i acc[i] (by rw [Array.getElem?_eq_getElem hi2])
      have e2 : (es.toList.map (·.key))[i]? = some es[i].key := by
        rw [List.getElem?_map, List.getElem?_eq_getElem (by simpa using hi3)]
        simp
      rw [← hes, e2, ← e]
      simp [hi2]
    · rw [List.getElem?_eq_none (by rw [Array.length_toList, hacc.1]; omega), List.getElem?_eq_none (by rw [List.length_map]; omega)]
  rw [hA]
  refine wpAny_bind (wpAny_newList ?_ (by rw [List.length_map]; exact hz))
  have I1 := I.kept (t' := tk) (h' := h1) hk
  have I2 := I1.kept (t' := tk) (h' := h1.push (seqObj "list" (as.map Value.ref).toArray 0)) (fun c o e => Heap.get?_push_of_some _ e)
  have at1 : (h1.push (seqObj "list" (as.map Value.ref).toArray 0)).get? h1.objs.size = some (seqObj "list" (as.map Value.ref).toArray 0) := Heap.get?_push_size _ rfl
  refine wpAny_bind (wpAny_holding (wpAny_call_entry_kw slot_list_sort ⟨_, at1, rfl⟩ entry_list_sort ?_ (ksk_l1 _ _)))
  rw [ksk_t1]
  refine wpAny_mono (tree_inv (A := A.in1.in1) (Q := Q) (E := E) I2 hf (Fre.of I1 (Nat.le_refl _)) (I1.hok.fresh (Nat.le_refl _)) at1 (vals_refs as) (by rw [List.length_map]; exact hl) (by rw [List.length_map]; exact hz) hal hsk hu key fun H' x n => q H' _ x n) (fun fin s1 hq => ?_) fun _ _ z => z
  obtain ⟨rfl, hq⟩ := hq
  exact ⟨_, rfl, wpAny_pure ⟨_, rfl, hq⟩⟩
end
/-- sorted(e, key=lambda a: body) -/
def tSortK (T : List (Addr × Str)) (K : PySem.W.Frag) (tl : TE) (N : List Str) (js : List Nat) (te : TE) : TE := fun σ H Q => te σ H fun v H1 => Tabs T H1 ∧ ∀ H2, ExtN H1 H2 → Tabs T H2 → SortSrc K v H2 fun xs =>
  ∃ ks, ks.length = xs.length ∧ AllAlike ks ∧ Sortable ks ∧ (∀ d, d ∈ ks → d.depth ≤ 50) ∧ (∀ (i : Nat) (x : V) (k : PyData), xs[i]? = some x → ks[i]? = some k → EvP tl (startF N [x] (js.map (slotAt σ))) H2 (IsD K k)) ∧
    ∀ H3 a, Ex H2 H3 → H3 a = none → Q (.ref a) (upd H3 a (.lst (byKey xs ks)))
theorem pe_sortK {X : Cx} {T : List (Addr × Str)} {te tl : TE} {e : Expr} {x0 : Str} {N fr : List Str} {js : List Nat} {c P : Addr} {params : Arguments} {body : Expr} {scope : Scope} {k : Nat} {p lpos kpos pos : Pos}
    (hg : Gl X "sorted") (hm : X.mg "sorted" = none) (he : PE X e te) (TB : TabB X.base X.mg c P) (hcode : X.env.code = .ref c) (hmT : (P, X.env.qual ++ "<lambda>") ∈ T) (hu : ∀ p ∈ T, p.1 = P → p.2 = X.env.qual ++ "<lambda>")
    (S : NScope N [x0] fr scope) (hfree : ∀ y ∈ scope.names, y.2 = .free → X.env.scope.names.lookup y.1 = some .cell ∨ X.env.scope.names.lookup y.1 = some .free) (hfr : ∀ y ∈ fr, (y, NameKind.free) ∈ scope.names) (hjs : js.map (fun j => X.N[j]?) = fr.map some)
    (hdef : defaultsOf params X.env = ([], [])) (hr : Room (k + 3) X.A)
    (hbind : ∀ (q : Str) (cl : List (Str × Addr)) (pm cv ctv u : Value), bindArgs (kla_fn "<lambda>" q params body scope cl pm cv ctv) ⟨[u], []⟩ = pure [(x0, u)])
    (hbody : ∀ (A : Around) (outer : List Env) (s0 : Shared) (H0 : Hp) (F : NF) (f : Addr), F.scope = scope → Room k (A.deeper (envF F f s0.heap.objs.size)) → PE (ncx C8.CX0 X.prog X.w X.K X.mg X.base N F f A outer s0 H0 C8.E0) body tl)
    (hs : starEach [e] X.env = (false, eval e X.env) :: starEach [] X.env := by rfl)
    (he1 : backTo pos (starEach [e] X.env) = (false, eval e X.env) :: backTo pos (starEach [] X.env) := by rfl) (hpl : (backTo pos (starEach [e] X.env)).any (·.1) = false := by rfl)
    (hall : (backToKw pos (keywordEach [⟨some "key", .Lambda params body scope lpos, kpos⟩] X.env)).all (·.1.isSome) = true := by rfl) (hnone : (backToKw pos (keywordEach [⟨some "key", .Lambda params body scope lpos, kpos⟩] X.env)).any (·.1.isNone) = false := by rfl)
    (hks : (backToKw pos (keywordEach [⟨some "key", .Lambda params body scope lpos, kpos⟩] X.env)).filterMap (·.1) = [Str.ofString "key"] := by rfl) :
    PE X (.Call (.Name "sorted" p) [e] [⟨some "key", .Lambda params body scope lpos, kpos⟩] pos) (tSortK T X.K tl N js te) := by
  refine ⟨fun pins s σ H Q I h => ?_⟩
  refine wpAny_Call_Name_kw (ld_blt I hg hm (u := .builtin "sorted") (by decide +kernel) ?_)
  refine PyProof.Rows.callWith_kw ?_ he1 hpl hall hnone
  rw [he1, hks]
  refine spliced_cons (thn (he.run pins s σ H _ I h) fun u s1 ⟨v, H1, I1, r1, q1⟩ => ?_)
  refine spliced_nil ?_
  obtain ⟨hT, q1⟩ := q1
  have hcl : ∀ y ∈ scope.names, y.2 = .free → ∃ c, X.env.cells.lookup y.1 = some c := fun y hy e => (hfree y hy e).elim (fun z => I.ok.has _ (.inl z)) fun z => I.ok.has _ (.inr z)
  show wpAny _ _ (evalAll [do let v ← eval (.Lambda params body scope lpos) X.env; standAt pos; pure v]) _ _ s1
  refine wpAny_evalAll_cons (wpAny_bind (lam_make2 I1 TB hcode hmT hu hT hdef hcl fun f c' pm ctv H2 s2 I2 eN T2 hf hfn hfs hco => wpAny_bind (wpAny_standAt (wpAny_pure (wpAny_evalAll_nil ?_)))))
  have nl : f ≠ X.env.locals := fun z => by
    obtain ⟨m, ⟨o, es, ep, ho, hd, _⟩, _⟩ := I2.loc
    rw [← z, hf] at ho
    rw [← Option.some.inj ho] at hd
    cases hd
  have nf : f ∉ X.fs := fun z => hfs (by
    rcases I.ok.stk with e | ⟨e, e2⟩
    · rw [e]
      exact z
    · rw [e]
      show f ∈ List.filterMap _ _
      rw [List.filterMap_cons, e2]
      exact List.mem_cons_of_mem _ z)
  obtain ⟨fo, hfo⟩ : ∃ fo : Obj, fo = kla_obj "<lambda>" (X.env.qual ++ "<lambda>") params body scope (cloFrom X.env.cells scope.names []) pm c' ctv := ⟨_, rfl⟩
  rw [← hfo] at hf
  have I3 : Inv X ((f, fo) :: pins) σ H2 s2 := I2.pins_of fun p hp => by
    rcases List.mem_cons.mp hp with rfl | hp
    · exact ⟨hf, hfn, nl, nf, fun v z => by rw [hfo] at z; cases z⟩
    · exact I2.pin p (List.mem_append_right _ hp)
  have key : ∀ (x : V) (kd : PyData), EvP tl (startF N [x] (js.map (slotAt σ))) H2 (IsD X.K kd) → KeyRun X σ X.A.in1.in1 f fo H2 x kd := fun x kd hev pins' s' H' u' E' I' hp eX r => by
    have hf' := (I'.pin _ (List.mem_append_right _ hp)).1
    rw [hfo] at hf'
    exact lam_call (F := ⟨"<lambda>", X.env.qual ++ "<lambda>", params, [], scope, cloFrom X.env.cells scope.names [], c'⟩) I' S I.ok.frames (show Room (k + 1) X.A.in1.in1 from hr.in1.in1) hf' (eX _ _ hco) (hbind _ _ _ _ _ _) (Caps.made I.ok hfree hfr hjs) r
      (fun s0 H0 hr' => hbody _ _ s0 H0 _ f rfl hr') (hev H' eX _ fun w B' H4 g pw => ⟨g.a, dp_m g.c pw⟩)
  have un := hr.un
  have dp : ∀ ks : List PyData, (∀ d, d ∈ ks → d.depth ≤ 50) → ∀ d, d ∈ ks → X.A.units + 2 + d.depth < cLine := fun ks h d hd => by
    have := h d hd
    omega
  have fin : ∀ {u : Value} {s' : Shared}, EP X ((f, fo) :: pins) σ Q u s' → EP X pins σ Q u s' := fun ⟨v, H', J, r, q⟩ => ⟨v, H', unpin J, r, q⟩
  rcases q1 H2 eN T2 with ⟨l, xs, rfl, hl, ks, a1, a2, a3, a4, a5, a6⟩ | ⟨d, kvs, rfl, hd, hq⟩
  · obtain rfl : u = Value.ref l := r1
    exact wpAny_mono (sorted_list (E := X.xe) I3 List.mem_cons_self hl a1 a2 a3 (dp ks a4) (fun i x kd e1 e2 => key x kd (a5 i x kd e1 e2)) fun H' a e n => a6 H' a e n) (fun _ _ z => fin z) fun _ _ z => z
  · obtain rfl : u = Value.ref d := r1
    have ok : ObjOk X.prog X.w H2 s2.heap d (.dT kvs) := by
      rcases hd with hd | ⟨o, hd⟩
      · exact I2.hok d _ hd
      · exact (I2.hok d _ hd).2
    obtain ⟨z, lo, xs, pr, o, es, ep, e1, e2, e3, e4, e5⟩ := ok
    have hlen := paired_len pr
    obtain ⟨ks, a1, a2, a3, a4, a5, a6⟩ := hq (xs.map (·.2.1)) (by rw [List.length_map]; exact hlen.symm) fun i p hp => by
      obtain ⟨y, hy, r⟩ := paired_get pr hp
      exact ⟨y.2.1, by rw [List.getElem?_map, hy]; rfl, by rw [← r.1] at *; exact r.2.1⟩
    exact wpAny_mono (sorted_dict (E := X.xe) I3 List.mem_cons_self (show X.A.in1.handled = none from hr.hd) lo e1 e2 e3 (as := xs.map (·.2.1)) (by rw [e4, List.map_map, List.map_map]; rfl) (by rw [List.length_map]; omega) (by rw [a1, List.length_map]) a2 a3 (dp ks a4) (fun i x kd e1 e2 => key x kd (a5 i x kd e1 e2)) fun H' a e n => a6 H' a e n) (fun _ _ z => fin z) fun _ _ z => z
end My
/-! own exceptions as values: made with an __init__ of their own, their fields read, their classes asked -/
namespace XV
open PySem PySem.W PySem.Calls PyProof.Rows Builtin Builtin.ObjectAttr
section
variable {prog : Program} {w : World} {A : Around} {E : Value → Shared → Prop} {R : Result → Shared → Prop} {hp : Heap} {g : Array GenState} {d : Drawn} {t : Nat} {os : OsState}
variable {K : Frag} {name : Str} {tk : Tok} {v : Value} {x C dx : Addr} {fv : Array Value} {cd : ClassData} {B : String} {bmB : List Value} {m0 : Str → Option Value} {nl : List Str}
theorem mro_obj (hm : excTail bmB cd.mro = true) (hbo : bmB.contains (.type "object") = true) : cd.mro.contains (.type "object") = true :=
  Eq.trans (excTail_contains "object" _ hm) hbo
theorem mro_some {l : List Value} (h : l.contains (.type "object") = true) : l.isEmpty = false := by
  cases l with
  | nil => cases h
  | cons _ _ => rfl
/-- the first field that is set -/
theorem setFirst (SF : StoreFacts B bmB "object.__setattr__" "object") (hbo : bmB.contains (.type "object") = true) (XK : K.In hp)
    (hx : hp.get? x = some { cls := .ref C, data := .fields fv }) (hc : clsIn K C = some cd) (hm : excTail bmB cd.mro = true) (hh : cd.hasDict = true) (hn : findIn K (.ref C) name = some none)
    (hq : ∀ h' tk' dx, (∀ b o, b ≠ x → hp.get? b = some o → h'.get? b = some o) → hp.objs.size ≤ dx → dx ≠ x →
      h'.get? x = some { cls := .ref C, dict := some dx, data := .fields fv } → h'.Ns1 dx (fun y => if y = name then some v else none) → R (.ok (.ret .none)) ⟨h', g, d, tk', os⟩) :
    codeAny (model prog w) A (.call (.builtin "object.__setattr__") ⟨[.ref x, .str name tk, v], []⟩) R ⟨hp, g, d, t, os⟩ := by
  have inst : InstAt hp x { cls := .ref C, data := .fields fv } C none := ⟨hx, rfl, rfl, trivial⟩
  have SO := F.store_object
  have hob := mro_obj hm hbo
  have hne := mro_some hob
  have hxs : x ≠ hp.objs.size := Nat.ne_of_lt (Heap.lt_size hx)
  have isO : Looks (model prog w) hp (isInstance (.ref x) (.type "object")) true :=
    inst.type.andThen (looks_mroIn XK (by unfold mroIn; rw [hc, Option.bind_some, if_neg (by rw [hne]; decide), hob]))
  refine codeAny_call_builtin SO.slot.plain SO.entry
    (@check_slot (model prog w) _ _ ⟨hp, g, d, t, os⟩ "object.__setattr__" "object" "__setattr__" (.ref x) [.str name tk, v] [] _ SO.kind SO.split isO
      (SO.args (.ref x) (.str name tk) v) ?_)
  have seesMro : Looks (model prog w) hp (mroOf (.ref C)) cd.mro := (looks_clsIn XK hc).andThen .now
  have noTaker : Looks (model prog w) hp (storeTaker? none) none := .now
  have seesCls : Looks (model prog w) hp (classData C) cd := looks_clsIn XK hc
  rw [osa_eq, refuse_eq]
  refine wpAny_bind (wpAny_bind (inst.type.at (wpAny_bind (seesMro.at ?_))))
  rw [excTail_pass (.ref x) (SF.passes _) _ hm]
  refine wpAny_pure (wpAny_bind (inst.type.at
    (wpAny_bind ((looks_findIn XK hn).at (wpAny_bind (noTaker.at ?_))))))
  show wpAny _ _ (storeInOwnDict (.ref x) (.ref C) (.str name tk) name v false) _ _ _
  obtain ⟨_, _, _, _, _, hd, _, _, _, _, _⟩ := cd
  dsimp only at hh
  subst hh
  unfold storeInOwnDict ownDictForStores
  repeat (first
    | with_reducible refine HandSPX.store_in_new ?_ ?_
    | with_reducible refine wpAny_loadPart_at hx ?_
    | with_reducible refine seesCls.at ?_
    | wp_step)
  · exact ⟨_, #[], _, Eq.trans (Heap.get?_update_ne _ _ _ _ hxs.symm) (Heap.get?_push_at rfl rfl), rfl, fun e he => absurd he (by simp), fun _ => rfl⟩
  · intro h' tk' hn' hs
    have hx1 : (hp.push { cls := .type "dict", data := .dict #[] }).get? x = some { cls := .ref C, data := .fields fv } := Heap.get?_push_of_some _ hx
    exact hq h' tk' hp.objs.size
      (fun b o hb ho => Eq.trans (hs.2 b (Nat.ne_of_lt (Heap.lt_size ho))) (Eq.trans (Heap.get?_update_ne _ _ _ _ hb) (Heap.get?_push_of_some _ ho)))
      (Nat.le_refl _) hxs.symm (Eq.trans (hs.2 x hxs) (Heap.get?_update_self _ hx1 rfl)) hn'
/-- a further field -/
theorem setMore (SF : StoreFacts B bmB "object.__setattr__" "object") (hbo : bmB.contains (.type "object") = true) (XK : K.In hp)
    (hx : hp.get? x = some { cls := .ref C, dict := some dx, data := .fields fv }) (hns : hp.Ns1 dx m0) (hw : Within m0 nl) (hz : nl.length ≤ 1000)
    (hc : clsIn K C = some cd) (hm : excTail bmB cd.mro = true) (hh : cd.hasDict = true) (hn : findIn K (.ref C) name = some none)
    (hq : ∀ h' tk', (∀ b o, b ≠ dx → hp.get? b = some o → h'.get? b = some o) →
      h'.Ns1 dx (fun y => if y = name then some v else m0 y) → R (.ok (.ret .none)) ⟨h', g, d, tk', os⟩) :
    codeAny (model prog w) A (.call (.builtin "object.__setattr__") ⟨[.ref x, .str name tk, v], []⟩) R ⟨hp, g, d, t, os⟩ := by
  obtain ⟨oD, _, _, hoD, _, _⟩ := hns.count hw
  have inst : InstAt hp x { cls := .ref C, dict := some dx, data := .fields fv } C (some oD) := ⟨hx, rfl, rfl, hoD⟩
  have SO := F.store_object
  have hob := mro_obj hm hbo
  have hne := mro_some hob
  have isO : Looks (model prog w) hp (isInstance (.ref x) (.type "object")) true :=
    inst.type.andThen (looks_mroIn XK (by unfold mroIn; rw [hc, Option.bind_some, if_neg (by rw [hne]; decide), hob]))
  refine codeAny_call_builtin SO.slot.plain SO.entry
    (@check_slot (model prog w) _ _ ⟨hp, g, d, t, os⟩ "object.__setattr__" "object" "__setattr__" (.ref x) [.str name tk, v] [] _ SO.kind SO.split isO
      (SO.args (.ref x) (.str name tk) v) ?_)
  have seesMro : Looks (model prog w) hp (mroOf (.ref C)) cd.mro := (looks_clsIn XK hc).andThen .now
  have noTaker : Looks (model prog w) hp (storeTaker? none) none := .now
  have seesCls : Looks (model prog w) hp (classData C) cd := looks_clsIn XK hc
  rw [osa_eq, refuse_eq]
  refine wpAny_bind (wpAny_bind (inst.type.at (wpAny_bind (seesMro.at ?_))))
  rw [excTail_pass (.ref x) (SF.passes _) _ hm]
  refine wpAny_pure (wpAny_bind (inst.type.at
    (wpAny_bind ((looks_findIn XK hn).at (wpAny_bind (noTaker.at ?_))))))
  show wpAny _ _ (storeInOwnDict (.ref x) (.ref C) (.str name tk) name v false) _ _ _
  obtain ⟨_, _, _, _, _, hd, _, _, _, _, _⟩ := cd
  dsimp only at hh
  subst hh
  unfold storeInOwnDict ownDictForStores
  repeat (first
    | with_reducible refine OEX.store_in_old hns hw hz ?_
    | with_reducible refine wpAny_loadPart_at hx ?_
    | with_reducible refine seesCls.at ?_
    | wp_step)
  intro h' tk' hn' hs
  exact hq h' tk' (fun b o hb ho => Eq.trans (hs.2 b hb) ho) hn'
end
end XV
namespace L2
open PySem PySem.Spec PyProof.Rows
/-- an exception at a, raised and caught: its class and its dict are known -/
def exw (a C : Addr) (d : Option Addr) : HO := .ext fun h => ∃ (o : Obj) (vs : Array Value), h.get? a = some o ∧ Zc (.ref C) d o ∧ o.data = .fields vs
theorem exw_ok {P : Program} {w : World} {H : Hp} {h : Heap} {a C : Addr} {d : Option Addr} {o : Obj} {vs : Array Value} (e : h.get? a = some o) (z : Zc (.ref C) d o) (f : o.data = .fields vs) : ObjOk P w H h a (exw a C d) :=
  ⟨⟨o, vs, e, z, f⟩, ⟨o, e⟩, fun _ _ ⟨o, v, q, r⟩ k => ⟨o, v, k o q, r⟩⟩
theorem exw_at {P : Program} {w : World} {H : Hp} {h : Heap} {a C : Addr} {d : Option Addr} (hok : HOk P w H h) (e : H a = some (exw a C d)) : ∃ (o : Obj) (vs : Array Value), h.get? a = some o ∧ o.cls = .ref C ∧ o.dict = d ∧ o.data = .fields vs := by
  have x : ObjOk P w H h a (.ext fun h => ∃ (o : Obj) (vs : Array Value), h.get? a = some o ∧ Zc (.ref C) d o ∧ o.data = .fields vs) := hok a _ e
  obtain ⟨o, vs, h1, h2, h3⟩ := x.1
  exact ⟨o, vs, h1, h2.1, h2.2, h3⟩
theorem ex_any {P : Program} {w : World} {H : Hp} {h : Heap} {a C : Addr} {d : Option Addr} (hok : HOk P w H h) (e : H a = some (exo a C d) ∨ H a = some (exw a C d)) : ∃ (o : Obj) (vs : Array Value), h.get? a = some o ∧ o.cls = .ref C ∧ o.dict = d ∧ o.data = .fields vs := by
  rcases e with e | e
  · obtain ⟨t1, ho⟩ := exo_at hok e
    exact ⟨_, _, ho, rfl, rfl, rfl⟩
  · exact exw_at hok e
/-- what the written part says of an own exception class at C, over the built-in B -/
structure XC (K : PySem.W.Frag) (C : Addr) (bmB : List Value) (newId : String) : Prop where
  q : PySem.W.excInitIn K C bmB newId = true
  hd : PySem.W.hasDictIn K C = true
  sa : PySem.W.findIn K (.ref C) "__setattr__" = some (some (.builtin "object.__setattr__"))
  ga : PySem.W.findIn K (.ref C) "__getattribute__" = some (some (.builtin "BaseException.__getattribute__"))
  gt : PySem.W.findIn K (.ref C) "__getattr__" = some none
  ex : PySem.W.subIn K (.ref C) (.type "BaseException") = some true
  ca : PySem.W.findIn K (.ref C) "__class__" = some (some (.builtin "object.__class__"))
  cn : PySem.W.specialIn K (.builtin "object.__class__") "__get__" = some (some (.builtin "getset_descriptor.__get__"))
  ct : PySem.W.takesIn K (.builtin "object.__class__") = some true
  cm : PySem.W.mroIn K C (.type "object") = some true
  kC : PySem.W.keepIn K (.ref C) = true
/-- what is known of the built-in below -/
structure XB (B : String) (bmB : List Value) (newId initId : String) : Prop where
  base : ExcBaseFacts B newId initId bmB
  store : StoreFacts B bmB "object.__setattr__" "object"
  obj : bmB.contains (.type "object") = true
theorem xbV : XB "ValueError" [.type "ValueError", .type "Exception", .type "BaseException", .type "object"] "ValueError.__new__" "ValueError.__init__" := ⟨F.excBase_ValueError, F.store_ValueError, by decide +kernel⟩
theorem XC.cls {K : PySem.W.Frag} {C : Addr} {bmB : List Value} {newId : String} (T : XC K C bmB newId) : ∃ cd, PySem.W.clsIn K C = some cd ∧ PySem.W.excTail bmB cd.mro = true ∧ cd.hasDict = true := by
  obtain ⟨cd, hc, hh⟩ := PySem.W.any_some T.hd
  refine ⟨cd, hc, ?_, hh⟩
  have q := T.q
  unfold PySem.W.excInitIn at q
  unfold PySem.W.clsIn at hc
  split at q
  · rename_i ho
    rw [ho] at hc
    cases hc
    split at q
    · rename_i hm _
      simp only [Bool.and_eq_true] at q
      rw [hm]
      exact q.2
    · cases q
  · cases q
end L2
namespace L2
open PySem PySem.Spec PyProof.Rows
section
variable {X : Cx} {pins : List (Addr × Obj)} {σ : St} {H : Hp} {s : Shared} {a C dx : Addr} {f : Str} {y : V} {u : Value} {fs : List (Str × V)} {E : Value → Shared → Prop} {A : Around}
variable {B newId initId : String} {bmB : List Value}
theorem xset1 {Q : Unit → Shared → Prop} (T : XC X.K C bmB newId) (Y : XB B bmB newId initId) (I : Inv X pins σ H s) (e : H a = some (exo a C none)) (hno : PySem.W.findIn X.K (.ref C) f = some none) (ry : RelV y u)
    (h : ∀ dx s', H dx = none → dx ≠ a → Inv X pins σ (upd (upd H dx (exd dx [(f, y)])) a (exo a C (some dx))) s' → Q () s') :
    wpAny (model X.prog X.w) A (setAttr (.ref a) f u) Q E s := by
  obtain ⟨cd, hcl, hmr, hh⟩ := T.cls
  obtain ⟨t1, ho⟩ := exo_at I.hok e
  obtain ⟨hp, g, d, t, os⟩ := s
  refine PySem.W.set_plain I.kIn (od := none) ⟨ho, rfl, rfl, trivial⟩ T.sa ?_
  refine XV.setFirst Y.store Y.obj I.kIn ho hcl hmr hh hno (fun h' tk' dx k dn dne hx hn => ?_)
  have hnd : H dx = none := I.hok.fresh dn
  have far : ∀ {b : Addr} {o : Obj}, hp.get? b = some o → b ≠ dx := fun {b o} q => Nat.ne_of_lt (Nat.lt_of_lt_of_le (Heap.lt_size q) dn)
  have na : ∀ {b : Addr}, H b = none → b ≠ a := fun {b} n z => by
    rw [z, e] at n
    exact nomatch n
  have U : Un X.fs [] H (upd (upd H dx (exd dx [(f, y)])) a (exo a C (some dx))) hp h' := {
    keep := fun b o q n _ _ => k b o (na n) q
    slot := fun b o q n _ _ => ⟨o.slots, k b o (na n) q⟩
    free := fun b o q n _ => Eq.trans (upd_ne (na n)) (Eq.trans (upd_ne (far q)) n)
    there := fun b o q _ => by
      rcases Nat.decEq b a with hb | hb
      · exact ⟨o, k b o hb q⟩
      · exact ⟨_, Eq.trans (congrArg h'.get? hb) hx⟩
    tups := fun b xs q => Eq.trans (upd_ne (at_ne e q exo_tup)) (Eq.trans (upd_ne (ne_of_none q hnd)) q)
    frzs := fun b o v q => Eq.trans (upd_ne (at_ne e q exo_frz)) (Eq.trans (upd_ne (ne_of_none q hnd)) q)
    tbls := fun b ps q => ⟨#[], Eq.trans (upd_ne (at_ne e q exo_tbl)) (Eq.trans (upd_ne (ne_of_none q hnd)) (by rw [q]; simp))⟩ }
  refine h dx _ hnd dne (I.un (t' := tk') U fun b o q => ?_)
  rcases Nat.decEq b a with hb | hb
  · rw [upd_ne hb] at q
    rcases Nat.decEq b dx with hd | hd
    · rw [upd_ne hd] at q
      refine (I.hok b o q).stay (fun c v hc z => k c v ?_ z) (fun c hc => ?_) (fun c xs hc => ?_)
      · rcases hc with hc | hc
        · exact hc ▸ hb
        · exact at_ne e hc exo_own
      · exact Eq.trans (upd_ne (at_ne e hc exo_own)) (Eq.trans (upd_ne (ne_of_none hc hnd)) hc)
      · exact Eq.trans (upd_ne (at_ne e hc exo_tup)) (Eq.trans (upd_ne (ne_of_none hc hnd)) hc)
    · subst hd
      rw [upd_same] at q
      cases q
      exact exd_ok hn (relO_put (fs := []) ry fun _ => trivial)
  · subst hb
    rw [upd_same] at q
    cases q
    exact exo_ok hx
theorem xset2 {Q : Unit → Shared → Prop} (T : XC X.K C bmB newId) (Y : XB B bmB newId initId) (I : Inv X pins σ H s) (e : H a = some (exo a C (some dx))) (ed : H dx = some (exd dx fs)) (hl : fs.length ≤ 900)
    (hno : PySem.W.findIn X.K (.ref C) f = some none) (ry : RelV y u) (h : ∀ s', Inv X pins σ (upd H dx (exd dx ((f, y) :: fs))) s' → Q () s') :
    wpAny (model X.prog X.w) A (setAttr (.ref a) f u) Q E s := by
  obtain ⟨cd, hcl, hmr, hh⟩ := T.cls
  obtain ⟨t1, ho⟩ := exo_at I.hok e
  obtain ⟨mA, hns, rel⟩ := exd_at I.hok ed
  obtain ⟨hp, g, d, t, os⟩ := s
  have hw := within_of rel
  obtain ⟨oD, _, _, hoD, _, _⟩ := hns.count hw
  refine PySem.W.set_plain I.kIn (od := some oD) ⟨ho, rfl, rfl, hoD⟩ T.sa ?_
  refine XV.setMore Y.store Y.obj I.kIn ho hns hw (by rw [List.length_map]; omega) hcl hmr hh hno (fun h' tk' k hn => ?_)
  obtain ⟨o1, _, _, e1, _⟩ := id hn
  exact h _ (I.write (t' := tk') (x := dx) (e := dx) (o := exd dx ((f, y) :: fs)) (by rw [ed]; trivial) (.inl rfl) k ⟨o1, e1⟩ (exd_ok hn (relO_put ry rel)))
/-- the built-in's __init__ of an exception that is being made: nothing of it is told -/
theorem xinit {us : List Value} {Q : Value → Shared → Prop} (T : XC X.K C bmB newId) (Y : XB B bmB newId initId) (I : Inv X pins σ H s) (e : H a = some (exo a C none)) (hl : us.length ≤ sizeLine)
    (h : ∀ s', Inv X pins σ H s' → Q .none s') : wpAny (model X.prog X.w) A (call (.builtin initId) (.ref a :: us)) Q E s := by
  obtain ⟨nm, N, qn, bs, bm, hdct, sn, sub, ab, col, dd, k0, k1, k2, k3, k5, hC, hbm⟩ := PySem.W.excInit_of I.kIn T.q
  obtain ⟨t1, ho⟩ := exo_at I.hok e
  obtain ⟨hp, g, d, t, os⟩ := s
  refine wpAny_call (PySem.HandSPX.init_base Y.base hbm hC ho hl fun h' t2 k hx => ?_)
  have J := I.write (t' := t) (x := a) (e := a) (o := exo a C none) (by rw [e]; trivial) (.inl rfl) k ⟨_, hx⟩ (exo_ok hx)
  have eu : upd H a (exo a C none) = H := funext fun b => by
    rcases Nat.decEq b a with hb | hb
    · exact upd_ne hb
    · subst hb
      exact Eq.trans upd_same e.symm
  rw [eu] at J
  exact h _ J
end
/-- D.__init__(self, ..), D an own class below which stands the built-in with that __init__ -/
def tXInit (K : PySem.W.Frag) (bmB : List Value) (newId : String) (ta : TA) : TE := fun σ H Q => ta σ H fun vs H1 => ∃ (a C : Addr) (ws : List V), vs = .ref a :: ws ∧ ws.length ≤ 1000 ∧ XC K C bmB newId ∧ H1 a = some (exo a C none) ∧ Q .non H1
/-- self.f = e -/
def tXSet (K : PySem.W.Frag) (bmB : List Value) (newId : String) (f : Str) (to te : TE) : TS := fun D σ H => te σ H fun y H1 => to σ H1 fun x H2 => ∃ a C : Addr, x = .ref a ∧ XC K C bmB newId ∧ PySem.W.findIn K (.ref C) f = some none ∧
  ((H2 a = some (exo a C none) ∧ ∀ dx, H2 dx = none → dx ≠ a → D.nx σ (upd (upd H2 dx (exd dx [(f, y)])) a (exo a C (some dx)))) ∨
    ∃ (dx : Addr) (fs : List (Str × V)), H2 a = some (exo a C (some dx)) ∧ H2 dx = some (exd dx fs) ∧ fs.length ≤ 900 ∧ D.nx σ (upd H2 dx (exd dx ((f, y) :: fs))))
/-- e.f of such a value -/
def tXAt (K : PySem.W.Frag) (bmB : List Value) (newId : String) (f : Str) (te : TE) : TE := fun σ H Q => te σ H fun x H1 => ∃ (a C dx : Addr) (fs : List (Str × V)) (v : V), x = .ref a ∧ XC K C bmB newId ∧ PySem.W.findIn K (.ref C) f = some none ∧
  (H1 a = some (exo a C (some dx)) ∨ H1 a = some (exw a C (some dx))) ∧ H1 dx = some (exd dx fs) ∧ fs.lookup f = some v ∧ Q v H1
/-- isinstance(e, c) of such a value -/
def rXIs (K : PySem.W.Frag) : List V → Hp → VK → Prop := fun xs H Q => ∃ (a C : Addr) (bmB : List Value) (newId : String) (c : V) (cv : Value) (b : Bool), xs = [.ref a, c] ∧ XC K C bmB newId ∧
  (∃ d, (H a = some (exo a C d) ∨ H a = some (exw a C d)) ∧ (d = none ∨ ∃ dx fs, d = some dx ∧ H dx = some (exd dx fs))) ∧ (∀ u, RelV c u → u = cv) ∧ PySem.W.kitOne K (.ref C) cv = some b ∧ Q (.bl b) H
section
variable {X : Cx} {o e : Expr} {es : List Expr} {to te : TE} {ta : TA} {f x : Str} {p p' p1 p2 pos : Pos} {B newId initId : String} {bmB : List Value} {D C : Addr}
theorem pe_xinit {pl : Sem Bool} (Y : XB B bmB newId initId) (hg : Gl X x) (hm : X.mg x = some (.ref D)) (sD : PySem.W.specialIn X.K (.ref D) "__getattribute__" = some (some (.builtin "type.__getattribute__")))
    (rD : PySem.W.readsIn X.K D (.type "type") = true) (fD : PySem.W.findCls X.K (.ref D) (.type "type") "__init__" = some (.val (.builtin initId))) (hh : PySem.W.handedIn (.builtin initId) = true) (ha : PA X (e :: es) ta)
    (hc : eval (.Call (.Attribute (.Name x p1) "__init__" p2) (e :: es) [] pos) X.env = (do
      let ov ← eval (.Name x p1) X.env
      standAt p2.atName
      let (f, first) ← holding [ov] (getMethod ov "__init__" pl)
      callWith pos f first (backTo pos (starEach (e :: es) X.env)) (backToKw pos (keywordEach [] X.env))) := by rfl)
    (he : starEach (e :: es) X.env = (false, eval e X.env) :: starEach es X.env := by rfl) (hpl : (backTo pos (starEach es X.env)).any (·.1) = false := by rfl) (hd : (x == ("__debug__" : Str)) = false := by decide) :
    PE X (.Call (.Attribute (.Name x p1) "__init__" p2) (e :: es) [] pos) (tXInit X.K bmB newId ta) := by
  refine ⟨fun pins s σ H Q I h => ?_⟩
  refine PySem.W.methodCall_KW (ld_glob I hg hm ?_ hd) hc
  refine PySem.W.method_cls I.kIn sD (PySem.W.cls_value I.kIn rD fD hh ?_)
  show wpAny _ _ (callWith pos (Value.builtin initId) [] (backTo pos (starEach (e :: es) X.env)) []) _ _ _
  refine PyProof.Rows.callWith_method1 (thn (ha.run pos pins _ σ H _ (I.tok _) h) fun us s1 hh1 => ?_) he hpl
  obtain ⟨vs, H1, I1, r1, a, C, ws, ev, hl, T, ea, q⟩ := hh1
  subst ev
  cases r1 with
  | @cons _ u0 _ ur ra rw' =>
    obtain rfl : u0 = Value.ref a := ra
    have hlen : ur.length ≤ sizeLine := by
      have := Paired.length rw'
      rw [sizeLine_eq]
      omega
    exact xinit T Y I1 ea hlen fun s' J => ⟨.non, H1, J, rfl, q⟩
theorem ps_xset (Y : XB B bmB newId initId) (ho : PE X o to) (he : PE X e te) (hs : swapsWith e (some (.Attribute o f p')) pos.line X.env = pure false := by rfl) : PS X (.Assign [.Attribute o f p'] e pos) (tXSet X.K bmB newId f to te) := by
  refine ⟨fun pins s σ H D I h => ?_⟩
  refine plainObj_wpAny_Assign_Attribute (thn (he.run pins s σ H _ I h) fun v s1 h1 => ?_) hs
  obtain ⟨y, H1, I1, r1, q1⟩ := h1
  refine thn (ho.run pins s1 σ H1 _ I1 q1) fun u s2 h2 => ?_
  obtain ⟨x, H2, I2, r2, a, C, ex, T, hno, q⟩ := h2
  subst ex
  obtain rfl : u = Value.ref a := r2
  rcases q with ⟨ea, q⟩ | ⟨dx, fs, ea, ed, hl, q⟩
  · exact xset1 T Y I2 ea hno r1 fun dx s' n ne J => ⟨σ, _, J, q dx n ne⟩
  · exact xset2 T Y I2 ea ed hl hno r1 fun s' J => ⟨σ, _, J, q⟩
theorem pe_xat (he : PE X e te) (hb : attributeBase e f X.env (eval e X.env) = eval e X.env := by rfl) : PE X (.Attribute e f pos) (tXAt X.K bmB newId f te) := by
  refine ⟨fun pins s σ H Q I h => ?_⟩
  refine attr_of hb (thn (he.run pins s σ H _ I h) fun u s1 hh => ?_)
  obtain ⟨x, H1, I1, rx, a, C, dx, fs, v, ex, T, hno, ea, ed, hl, q⟩ := hh
  subst ex
  obtain rfl : u = Value.ref a := rx
  obtain ⟨⟨oc, odd, odt, osl⟩, vs0, ho, hc0, hd0, hf0⟩ := ex_any I1.hok ea
  dsimp only at hc0 hd0 hf0
  subst hc0 hd0 hf0
  obtain ⟨mA, hns, rel⟩ := exd_at I1.hok ed
  obtain ⟨od, hod, look⟩ := lookIn_ns hns
  obtain ⟨z, hz, rz⟩ := RelO.some_of (v := v) (o := mA f) (by have := rel f; rw [hl] at this; exact this)
  have J : PySem.W.InstAt s1.heap a _ C (some od) := ⟨ho, rfl, rfl, hod⟩
  exact HandSPX.exc_get I1.kIn J T.ga T.gt T.ex (PySem.W.findObj_own T.hd hno rfl (by rw [look, hz])) (handed_of rz) ⟨v, H1, I1.tok _, rz, q⟩
theorem call_xis : CallR X (.builtin "isinstance") (rXIs X.K) := by
  intro pins s σ H xs us Q I r h
  obtain ⟨a, C, bmB, newId, c, cv, b, rfl, T, hx, hcv, e, q⟩ := h
  cases r with
  | cons rx rr =>
    cases rr with
    | cons rt rr =>
      cases rr
      cases rx
      have ec := hcv _ rt
      subst ec
      have hcl : (PySem.W.clsIn X.K C).isSome = true := by
        obtain ⟨cd, hc, _⟩ := T.cls
        rw [hc]; rfl
      obtain ⟨d, hx, hd⟩ := hx
      obtain ⟨⟨oc, odd, odt, osl⟩, vs0, ho, hc0, hd0, hf0⟩ := ex_any I.hok hx
      dsimp only at hc0 hd0 hf0
      subst hc0 hd0 hf0
      rcases hd with rfl | ⟨dx, fs, rfl, hdx⟩
      · have J : PySem.W.InstAt s.heap a _ C none := ⟨ho, rfl, rfl, trivial⟩
        exact PySem.W.kia_one (PySem.W.kitx_exc hcl T.ga T.gt T.ex T.ca T.cn T.ct T.cm) I.kIn J e (fun z => nomatch z) fun tk => ⟨.bl b, H, I.kept (t' := tk) fun _ _ z => z, rfl, q⟩
      · obtain ⟨mA, hns, rel⟩ := exd_at I.hok hdx
        obtain ⟨od, hod, look⟩ := lookIn_ns hns
        have J : PySem.W.InstAt s.heap a _ C (some od) := ⟨ho, rfl, rfl, hod⟩
        exact PySem.W.kia_one (PySem.W.kitx_exc hcl T.ga T.gt T.ex T.ca T.cn T.ct T.cm) I.kIn J e (fun z => nomatch z) fun tk => ⟨.bl b, H, I.kept (t' := tk) fun _ _ z => z, rfl, q⟩
end
end L2
namespace XV
open PySem PySem.W PySem.Calls PyProof.Rows Builtin Builtin.ObjectAttr HandSPX
section
variable {prog : Program} {w : World} {A : Around} {E : Value → Shared → Prop} {R : Result → Shared → Prop} {h : Heap} {g : Array GenState} {d : Drawn} {t : Nat} {os : OsState}
variable {nm q : Str} {C N : Addr} {bs bm bmB : List Value} {hdct : Bool} {sn : List Str} {sub : List Value} {ab : Bool} {col : Option Bool} {dd : Option Addr} {k0 k1 k2 k3 k5 : Option Value} {B newId initId : String} {kw : List (Str × Value)} {rest : List Value}
theorem newLook {M : Model} {Q : Unit → Shared → Prop} (F : ExcBaseFacts B newId initId bmB) (hT : ∀ X : String, bm.contains (.type X) = bmB.contains (.type X))
    (hC : h.get? C = some (excClassObj nm q C N bs bm hdct sn sub ab col dd k0 k1 k2 k3 k5 newId)) (hq : Q () ⟨h, g, d, t, os⟩) :
    wpAny M A (checkBuiltinCall newId ⟨.ref C :: rest, kw⟩) Q E ⟨h, g, d, t, os⟩ := by
  have hB : (Value.ref C :: bm).contains (.type B) = true := by rw [List.contains_cons, hT, F.hasB, Bool.or_true]
  have star := F.noStar
  simp only [checkBuiltinCall, F.newKind, F.newSplit, F.newRow]
  repeat (first
    | refine wpAny_loadPart_at hC ?_
    | (refine wpAny_isSubtype_exc hC ?_; rw [hB])
    | refine wpAny_staticBase_exc hC ?_
    | refine wpAny_madeBy_exc hC ?_
    | simp only [bne_self_eq_false, Bool.false_eq_true, if_false]
    | wp_step)
  exact hq
theorem newRun (F : ExcBaseFacts B newId initId bmB) (hT : ∀ X : String, bm.contains (.type X) = bmB.contains (.type X))
    (hC : h.get? C = some (excClassObj nm q C N bs bm hdct sn sub ab col dd k0 k1 k2 k3 k5 newId))
    (hq : R (.ok (.ret (.ref (h.objs.size + 1)))) ⟨(h.push { cls := .type "tuple", data := .seq rest.toArray }).push
      { cls := .ref C, data := .fields #[.ref h.objs.size, .none, .none, .none, .bool false, .none] }, g, d, t, os⟩) (hrest : rest.length ≤ sizeLine) :
    codeAny (model prog w) A (.builtin newId ⟨.ref C :: rest, kw⟩) R ⟨h, g, d, t, os⟩ := by
  have ends := F.ends
  have hB : (Value.ref C :: bm).contains (.type B) = true := by rw [List.contains_cons, hT, F.hasB, Bool.or_true]
  have hA : (Value.ref C :: bm).contains (.type "AttributeError") = false := by rw [List.contains_cons, hT, F.noAttr]; rfl
  have hN : (Value.ref C :: bm).contains (.type "NameError") = false := by rw [List.contains_cons, hT, F.noName]; rfl
  refine codeAny_builtinAt F.entry ?_
  unfold Builtin.«BaseException.__new__»
  refine PySem.wpAt_bind ?_
  show PySem.wpAt _ _ _ (stack >>= _) _ _ _
  refine PySem.wpAt_bind (PySem.wpAt_stack fun p below => PySem.wpAt_of_wpAny ?_)
  wp_walk
  refine PySem.wpAt_of_wpAny ?_
  rw [F.owner]
  repeat (first
    | with_reducible refine wpAny_madeHere_exc F.canon hC ?_
    | with_reducible refine wpAny_loadPart_at hC ?_
    | (with_reducible refine wpAny_isSubtype_exc hC ?_; first | rw [hB] | rw [hA] | rw [hN])
    | wp_step)
  show R _ _
  rw [Heap.size_push]
  exact hq
theorem typeCall (F : ExcBaseFacts B newId initId bmB) (hT : ∀ X : String, bm.contains (.type X) = bmB.contains (.type X)) {fI : Addr} {Q : Fin → Shared → Prop}
    (hC : h.get? C = some (excClassObj nm q C N bs bm hdct sn sub ab col dd k0 k1 k2 k3 k5 newId))
    (hi : Looks (model prog w) h (typeLookup (.ref C) "__init__") (some (.ref fI))) (hb : ∀ self, Looks (model prog w) h (bindSpecial (.ref fI) self) (.ref fI, [self])) (hrest : rest.length ≤ sizeLine)
    (hq : codeAny (model prog w) A (.call (.ref fI) ⟨.ref (h.objs.size + 1) :: rest, kw⟩)
      (fun r s' => match r with
        | .ok (.ret v) => v = .none ∧ Q (.done (.ret (.ref (h.objs.size + 1)))) s'
        | .ok _ => False
        | .error e => E e s')
      ⟨(h.push (kdv_tup rest)).push (excO C h.objs.size), g, d, t, os⟩) :
    wpAny (model prog w) A (Builtin.«type.__call__» ⟨.ref C :: rest, kw⟩) Q E ⟨h, g, d, t, os⟩ := by
  repeat (first
    | with_reducible refine wpAny_loadPart_at hC ?_
    | with_reducible refine wpAny_madeBy_exc hC ?_
    | wp_step)
  refine codeAny_call_builtin_code (Code.quiet_builtin _ F.quiet) (newLook F hT hC ?_)
  refine newRun F hT hC ?_ hrest
  show wpAny _ _ _ _ _ _
  have k : ∀ b o, h.get? b = some o → ((h.push (kdv_tup rest)).push (excO C h.objs.size)).get? b = some o :=
    fun b o e => Heap.get?_push_of_some _ (Heap.get?_push_of_some _ e)
  have hC1 := k _ _ hC
  have got : ((h.push (kdv_tup rest)).push (excO C h.objs.size)).get? (h.objs.size + 1) = some (excO C h.objs.size) := by heap_get
  have hCC : (Value.ref C :: bm).contains (.ref C) = true := by simp
  unfold isInstance
  repeat (first
    | with_reducible refine wpAny_loadPart_at got ?_
    | (with_reducible refine wpAny_isSubtype_exc hC1 ?_; rw [hCC])
    | wp_step)
  show wpAny _ _ (typeLookup (.ref C) _) _ _ _
  refine (hi.keeps k).at ?_
  refine wpAny_holding (wpAny_bind (((hb (.ref (h.objs.size + 1))).keeps k).at ?_))
  refine wpAny_bind (wpAny_call (codeAny_mono hq fun r s' z => ?_))
  rcases r with er | (v | _ | _ | _) <;> first
    | exact z
    | exact z.elim
    | skip
  obtain ⟨rfl, z⟩ := z
  first
    | exact wpAny_pure (wpAny_pure z)
    | (wp_walk
       exact z)
theorem callX (F : ExcBaseFacts B newId initId bmB) (hT : ∀ X : String, bm.contains (.type X) = bmB.contains (.type X)) {fI : Addr}
    (hC : h.get? C = some (excClassObj nm q C N bs bm hdct sn sub ab col dd k0 k1 k2 k3 k5 newId))
    (hi : Looks (model prog w) h (typeLookup (.ref C) "__init__") (some (.ref fI))) (hb : ∀ self, Looks (model prog w) h (bindSpecial (.ref fI) self) (.ref fI, [self])) (hrest : rest.length ≤ sizeLine)
    (hq : codeAny (model prog w) (A.under (.builtin "type.__call__" ⟨.ref C :: rest, kw⟩)) (.call (.ref fI) ⟨.ref (h.objs.size + 1) :: rest, kw⟩) (InitBack (h.objs.size + 1) R)
      ⟨(h.push (kdv_tup rest)).push (excO C h.objs.size), g, d, t, os⟩) :
    codeAny (model prog w) A (.call (.ref C) ⟨rest, kw⟩) R ⟨h, g, d, t, os⟩ := by
  have f1 := tc_lookup
  have f2 := tc_bind (.ref C)
  have isT : (⟨h, g, d, t, os⟩ : Shared).TypeIs (.ref C) "type" := ⟨_, hC, rfl⟩
  refine codeAny_of_tree ?_
  show wpAny _ _ (callAny (.ref C) _) _ _ _
  repeat (any_goals (first
    | assumption
    | with_reducible refine wpAny_loadPart_at hC ?_
    | wp_step))
  refine ⟨rfl, ?_⟩
  refine codeAny_call_builtin_at (Code.quiet_builtin _ (by decide +kernel)) entry_typeCall
    (wpAny_check_type_call_sub hC (typeCall F hT hC hi hb hrest ?_))
  refine codeAny_mono hq fun r s' z => ?_
  rcases r with e | (v | _ | _ | _) <;> exact z
end
end XV
namespace L2
open PySem PySem.Spec PyProof.Rows
/-- C(e, .., k = v, ..) of an own exception class with an __init__ of its own, as a value: n values, keywords by their names -/
def tXNewN (C : Addr) (n m : Nat) (sp : Sp) (gV : List V → List V → List V) (t tk : TA) : TE := fun σ H Q => t σ H fun vs H1 => tk σ H1 fun zs H2 => vs.length = n ∧ zs.length = m ∧
  ∀ a, H2 a = none → sp (gV (.ref a :: vs) zs) (upd H2 a (exo a C none)) (fun v H3 => v = .non ∧ Q (.ref a) H3) E0
section
variable {X : Cx} {k n : Nat} {fI C : Addr} {fd : FuncData} {ps ks : List Str} {sp : Sp} {x : Str} {p pos : Pos} {e : Expr} {es : List Expr} {kws : List Keyword} {t tk : TA} {g : List Value → List Value → List Value} {gV : List V → List V → List V}
variable {B newId initId : String} {bmB : List Value}
theorem run_xnew {pins : List (Addr × Obj)} {σ : St} {H : Hp} {s : Shared} {Q : VK} {us ws : List Value} {vs zs : List V} (T : XC X.K C bmB newId) (Y : XB B bmB newId initId) (iC : PySem.W.findIn X.K (.ref C) "__init__" = some (some (.ref fI)))
    (tI : PySem.W.typeIn X.K (.ref fI) = some (.type "function")) (F1 : FnOk X.prog X.w X.K X.mg X.base CX0 k fI fd ps sp) (hr : Room (k + 1) X.A) (hb : KBn X.K fd ps (n + 1) ks g gV)
    (I : Inv X pins σ H s) (r : Vals vs us) (rz : Vals zs ws) (l1 : vs.length = n) (l2 : zs.length = ks.length) (hn : n ≤ 1000)
    (h : ∀ a, H a = none → sp (gV (.ref a :: vs) zs) (upd H a (exo a C none)) (fun v H3 => v = .non ∧ Q (.ref a) H3) E0) :
    wpAny (model X.prog X.w) X.A (call (.ref C) us (ks.zip ws)) (EP X pins σ Q) X.xe s := by
  obtain ⟨nm, N, qn, bs, bm, hdct, sn, sub, ab, col, dd, k0, k1, k2, k3, k5, hC, hbm⟩ := PySem.W.excInit_of I.kIn T.q
  obtain ⟨hp, gs, dr, tk, os⟩ := s
  have above : hp.objs.size ≤ hp.objs.size + 1 := Nat.le_succ _
  have hq := h (hp.objs.size + 1) (I.hok.fresh above)
  have kk : ∀ b o, hp.get? b = some o → ((hp.push (PySem.W.kdv_tup us)).push (PySem.HandSPX.excO C hp.objs.size)).get? b = some o :=
    fun b o e => Heap.get?_push_of_some _ (Heap.get?_push_of_some _ e)
  have got : ((hp.push (PySem.W.kdv_tup us)).push (PySem.HandSPX.excO C hp.objs.size)).get? (hp.objs.size + 1) = some (PySem.HandSPX.excO C hp.objs.size) := by heap_get
  have I2 : Inv X pins σ (upd H (hp.objs.size + 1) (exo (hp.objs.size + 1) C none)) ⟨(hp.push (PySem.W.kdv_tup us)).push (PySem.HandSPX.excO C hp.objs.size), gs, dr, tk, os⟩ :=
    I.laid (t' := tk) (a := hp.objs.size + 1) (o := exo (hp.objs.size + 1) C none) kk above (exo_ok got)
  have r1 : Vals (V.ref (hp.objs.size + 1) :: vs) (Value.ref (hp.objs.size + 1) :: us) := .cons rfl r
  have r2 := hb.rel r1 rz
  have e1 : (Value.ref (hp.objs.size + 1) :: us).length = n + 1 := r1.length.symm.trans (congrArg Nat.succ l1)
  have e2 : ws.length = ks.length := rz.length.symm.trans l2
  have hus : us.length ≤ sizeLine := by
    have := r.length
    rw [sizeLine_eq]
    omega
  refine wpAny_call (XV.callX Y.base hbm hC (PySem.W.looks_findIn I.kIn iC) (fun self => PySem.W.bind_fn I.kIn self tI) hus
    (codeAny_mono (F1.run _ X.stack _ _ ⟨Value.ref (hp.objs.size + 1) :: us, ks.zip ws⟩ (g (Value.ref (hp.objs.size + 1) :: us) ws) _ _ E0
      (hr.make C us (ks.zip ws)) (I2.env0.make C us (ks.zip ws)) (hb.to _ (Value.ref (hp.objs.size + 1) :: us) ws I2.kIn e1 e2) r2 hq) fun r s' hq' => ?_))
  cases r with
  | error er => exact False.elim hq'
  | ok fl =>
    cases fl with
    | ret u =>
      obtain ⟨v, H', I3, rv, ev, q3⟩ := I2.after hq'
      subst ev
      exact ⟨rv, ⟨V.ref (hp.objs.size + 1), H', I3, rfl, q3⟩⟩
    | next => exact False.elim hq'
    | brk => exact False.elim hq'
    | cont => exact False.elim hq'
theorem pe_xnewP (T : XC X.K C bmB newId) (Y : XB B bmB newId initId) (iC : PySem.W.findIn X.K (.ref C) "__init__" = some (some (.ref fI)))
    (tI : PySem.W.typeIn X.K (.ref fI) = some (.type "function")) (F1 : FnOk X.prog X.w X.K X.mg X.base CX0 k fI fd ps sp) (hr : Room (k + 1) X.A) (hb : KBn X.K fd ps (n + 1) [] g gV) (hn : n ≤ 1000) (hg : Gl X x) (hm : X.mg x = some (.ref C))
    (ha : PA X (e :: es) t) (hdb : (x == ("__debug__" : Str)) = false := by decide) (he : starEach (e :: es) X.env = (false, eval e X.env) :: starEach es X.env := by rfl) (hpl : (backTo pos (starEach es X.env)).any (·.1) = false := by rfl) :
    PE X (.Call (.Name x p) (e :: es) [] pos) (tXNewN C n 0 sp gV t tNil) := by
  refine ⟨fun pins s σ H Q I h => ?_⟩
  refine wpAny_Call_Name_kw (ld_glob I hg hm ?_ hdb)
  refine PySem.W.callWith_K (h₀ := X.base) I.ok.mod.kin T.kC (thn (ha.run pos pins s σ H _ I h) fun us s1 h1 => ?_) he hpl
  obtain ⟨vs, H1, I1, r, l1, l2, q⟩ := h1
  exact ⟨I1.kIn, run_xnew (ks := []) T Y iC tI F1 hr hb I1 r .nil l1 rfl hn q⟩
theorem pe_xnewZ (T : XC X.K C bmB newId) (Y : XB B bmB newId initId) (iC : PySem.W.findIn X.K (.ref C) "__init__" = some (some (.ref fI)))
    (tI : PySem.W.typeIn X.K (.ref fI) = some (.type "function")) (F1 : FnOk X.prog X.w X.K X.mg X.base CX0 k fI fd ps sp) (hr : Room (k + 1) X.A) (hb : KBn X.K fd ps (0 + 1) [] g gV) (hg : Gl X x) (hm : X.mg x = some (.ref C))
    (hdb : (x == ("__debug__" : Str)) = false := by decide) : PE X (.Call (.Name x p) [] [] pos) (tXNewN C 0 0 sp gV tNil tNil) := by
  refine ⟨fun pins s σ H Q I h => ?_⟩
  refine wpAny_Call_Name_kw (ld_glob I hg hm ?_ hdb)
  obtain ⟨_, _, q⟩ := h
  exact PySem.W.callWith_K0 I.kIn T.kC (run_xnew (us := []) (ks := []) T Y iC tI F1 hr hb I .nil .nil rfl rfl (by decide) q)
end
end L2
namespace My
open PySem L2 Evl
set_option autoImplicit false
/-- an exception of the class at C with fields of which this is known | one without fields | one of these -/
def XF (C : Addr) (fs : List (Str × Pr)) : Pr := ⟨fun v H => ∃ (a dx : Addr) (vs : List (Str × V)), v = .ref a ∧ (H a = some (exo a C (some dx)) ∨ H a = some (exw a C (some dx))) ∧ H dx = some (exd dx vs) ∧ vs.map Prod.fst = fs.map Prod.fst ∧ AllP (fs.map Prod.snd) (vs.map Prod.snd) H,
  fun e ⟨a, dx, vs, h1, h2, h3, h4, h5⟩ => ⟨a, dx, vs, h1, h2.imp (e _ _) (e _ _), e _ _ h3, h4, AllP.m e h5⟩⟩
def X0 (C : Addr) : Pr := ⟨fun v H => ∃ a : Addr, v = .ref a ∧ (H a = some (exo a C none) ∨ H a = some (exw a C none)), fun e ⟨a, h1, h2⟩ => ⟨a, h1, h2.imp (e _ _) (e _ _)⟩⟩
def XK (C : Addr) : Pr := ⟨fun v H => ∃ a : Addr, v = .ref a ∧ ∃ d, (H a = some (exo a C d) ∨ H a = some (exw a C d)) ∧ (d = none ∨ ∃ dx fs, d = some dx ∧ H dx = some (exd dx fs)),
  fun e ⟨a, h1, d, h2, h3⟩ => ⟨a, h1, d, h2.imp (e _ _) (e _ _), h3.imp id fun ⟨dx, fs, z, h4⟩ => ⟨dx, fs, z, e _ _ h4⟩⟩⟩
theorem xk_f {C : Addr} {fs : List (Str × Pr)} {v : V} {H : Hp} (h : (XF C fs).P v H) : (XK C).P v H := by
  obtain ⟨a, dx, vs, h1, h2, h3, _⟩ := h
  exact ⟨a, h1, _, h2, .inr ⟨dx, vs, rfl, h3⟩⟩
theorem xk_0 {C : Addr} {v : V} {H : Hp} (h : (X0 C).P v H) : (XK C).P v H := by
  obtain ⟨a, h1, h2⟩ := h
  exact ⟨a, h1, _, h2, .inl rfl⟩
/-- what an __init__ of one field promises; of two -/
def spI1 (C : Addr) (f : Str) : Sp := fun vs H Q _ => ∃ (a : Addr) (v : V), vs = [.ref a, v] ∧ H a = some (exo a C none) ∧ ∀ dx, H dx = none → dx ≠ a → Q .non (upd (upd H dx (exd dx [(f, v)])) a (exo a C (some dx)))
section
variable {te ta tb : TE} {t tk : TA} {σ : L2.St} {B : Hp} {p q : Pr} {ps qs : List Pr} {v : V} {K : PySem.W.Frag} {D : Ends} {C : Addr} {f g : Str} {n m : Nat} {gV : List V → List V → List V}
theorem look_all {H : Hp} : ∀ {fs : List (Str × Pr)} {vs : List (Str × V)}, vs.map Prod.fst = fs.map Prod.fst → AllP (fs.map Prod.snd) (vs.map Prod.snd) H → fs.lookup f = some p → ∃ v, vs.lookup f = some v ∧ p.P v H
  | [], _, _, _, h => by cases h
  | (g, r) :: fs, [], e, _, _ => by cases e
  | (g, r) :: fs, (g', w) :: vs, e, a, h => by
    obtain ⟨rfl, e'⟩ := List.cons.inj e
    rw [List.lookup_cons] at h ⊢
    by_cases c : (f == g') = true
    · rw [c] at h ⊢
      cases h
      exact ⟨w, rfl, a.1⟩
    · have c' : (f == g') = false := by simpa using c
      rw [c'] at h ⊢
      exact look_all e' a.2 h
theorem p_xat {fs : List (Str × Pr)} {bmB : List Value} {newId : String} (T : XC K C bmB newId) (hno : PySem.W.findIn K (.ref C) f = some none) (h : EvP te σ B (XF C fs)) (hl : fs.lookup f = some p) : EvP (tXAt K bmB newId f te) σ B p := fun H1 e Q k =>
  h H1 e _ fun v B2 H2 g2 b => by
    obtain ⟨a, dx, vs, rfl, h2, h3, h4, h5⟩ := b
    obtain ⟨w, hw, pw⟩ := look_all h4 h5 hl
    exact ⟨a, C, dx, vs, w, rfl, T, hno, h2.imp (g2.c _ _) (g2.c _ _), g2.c _ _ h3, hw, k w B2 H2 g2 pw⟩
theorem p_xis {bmB : List Value} {newId : String} {c : V} {cv : Value} {b : Bool} (T : XC K C bmB newId) (h : EvP te σ B (XK C)) (hc : EvP ta σ B (IsV c)) (hcv : ∀ u, RelV c u → u = cv) (hk : PySem.W.kitOne K (.ref C) cv = some b) :
    EvP (tCB (rXIs K) (tCons te (tCons ta tNil))) σ B (IsV (.bl b)) := fun H1 e Q k =>
  h H1 e _ fun v B2 H2 g2 b2 => hc H2 (g2.b.trans g2.c) _ fun w B3 H3 g3 b3 => by
    obtain rfl : w = c := b3
    obtain ⟨a, rfl, hx⟩ := (XK C).m (g2.c.trans g3.a) b2
    exact ⟨a, C, bmB, newId, w, cv, b, rfl, T, hx, hcv, hk, k _ _ _ (g2.join g3) rfl⟩
end
/-- the class D of the module, over which the built-in stands with that __init__ -/
structure XD (K : PySem.W.Frag) (mg : Str → Option Value) (x : Str) (D : Addr) (initId : String) : Prop where
  m : mg x = some (.ref D)
  s : PySem.W.specialIn K (.ref D) "__getattribute__" = some (some (.builtin "type.__getattribute__"))
  r : PySem.W.readsIn K D (.type "type") = true
  f : PySem.W.findCls K (.ref D) (.type "type") "__init__" = some (.val (.builtin initId))
  h : PySem.W.handedIn (.builtin initId) = true
end My
namespace L2
open PySem PySem.Spec PyProof.Rows
theorem pe_globR {X : Cx} {x : Str} {C : Addr} {p : Pos} (hg : Gl X x) (hm : X.mg x = some (.ref C)) (hd : (x == ("__debug__" : Str)) = false := by decide) : PE X (.Name x p) (tC (.ref C)) := by
  refine ⟨fun pins s σ H Q I h => ?_⟩
  exact ld_glob I hg hm ⟨.ref C, H, I, rfl, h⟩ hd
end L2
namespace My
set_option autoImplicit false
open PySem L2 Evl
/-- what a walk over this hands out: n things, the i-th of which P i is known -/
def Src (wi : TI) (σ : L2.St) (B : Hp) (n : Nat) (P : Nat → Pr) : Prop := ∀ H1, Ex B H1 → ∀ R : It → Hp → Prop, (∀ (J : It) (B' H2 : Hp) (G : Hp → Prop) (Y : Nat → Hp → V → Hp → Prop), Gr B H1 B' H2 → Walk J n G Y → (∀ H, Ex B' H → G H) →
  (∀ i H v H', i < n → Ex B' H → Y i H v H' → H' = H ∧ (P i).P v B') → R J H2) → wi σ H1 R
section
variable {te ta tb : TE} {t tr : TA} {tt : TT} {σ : L2.St} {B B' H : Hp} {p q : Pr} {ps qs : List Pr} {v : V} {K : PySem.W.Frag} {D : Ends} {d e : PyData} {ds es : List PyData}
theorem dps_at : ∀ {vs : List V} {ds : List PyData} {i : Nat} {v : V}, DpAll K H vs ds → vs[i]? = some v → Dp K H v (ds.getD i .none)
  | [], [], i, v, _, h => by simp at h
  | w :: _, _ :: _, 0, v, .cons a _, h => by
    obtain rfl : w = v := Option.some.inj h
    exact a
  | _ :: _, _ :: _, i + 1, v, .cons _ b, h => dps_at (i := i) b h
theorem dps_len : ∀ {vs : List V} {ds : List PyData}, DpAll K H vs ds → vs.length = ds.length
  | [], [], _ => rfl
  | _ :: _, _ :: _, .cons _ b => congrArg Nat.succ (dps_len b)
def oneS (x : Str) (i : Nat) : Str := ⟨#[x.cps.getD i 0]⟩
theorem src_str {x : Str} (h : Ev te σ B (.str x)) : Src (iStr te) σ B x.cps.size (fun i => IsV (.str (oneS x i))) := fun H1 a R k => h H1 a _ fun H2 e =>
  ⟨x, rfl, k _ B H2 _ _ (Gr.wide a e) walk_str (fun _ _ => trivial) fun i H v H' hi _ z => by
    obtain ⟨z1, c, z2, rfl⟩ := z
    refine ⟨z1, ?_⟩
    show V.str ⟨#[c]⟩ = V.str (oneS x i)
    unfold oneS
    rw [Array.getD_eq_getD_getElem?, z2]
    rfl⟩
theorem src_rng {j : Nat} (h : EvPs t σ B [IsV (.int (j : Int))]) (hj : (j : Int) < 2 ^ 62) : Src (iRng1 t) σ B j (fun i => IsV (.int (i : Int))) := fun H1 a R k => h H1 a _ fun vs B2 H2 g b => by
  match vs, b with
  | [v], b =>
    obtain rfl : v = V.int j := b.1
    refine ⟨j, rfl, by omega, hj, ?_⟩
    rw [show ((j : Int)).toNat = j from rfl]
    refine k _ B2 H2 _ _ g walk_range (fun _ _ => trivial) fun i H v H' _ _ z => ⟨z.1, ?_⟩
    show v = V.int i
    rw [z.2]
    simp
/-- a comprehension over it, some items left out -/
theorem p_lcS {wi : TI} {n : Nat} {P : Nat → Pr} {g : TG} {vs : List Nat} (h : Src wi σ B n P) (hl : n ≤ 100000) (keep : Nat → Bool) (res : Nat → Pr)
    (step : ∀ i v B1, i < n → Ex B B1 → (P i).P v B1 → ∃ σ2, wipe σ2 vs = wipe σ vs ∧ (∀ H2 Q, Ex B1 H2 → Q σ2 H2 → g v (wipe σ vs) H2 Q) ∧ EvT tt σ2 B1 (keep i) ∧ (keep i = true → EvP te σ2 B1 (res i))) :
    EvP (tLc wi g tt te vs) σ B (LsP (((List.range n).filter keep).map res)) := fun H1 a Q k =>
  h H1 a _ fun J B2 H2 G Y gr w hG hY Dd hD => by
    refine lc_it w (fun i H3 => ∃ B3 acc, Gr B2 H2 B3 (wo Dd H3) ∧ H3 Dd = some (.lst acc) ∧ AllP (((List.range i).filter keep).map res) acc B3) ?_ ?_ ?_ ?_
    · exact ⟨B2, [], by rw [wo_new hD]; exact Gr.refl gr.c, upd_same, trivial⟩
    · rintro i H3 _ ⟨B3, acc, g3, _, _⟩
      exact hG H3 (g3.b.trans (g3.c.trans wo_ex))
    · rintro i v H3 H3' hi ⟨B3, acc, g3, hDd, hacc⟩ hy
      have exB : Ex B3 H3 := g3.c.trans wo_ex
      obtain ⟨rfl, pv⟩ := hY i H3 v H3' hi (g3.b.trans exB) hy
      have some3 : H3' Dd ≠ none := by
        rw [hDd]
        exact fun z => nomatch z
      obtain ⟨σ2, hw, hg, ht, he⟩ := step i v B3 hi (gr.b.trans g3.b) ((P i).m g3.b pv)
      refine hg H3' _ exB ⟨hw, ht H3' exB _ fun H4 e4 => ?_⟩
      have hD4 := e4 _ _ hDd
      have g4 : Gr B2 H2 B3 (wo Dd H4) := g3.side some3 (Gr.wide exB e4)
      have some4 : H4 Dd ≠ none := has e4 some3
      cases hk : keep i with
      | true =>
        rw [if_pos rfl]
        refine he hk H4 (exB.trans e4) _ fun y B5 H5 g5 hy => ?_
        have la : acc.length ≤ i := by
          rw [hacc.len, List.length_map]
          exact Nat.le_trans (List.length_filter_le _ _) (by rw [List.length_range]; exact Nat.le_refl _)
        refine ⟨acc, g5.a _ _ hD4, sz_lt (by omega), B5, acc ++ [y], by rw [wo_upd]; exact g4.side some4 g5, upd_same, ?_⟩
        rw [List.range_succ, List.filter_append, List.map_append]
        refine (hacc.m g5.b).app ?_
        have : List.filter keep [i] = [i] := by simp [hk]
        rw [this]
        exact ⟨hy, trivial⟩
      | false =>
        rw [if_neg Bool.false_ne_true]
        refine ⟨B3, acc, g4, hD4, ?_⟩
        rw [List.range_succ, List.filter_append, List.map_append]
        have : List.filter keep [i] = [] := by simp [hk]
        rw [this, List.map_nil, List.append_nil]
        exact hacc
    · rintro H3 ⟨B3, acc, g3, hDd, hacc⟩
      have hB3 : B3 Dd = none := wo_none g3.c
      refine k (.ref Dd) (upd B3 Dd (.lst acc)) H3 ⟨gr.a.trans (g3.a.trans wo_ex), gr.b.trans (g3.b.trans (Ex.new hB3)), fun b o e => ?_, fun x hb hh => ?_, fun z b ps q => ?_⟩ ⟨Dd, acc, rfl, upd_same, hacc.m (Ex.new hB3)⟩
      · by_cases n : b = Dd
        · subst n
          rw [upd_same] at e
          rw [hDd]
          exact e
        · rw [upd_ne n] at e
          exact g3.c.trans wo_ex _ _ e
      · have n : x ≠ Dd := fun z => by
          subst z
          exact has gr.a hh hD
        rw [upd_ne n]
        exact g3.d x (gr.d x hb hh) (has gr.a hh)
      · by_cases n : b = Dd
        · subst n
          rw [upd_same] at q
          cases q
        · rw [upd_ne n] at q
          exact g3.e (gr.e z) b ps q
/-- all items kept -/
theorem p_lcA {wi : TI} {n : Nat} {P : Nat → Pr} {g : TG} {vs : List Nat} (h : Src wi σ B n P) (hl : n ≤ 100000) (res : Nat → PyData)
    (step : ∀ i v B1, i < n → Ex B B1 → (P i).P v B1 → ∃ σ2, wipe σ2 vs = wipe σ vs ∧ (∀ H2 Q, Ex B1 H2 → Q σ2 H2 → g v (wipe σ vs) H2 Q) ∧ EvP te σ2 B1 (IsD K (res i))) :
    EvP (tLc wi g tYes te vs) σ B (IsD K (.list ((List.range n).map res))) := by
  have := p_lcS (tt := tYes) (te := te) h hl (fun _ => true) (fun i => IsD K (res i)) fun i v B1 hi e pv => by
    obtain ⟨σ2, a, b, c⟩ := step i v B1 hi e pv
    exact ⟨σ2, a, b, et_yes, fun _ => c⟩
  rw [List.filter_eq_self.mpr (fun _ _ => rfl)] at this
  refine d_lst (K := K) ?_
  rw [List.map_map]
  exact this
/-! ### data -/
theorem ev_st {x : Str} (h : EvP te σ B (IsD K (.str x))) : Ev te σ B (.str x) := ev_p (h.imp fun v B1 _ x => by cases x; rfl)
theorem ed_bl {b : Bool} (h : Ev te σ B (.bl b)) : EvP te σ B (IsD K (.bool b)) := d_bl (p_ev h)
theorem ed_in {i : Int} (h : Ev te σ B (.int i)) : EvP te σ B (IsD K (.int i)) := d_int (p_ev h)
theorem ed_st {x : Str} (h : Ev te σ B (.str x)) : EvP te σ B (IsD K (.str x)) := d_str (p_ev h)
theorem ed_var {i : Nat} (h : σ[i]? = some (some v)) (hd : Dp K B v d) : EvP (tVar i) σ B (IsD K d) := p_var h hd
theorem ed_ref {a : Addr} (hd : Dp K B (.ref a) d) : EvP (tC (.ref a)) σ B (IsD K d) := fun H1 e _ k => k _ B H1 (Gr.refl e) hd
/-- the class of data -/
def tyS : PyData → String
  | .none => "NoneType"
  | .bool _ => "bool"
  | .int _ => "int"
  | .str _ => "str"
  | .list _ => "list"
  | .tuple _ => "tuple"
  | .dict _ => "dict"
theorem dps_strs : ∀ {vs : List V} {ys : List Str}, DpAll K H vs (ys.map .str) → vs = ys.map .str
  | [], [], _ => rfl
  | _ :: _, _ :: _, .cons a b => by
    cases a
    rw [dps_strs b]
    rfl
theorem dps_ints : ∀ {vs : List V} {ns : List Int}, DpAll K H vs (ns.map .int) → vs = ns.map .int
  | [], [], _ => rfl
  | _ :: _, _ :: _, .cons a b => by
    cases a
    rw [dps_ints b]
    rfl
theorem dps_bls : ∀ {vs : List V} {bs : List Bool}, DpAll K H vs (bs.map .bool) → vs = bs.map .bl
  | [], [], _ => rfl
  | _ :: _, _ :: _, .cons a b => by
    cases a
    rw [dps_bls b]
    rfl
theorem inV_strs (x : Str) : ∀ ys : List Str, inV (.str x) (ys.map .str) = decide (x ∈ ys)
  | [] => rfl
  | y :: ys => by
    have ih := inV_strs x ys
    unfold inV at ih ⊢
    rw [List.map_cons, List.any_cons, ih]
    by_cases e : y = x
    · subst e
      simp [eqV]
    · have : eqV (V.str y) (V.str x) = false := by
        simp [eqV]
        exact e
      rw [this]
      simp [e, Ne.symm e, eq_comm]
theorem flat_strs (ys : List Str) : (ys.map V.str).all flatV = true := by
  rw [List.all_map, List.all_eq_true]
  intro _ _
  rfl
theorem ev_inT {x : Str} {ys : List Str} {neg : Bool} (ha : Ev ta σ B (.str x)) (hb : EvP tb σ B (IsD K (.tuple (ys.map .str)))) : Ev (tOp (rIn K neg) ta tb) σ B (.bl (if neg then !decide (x ∈ ys) else decide (x ∈ ys))) := fun H1 a Q k =>
  ha H1 a _ fun H2 e => hb H2 (a.trans e) _ fun v B2 H3 g z => by
    cases z with
    | tup y z =>
      have := dps_strs z
      subst this
      refine ⟨_, _, rfl, .inr (ex_t g.c y), rfl, flat_strs ys, ?_⟩
      rw [inV_strs]
      exact k H3 (e.trans g.a)
theorem ev_ltT {ns ms : List Int} (ha : EvP ta σ B (IsD K (.tuple (ns.map .int)))) (hb : EvP tb σ B (IsD K (.tuple (ms.map .int)))) : Ev (tOp (rLtT K) ta tb) σ B (.bl (HT.lexLt ns ms)) := fun H1 a Q k =>
  ha H1 a _ fun v B2 H2 g x => hb H2 (g.b.trans g.c) _ fun w B3 H3 g3 y => by
    cases x with
    | tup x1 x2 =>
      cases y with
      | tup y1 y2 =>
        have e1 := dps_ints x2
        have e2 := dps_ints y2
        subst e1
        subst e2
        exact ⟨_, _, ns, ms, rfl, rfl, ex_t (g.c.trans g3.a) x1, ex_t g3.c y1, k H3 (g.a.trans g3.a)⟩
theorem ev_allL {bs : List Bool} (h : EvP te σ B (IsD K (.list (bs.map .bool)))) : Ev (tCB (rAll K) (tCons te tNil)) σ B (.bl (bs.all id)) := fun H1 a Q k =>
  h H1 a _ fun v B2 H2 g x => by
    cases x with
    | lst y z =>
      have := dps_bls z
      subst this
      exact ⟨_, bs, rfl, ex_l g.c y, k H2 g.a⟩
theorem dps_ix {i : Nat} {d : PyData} : ∀ {vs : List V} {ds : List PyData}, DpAll K H vs ds → ds[i]? = some d → ∃ v, vs[i]? = some v ∧ Dp K H v d := fun {vs ds} h e => by
  have hl := dps_len h
  have hi : i < vs.length := by rw [hl]; exact (List.getElem?_eq_some_iff.mp e).1
  refine ⟨vs[i], List.getElem?_eq_getElem hi, ?_⟩
  have := dps_at h (List.getElem?_eq_getElem hi)
  rw [List.getD_eq_getElem?_getD, e] at this
  exact this
theorem atI_len {α β : Type} {xs : List α} {ys : List β} {j : Int} {y : β} (hl : xs.length = ys.length) (h : atI ys j = some y) : ∃ n : Nat, ys[n]? = some y ∧ ∀ x, xs[n]? = some x → atI xs j = some x := by
  unfold atI at h ⊢
  rw [← hl] at h
  obtain ⟨n, hn, hy⟩ := Option.bind_eq_some_iff.mp h
  refine ⟨n, hy, fun x hx => ?_⟩
  rw [hn]
  exact hx
theorem ed_ixT {j : Int} (h : EvP ta σ B (IsD K (.tuple ds))) (hj : Ev tb σ B (.int j)) (hd : atI ds j = some d) : EvP (tOp (rIxT K) ta tb) σ B (IsD K d) := fun H1 a Q k =>
  h H1 a _ fun v B2 H2 g x => hj H2 (g.b.trans g.c) _ fun H3 e3 => by
    cases x with
    | tup y z =>
      obtain ⟨n, h1, h2⟩ := atI_len (dps_len z) hd
      obtain ⟨u, h3, h4⟩ := dps_ix z h1
      exact ⟨_, _, j, u, rfl, rfl, ex_t (g.c.trans e3) y, h2 u h3, k u B2 H3 (g.trans (Gr.wide g.c e3)) h4⟩
theorem ed_tup (h : EvPs t σ B (ds.map (IsD K))) (hl : ds.length ≤ 100000) : EvP (tTup t) σ B (IsD K (.tuple ds)) := d_tup (p_tup h (by rw [List.length_map]; exact hl))
theorem ed_lst (h : EvPs t σ B (ds.map (IsD K))) (hl : ds.length ≤ 100000) : EvP (tLst t) σ B (IsD K (.list ds)) := d_lst (p_lst h (by rw [List.length_map]; exact hl))
theorem ed_if {b : Bool} (h : EvT tt σ B b) (h1 : b = true → EvP ta σ B p) (h2 : b = false → EvP tb σ B p) : EvP (tIf tt ta tb) σ B p := fun H1 a Q k => h H1 a _ fun H2 e2 => by
  cases b with
  | true => exact h1 rfl H2 (a.trans e2) _ fun v B3 H3 g x => k v B3 H3 ((Gr.wide a e2).trans g) x
  | false => exact h2 rfl H2 (a.trans e2) _ fun v B3 H3 g x => k v B3 H3 ((Gr.wide a e2).trans g) x
/-! ### statements -/
/-! ### defs from data to data -/
/-- a def of the program's, as it is called -/
structure Cal (P : Program) (w : World) (K : PySem.W.Frag) (mg : Str → Option Value) (base : Heap) (x : Str) (k : Nat) (ps : List Str) (sp : Sp) (f : Addr) (fd : FuncData) : Prop where
  G : FnOk P w K mg base CX0 k f fd ps sp
  m : mg x = some (.ref f)
  k : PySem.W.keepIn K (.ref f) = true
  b : Binds K fd ps []
end
end My
namespace My
set_option autoImplicit false
open PySem PySem.Spec PyProof.Rows L2 Evl
section
variable {X : Cx}
/-- x in t, t a tuple of data of any depth -/
def rInT (K : PySem.W.Frag) : R2 := fun x y H Q => ∃ d ds, Dp K H x d ∧ Dp K H y (.tuple ds) ∧ SeqAt.shaped d = true ∧ SeqAt.shaped (.tuple ds) = true ∧ Q (.bl (ds.any fun z => PyData.eqv z d)) H
theorem op_inT (hu : X.A.units + 65 < cLine) : OpR X (compareOp .In) (rInT X.K) := by
  intro pins s σ H x y v u Q I rx ry ⟨d, ds, hd, he, sd, se, q⟩
  obtain ⟨as, r1⟩ := Dp.reads I d x v hd rx
  obtain ⟨bs, r2⟩ := Dp.reads I _ y u he ry
  exact SeqAt.in_tuple_reads r2 r1 (SeqAt.canLay_of_shaped se) (SeqAt.canLay_of_shaped sd) (room_in_shaped sd hu) ⟨.bl _, H, I, rfl, q⟩
end
section
variable {te ta tb : TE} {t tr : TA} {tt : TT} {σ : L2.St} {B B' H : Hp} {p q : Pr} {v : V} {K : PySem.W.Frag} {D : Ends} {d e : PyData} {ds es : List PyData}
theorem ev_inDT (ha : EvP ta σ B (IsD K d)) (hb : EvP tb σ B (IsD K (.tuple ds))) (hd : SeqAt.shaped d = true) (he : SeqAt.shaped (.tuple ds) = true) : Ev (tOp (rInT K) ta tb) σ B (.bl (ds.any fun z => PyData.eqv z d)) := fun H1 a Q k =>
  ha H1 a _ fun v B2 H2 g b => hb H2 (g.b.trans g.c) _ fun w B3 H3 g3 b3 => ⟨d, ds, dp_m (g.c.trans g3.a) b, dp_m g3.c b3, hd, he, k H3 (g.a.trans g3.a)⟩
end
/-! ### rankings and derivatives -/
def isNmB (x : Str) : Bool := decide (1 ≤ x.length) && decide (x.length ≤ 8) && x.cps.toList.all fun c => decide (97 ≤ c) && decide (c ≤ 122)
def IsNm (x : Str) : Prop := isNmB x = true
structure Rk where
  tot : Bool
  ns : List Str
  ax : Fin 3
def axsOf (a : Fin 3) : List Str := if a = 0 then ["x"] else if a = 1 then ["x", "y"] else ["y", "x"]
def Rk.axs (r : Rk) : List Str := axsOf r.ax
def Rk.srt (r : Rk) : Str := if r.tot then "total" else "names"
def Rk.D (r : Rk) : PyData := .tuple [.str r.srt, .tuple (r.ns.map .str), .tuple (r.axs.map .str)]
structure Rk.Ok (r : Rk) : Prop where
  ne : 1 ≤ r.ns.length
  le : r.ns.length ≤ 3
  nd : r.ns.Nodup
  nm : ∀ x ∈ r.ns, IsNm x
structure Dv where
  n : Str
  i : Int
  j : Int
deriving DecidableEq
def Dv.D (v : Dv) : PyData := .tuple [.str v.n, .int v.i, .int v.j]
structure Dv.Of (v : Dv) (r : Rk) : Prop where
  n : v.n ∈ r.ns
  i : 0 ≤ v.i
  j : 0 ≤ v.j
  y : v.j = 0 ∨ (Str.ofString "y") ∈ r.axs
def Rk.first (r : Rk) (v : Dv) : Int := if r.ax = 2 then v.j else v.i
def Rk.ahead (r : Rk) (v : Dv) : Int := -((r.ns.idxOf v.n : Nat) : Int)
def Rk.key (r : Rk) (v : Dv) : List Int := if r.tot then [v.i + v.j, r.first v, r.ahead v] else [r.ahead v, v.i + v.j, r.first v]
def cmpL (a b : List Int) : Int := if a = b then 0 else if HT.lexLt a b = true then -1 else 1
def Rk.cmp (r : Rk) (v u : Dv) : Int := cmpL (r.key v) (r.key u)

/-! ### what is known of such values -/
def NmP (ns : List Str) : Pr := ⟨fun v H => ∃ a o, v = .ref a ∧ H a = some (.frz o (.tup (ns.map .str))) ∧ o.dict = none, fun e ⟨a, o, h1, h2, h3⟩ => ⟨a, o, h1, e _ _ h2, h3⟩⟩
def DvP (u : Dv) : Pr := ⟨fun v H => ∃ a, v = .ref a ∧ H a = some (.tup [.str u.n, .int u.i, .int u.j]), fun e ⟨a, h1, h2⟩ => ⟨a, h1, e _ _ h2⟩⟩
def RkP (K : PySem.W.Frag) (r : Rk) : Pr := ⟨fun v H => ∃ a vn va, v = .ref a ∧ SqT K H a [.str r.srt, vn, va] ∧ (NmP r.ns).P vn H ∧ Dp K H va (.tuple (r.axs.map .str)), fun e ⟨a, vn, va, h1, h2, h3, h4⟩ => ⟨a, vn, va, h1, ex_t e h2, (NmP r.ns).m e h3, dp_m e h4⟩⟩
theorem dps_of_strs {K : PySem.W.Frag} {H : Hp} : ∀ ys : List Str, DpAll K H (ys.map V.str) (ys.map .str)
  | [] => .nil
  | y :: ys => .cons (.str y) (dps_of_strs ys)
theorem nm_d {K : PySem.W.Frag} {ns : List Str} {v : V} {H : Hp} (h : (NmP ns).P v H) : Dp K H v (.tuple (ns.map .str)) := by
  obtain ⟨a, o, rfl, h2, _⟩ := h
  exact .tup (.inl (.inr ⟨o, h2⟩)) (dps_of_strs ns)
theorem rk_d {K : PySem.W.Frag} {r : Rk} {v : V} {H : Hp} (h : (RkP K r).P v H) : Dp K H v r.D := by
  obtain ⟨a, vn, va, rfl, h2, h3, h4⟩ := h
  exact .tup h2 (.cons (.str _) (.cons (nm_d h3) (.cons h4 .nil)))
theorem dv_d {K : PySem.W.Frag} {u : Dv} {v : V} {H : Hp} (h : (DvP u).P v H) : Dp K H v u.D := by
  obtain ⟨a, rfl, h2⟩ := h
  exact .tup (st_of h2) (.cons (.str _) (.cons (.int _) (.cons (.int _) .nil)))
section
variable {te ta tb : TE} {t tr : TA} {tt : TT} {σ : L2.St} {B B' H : Hp} {p q : Pr} {ps : List Pr} {v : V} {K : PySem.W.Frag} {D : Ends} {r : Rk} {u : Dv}
theorem ed_nm {ns : List Str} (h : EvP te σ B (NmP ns)) : EvP te σ B (IsD K (.tuple (ns.map .str))) := h.imp fun _ _ _ x => nm_d x
/-- (name, i, j), made -/
theorem p_dv {a b c : V} (ha : a = .str u.n) (hb : b = .int u.i) (hc : c = .int u.j) (h : EvPs t σ B [IsV a, IsV b, IsV c]) : EvP (tTup t) σ B (DvP u) := fun H1 e Q k =>
  h H1 e _ fun vs B2 H2 g b => by
    subst ha hb hc
    match vs, b with
    | [x, y, z], b =>
      obtain rfl : x = _ := b.1
      obtain rfl : y = _ := b.2.1
      obtain rfl : z = _ := b.2.2.1
      exact ⟨sz_of (by show 3 ≤ 100000; decide), fun w hw => k _ _ _ (g.trans (Gr.new _ g.c hw)) ⟨w, rfl, upd_same⟩⟩
/-- a ranking unpacked -/
theorem ps_unR {i j k : Nat} (a : Ex B H) (h : EvP te σ B (RkP K r))
    (n : ∀ v2 v3 B1 H1, Gr B H B1 H1 → (NmP r.ns).P v2 B1 → Dp K B1 v3 (.tuple (r.axs.map .str)) → D.nx (((σ.set i (some (.str r.srt))).set j (some v2)).set k (some v3)) H1) :
    tAsg te (gTup K 3 (gCons (gName i) (gCons (gName j) (gCons (gName k) gNil)))) D σ H := h H a _ fun v B1 H1 g x => by
  obtain ⟨p, vn, va, rfl, h2, h3, h4⟩ := x
  exact ⟨_, _, rfl, ex_t g.c h2, rfl, _, _, rfl, _, _, rfl, _, _, rfl, rfl, n _ _ B1 H1 g h3 h4⟩
theorem ps_unD {i j k : Nat} (a : Ex B H) (h : EvP te σ B (DvP u)) (n : ∀ B1 H1, Gr B H B1 H1 → D.nx (((σ.set i (some (.str u.n))).set j (some (.int u.i))).set k (some (.int u.j))) H1) :
    tAsg te (gTup K 3 (gCons (gName i) (gCons (gName j) (gCons (gName k) gNil)))) D σ H := h H a _ fun v B1 H1 g x => by
  obtain ⟨p, rfl, h2⟩ := x
  exact ⟨_, _, rfl, st_of (g.c _ _ h2), rfl, _, _, rfl, _, _, rfl, _, _, rfl, rfl, n B1 H1 g⟩
/-! ### defs by what is known of what is handed in -/
def spP (R : List Pr → Pr → Prop) : Sp := fun vs H Q _ => ∃ B ps p, Ex B H ∧ AllP ps vs B ∧ R ps p ∧ ∀ v B' H', Gr B H B' H' → p.P v B' → Q v H'
theorem p_callP {R : List Pr → Pr → Prop} (h : EvPs t σ B ps) (hr : R ps p) : EvP (tCall (spP R) [] E0 t) σ B p := fun H1 a Q k =>
  h H1 a _ fun vs B2 H2 g b => by
    rw [List.append_nil]
    exact ⟨B2, ps, p, g.c, b, hr, fun v B3 H3 g3 x => k v B3 H3 (g.trans g3) x⟩
theorem spP_len {R : List Pr → Pr → Prop} {n : Nat} (h : ∀ ps p, R ps p → ps.length = n) : ∀ vs H Q E, spP R vs H Q E → vs.length = n := fun vs H Q E ⟨B, ps, p, _, a, b, _⟩ => by rw [a.len, h ps p b]
end
/-! ### t.index(x) -/
section
open PySem PySem.Spec PyProof.Rows
variable {X : Cx}
theorem pe_tupIndex {o e : Expr} {to te : TE} {apos cpos : Pos} (ho : PE X o to) (he : PE X e te)
    (hbase : attributeBase o "index" X.env (eval o X.env) = eval o X.env := by rfl) (hline : (apos.endLine == cpos.line) = true := by rfl) (hs : starEach [e] X.env = (false, eval e X.env) :: starEach [] X.env := by rfl) (hs2 : backTo cpos (starEach [e] X.env) = [(false, eval e X.env)] := by rfl) :
    PE X (.Call (.Attribute o "index" apos) [e] [] cpos) (fun σ H Q => to σ H fun v H1 => ∃ (a : Addr) (ob : Obj) (ys : List Str), v = .ref a ∧ H1 a = some (.frz ob (.tup (ys.map .str))) ∧ ob.dict = none ∧
      te σ H1 fun y H2 => ∃ z : Str, y = .str z ∧ H2 a = some (.frz ob (.tup (ys.map .str))) ∧ z ∈ ys ∧ Q (.int ((ys.idxOf z : Nat) : Int)) H2) := by
  refine ⟨fun pins s σ H Q I h => ?_⟩
  refine wpAny_Call_method1_late hbase hline hs2 (thn (ho.run pins s σ H _ I h) fun v s1 ⟨x, H1, I1, r1, a, ob, ys, ex, h1, hd, q1⟩ => ?_)
  subst ex
  obtain rfl : v = Value.ref a := r1
  obtain ⟨g1, _, its, rv, ob2, g2, hc, _⟩ := (show ObjOk X.prog X.w H1 s1.heap a (.frz ob (.tup (ys.map .str))) from I1.hok a _ h1)
  rw [g1] at g2
  obtain rfl := Option.some.inj g2
  refine ⟨"tuple", "tuple.index", PySem.F.plainAttrs_tuple, PySem.F.slot_tuple_index, PySem.F.type_tuple_index, ⟨ob, g1, hc⟩, fun c e => ?_, ?_⟩
  · cases e
    exact ⟨ob, g1, hd⟩
  · have hA := (pa_cons he pa_nil hs).run cpos pins s1 σ H1 (fun vs H2 => ∃ y, vs = [y] ∧ ∃ z : Str, y = .str z ∧ H2 a = some (.frz ob (.tup (ys.map .str))) ∧ z ∈ ys ∧ Q (.int ((ys.idxOf z : Nat) : Int)) H2) I1
      (by
        show te σ H1 fun y H2 => ∃ y', [y] = [y'] ∧ _
        have : (fun y H2 => ∃ z : Str, y = V.str z ∧ H2 a = some (.frz ob (.tup (ys.map .str))) ∧ z ∈ ys ∧ Q (.int ((ys.idxOf z : Nat) : Int)) H2) = (fun y H2 => ∃ y', [y] = [y'] ∧ ∃ z : Str, y' = .str z ∧ H2 a = some (.frz ob (.tup (ys.map .str))) ∧ z ∈ ys ∧ Q (.int ((ys.idxOf z : Nat) : Int)) H2) := by
          funext y H2
          apply propext
          constructor
          · intro q
            exact ⟨y, rfl, q⟩
          · rintro ⟨y', e, q⟩
            obtain rfl : y = y' := by simpa using e
            exact q
        rw [← this]
        exact q1)
    rw [hs2] at hA
    refine Calls.callWith_builtin rfl (Calls.evalArgs_plain ?_)
    refine thn hA fun us s2 ⟨vs, H2, I2, r2, y, ev, z, ey, h2, hm, q2⟩ => ?_
    subst ev
    subst ey
    have hl := List.idxOf_lt_length_of_mem hm
    exact mt_tup_index pins s2 σ H2 (.ref a) [.str z] (.ref a) us Q I2 rfl r2 ⟨a, ys, z, ys.idxOf z, rfl, rfl, .inl (.inr ⟨ob, h2⟩), by rw [List.getElem?_eq_getElem hl, List.getElem_idxOf hl], fun m hm' e => by
      have hlt : m < ys.length := (List.getElem?_eq_some_iff.mp e).1
      have e2 : ys[m] = z := (List.getElem?_eq_some_iff.mp e).2
      have := List.not_of_lt_findIdx (p := fun y => y == z) (xs := ys) (i := m) (by exact hm')
      rw [e2] at this
      simp at this, q2⟩
/-- tuple(l), the new tuple known as it stands -/
theorem call_tupleF : CallR X (.type "tuple") (fun xs H Q => ∃ p ys, xs = [.ref p] ∧ SqL X.K H p ys ∧ ∀ l o, H l = none → o.dict = none → Q (.ref l) (upd H l (.frz o (.tup ys)))) := by
  intro pins s σ H xs us Q I r ⟨p, ys, ex, hq, q⟩
  subst ex
  obtain ⟨u, rfl, rx⟩ := vals1 r
  obtain rfl : u = Value.ref p := rx
  obtain ⟨its, rv, pl, hz⟩ := I.list hq
  have hlen := rv.length
  refine call_tuple_list pl.isList (fun h1 kp => ?_) (by simp only [List.size_toArray] <;> omega)
  have I1 : Inv X pins σ H { s with heap := h1 } := I.kept (t' := s.toks) kp
  have n1 := I1.hok.fresh (Nat.le_refl h1.objs.size)
  have I2 : Inv X pins σ (upd H h1.objs.size (.frz { cls := .type "tuple", data := .seq its.toArray } (.tup ys))) { s with heap := h1.push { cls := .type "tuple", data := .seq its.toArray } } :=
    I1.laid (t' := s.toks) (fun b o e => Heap.get?_push_of_some _ e) (Nat.le_refl _) ⟨Heap.get?_push_size _ rfl, hz, its, rv, IsTup.new _ _⟩
  exact ⟨.ref h1.objs.size, _, I2, rfl, q _ _ n1 rfl⟩
end
section
open PySem L2 Evl
variable {te ta tb : TE} {t tr : TA} {tt : TT} {σ : L2.St} {B B' H : Hp} {p q : Pr} {ps : List Pr} {v : V} {K : PySem.W.Frag} {D : Ends} {r : Rk} {u : Dv}
theorem ev_tupIx {x : Str} {ys : List Str} (h : EvP ta σ B (NmP ys)) (hx : Ev tb σ B (.str x)) (hm : x ∈ ys) :
    Ev (fun σ H Q => ta σ H fun v H1 => ∃ (a : Addr) (ob : Obj) (ys : List Str), v = .ref a ∧ H1 a = some (.frz ob (.tup (ys.map .str))) ∧ ob.dict = none ∧
      tb σ H1 fun y H2 => ∃ z : Str, y = .str z ∧ H2 a = some (.frz ob (.tup (ys.map .str))) ∧ z ∈ ys ∧ Q (.int ((ys.idxOf z : Nat) : Int)) H2) σ B (.int ((ys.idxOf x : Nat) : Int)) := fun H1 a Q k =>
  h H1 a _ fun v B2 H2 g b => by
    obtain ⟨p, o, rfl, h2, h3⟩ := b
    exact ⟨p, o, ys, rfl, g.c _ _ h2, h3, hx H2 (g.b.trans g.c) _ fun H3 e3 => ⟨x, rfl, e3 _ _ (g.c _ _ h2), hm, k H3 (g.a.trans e3)⟩⟩
end
end My
namespace My
set_option autoImplicit false
open PySem PySem.Spec PySem.W PySem.Calls PyProof.Rows L2 Evl
/-- the values are these texts, all unlike -/
def TxtAt (items : Array Value) (xs : List Str) : Prop := items.size = xs.length ∧ ∀ (i : Nat) (v : Value), items[i]? = some v → ∃ t x, v = .str x t ∧ xs[i]? = some x
theorem txtAt_of {xs : List Str} {us : List Value} (h : Vals (xs.map V.str) us) : TxtAt us.toArray xs := by
  refine ⟨by rw [List.size_toArray, ← h.length, List.length_map], fun i v hv => ?_⟩
  have hi : i < us.length := by
    rw [List.getElem?_toArray] at hv
    exact (List.getElem?_eq_some_iff.mp hv).1
  have hx : i < xs.length := by
    have := h.length
    rw [List.length_map] at this
    omega
  obtain ⟨u, hu, r⟩ := h.get (i := i) (x := .str xs[i]) (by rw [List.getElem?_map, List.getElem?_eq_getElem hx]; rfl)
  rw [List.getElem?_toArray, hu] at hv
  obtain rfl := Option.some.inj hv
  obtain ⟨t, rfl⟩ := r
  exact ⟨t, _, rfl, List.getElem?_eq_getElem hx⟩
section
variable {prog : Program} {w : World} {A : Around} {R : Result → Shared → Prop} {I : Addr} {fp wr : List Addr} {n : Nat} {G : Array GenState → Array GenState → Prop} {P : Nat → Value → Prop} {St : Nat → Shared → Prop}
/-- the first i of them are in the set at S -/
abbrev SetTo (prog : Program) (w : World) (h : Heap) (S : Addr) (xs : List Str) (i : Nat) : Prop := h.SetOf (PySem.strKind prog w) S (fun z => decide (z ∈ xs.take i)) i
theorem SetTo.moved {h h' : Heap} {S : Addr} {xs : List Str} {i : Nat} (x : SetTo prog w h S xs i) (k : ∀ o, h.get? S = some o → h'.get? S = some o) : SetTo prog w h' S xs i := by
  obtain ⟨ob, es, ep, tb, ho, more⟩ := x
  exact ⟨ob, es, ep, tb, k _ ho, more⟩
end
section
variable {prog : Program} {w : World} {A : Around} {E : Value → Shared → Prop} {s : Shared}
end
end My
namespace My
set_option autoImplicit false
open PySem L2 Evl
section
variable {te ta tb tc : TE} {t tr : TA} {tt : TT} {σ : L2.St} {B B' H : Hp} {p q : Pr} {ps : List Pr} {v : V} {K : PySem.W.Frag} {D : Ends}
theorem ev_chain {r1 r2 : Int → Int → Bool} {i j k : Int} (ha : Ev ta σ B (.int i)) (hb : Ev tb σ B (.int j)) (hc : Ev tc σ B (.int k)) : Ev (tChain (rI0 fun i j => .bl (r1 i j)) (rI0 fun i j => .bl (r2 i j)) ta tb tc) σ B (.bl (r1 i j && r2 j k)) := fun H1 e Q q =>
  ha H1 e _ fun H2 e2 => hb H2 (e.trans e2) _ fun H3 e3 => ⟨i, j, rfl, rfl, _, rfl, by
    cases h : r1 i j with
    | true =>
      show tc σ H3 _
      refine hc H3 ((e.trans e2).trans e3) _ fun H4 e4 => ?_
      have := q H4 ((e2.trans e3).trans e4)
      rw [h] at this
      exact ⟨j, k, rfl, rfl, this⟩
    | false =>
      have := q H3 (e2.trans e3)
      rw [h] at this
      exact this⟩
theorem ev_lenS {x : Str} (h : Ev te σ B (.str x)) (hl : x.length ≤ 100000) : Ev (tCB (fun xs H Q => ∃ z : Str, xs = [.str z] ∧ z.length ≤ sizeLine ∧ Q (.int (z.length : Nat)) H) (tCons te tNil)) σ B (.int (x.length : Int)) := fun H1 e Q q =>
  h H1 e _ fun H2 e2 => ⟨x, rfl, sz_of hl, q H2 e2⟩
theorem ev_sign {c : Nat} {z : Str} (ha : Ev ta σ B (.str ⟨#[c]⟩)) (hb : Ev tb σ B (.str z)) : Ev (tOp (fun x y H Q => ∃ (c : Nat) (z : Str), x = .str ⟨#[c]⟩ ∧ y = .str z ∧ Q (.bl (decide (c ∈ z.cps.toList))) H) ta tb) σ B (.bl (decide (c ∈ z.cps.toList))) := fun H1 e Q q =>
  ha H1 e _ fun H2 e2 => hb H2 (e.trans e2) _ fun H3 e3 => ⟨c, z, rfl, rfl, q H3 (e2.trans e3)⟩
/-- an if whose test fails, without an else -/
theorem ps_ifN {tu : TS} (a : Ex B H) (h : EvT tt σ B false) (k : ∀ H1, Ex H H1 → D.nx σ H1) : tIfS tt tu tNext D σ H := h H a _ fun H1 e => by
  rw [if_neg Bool.false_ne_true]
  exact k H1 e
end
theorem k_ll : kitB "list" "list" = some true := by decide +kernel
theorem nm_facts {x : Str} (h : IsNm x) : 1 ≤ x.length ∧ x.length ≤ 8 ∧ ∀ c ∈ x.cps, 97 ≤ c ∧ c ≤ 122 := by
  unfold IsNm isNmB at h
  simp only [Bool.and_eq_true, decide_eq_true_eq, List.all_eq_true] at h
  exact ⟨h.1.1, h.1.2, fun c hc => h.2 c (by simpa using hc)⟩
theorem let_low {c : Nat} (h1 : 97 ≤ c) (h2 : c ≤ 122) : c ∈ (Str.ofString "abcdefghijklmnopqrstuvwxyz").cps.toList := by
  have : (Str.ofString "abcdefghijklmnopqrstuvwxyz").cps.toList = (List.range 26).map (· + 97) := by decide +kernel
  rw [this]
  exact List.mem_map.mpr ⟨c - 97, List.mem_range.mpr (by omega), by omega⟩
end My
namespace My
set_option autoImplicit false
open PySem PySem.W L2 Evl
/-! ### the order of derivatives -/
def Rk.lt (r : Rk) (u v : Dv) : Prop := r.key u < r.key v
instance (r : Rk) (u v : Dv) : Decidable (r.lt u v) := inferInstanceAs (Decidable (r.key u < r.key v))
def Rk.le (r : Rk) (u v : Dv) : Bool := !decide (r.lt v u)
theorem lt3 (a b c x y z : Int) : [a, b, c] < [x, y, z] ↔ a < x ∨ (a = x ∧ (b < y ∨ (b = y ∧ c < z))) := by
  simp [List.cons_lt_cons_iff]
theorem lex3 (a b c x y z : Int) : HT.lexLt [a, b, c] [x, y, z] = decide ([a, b, c] < [x, y, z]) := by
  rw [Bool.eq_iff_iff, decide_eq_true_iff, lt3]
  unfold HT.lexLt
  by_cases h : a = x
  · rw [if_pos h]
    unfold HT.lexLt
    by_cases h2 : b = y
    · rw [if_pos h2]
      unfold HT.lexLt
      by_cases h3 : c = z
      · rw [if_pos h3]
        unfold HT.lexLt
        simp
        omega
      · rw [if_neg h3]
        simp
        omega
    · rw [if_neg h2]
      simp
      omega
  · rw [if_neg h]
    simp
    omega
theorem Rk.key3 (r : Rk) (u : Dv) : ∃ a b c, r.key u = [a, b, c] := by
  unfold Rk.key
  cases r.tot
  · exact ⟨_, _, _, rfl⟩
  · exact ⟨_, _, _, rfl⟩
theorem Rk.lt_irrefl (r : Rk) (u : Dv) : ¬ r.lt u u := by
  unfold Rk.lt
  obtain ⟨a, b, c, e⟩ := r.key3 u
  rw [e, lt3]
  omega
theorem Rk.lt_trans (r : Rk) {u v w : Dv} (h : r.lt u v) (k : r.lt v w) : r.lt u w := by
  unfold Rk.lt at *
  obtain ⟨a, b, c, e⟩ := r.key3 u
  obtain ⟨a', b', c', e'⟩ := r.key3 v
  obtain ⟨a2, b2, c2, e2⟩ := r.key3 w
  rw [e, e', lt3] at h
  rw [e', e2, lt3] at k
  rw [e, e2, lt3]
  omega
theorem Rk.tri (r : Rk) (u v : Dv) : r.lt u v ∨ r.key u = r.key v ∨ r.lt v u := by
  unfold Rk.lt
  obtain ⟨a, b, c, e⟩ := r.key3 u
  obtain ⟨a', b', c', e'⟩ := r.key3 v
  rw [e, e', lt3, lt3]
  by_cases h : a = a'
  · by_cases h2 : b = b'
    · by_cases h3 : c = c'
      · exact .inr (.inl (by rw [h, h2, h3]))
      · omega
    · omega
  · omega
theorem idx_inj {ns : List Str} {x y : Str} (hx : x ∈ ns) (hy : y ∈ ns) (h : ns.idxOf x = ns.idxOf y) : x = y := by
  have h1 := List.getElem_idxOf (List.idxOf_lt_length_of_mem hx)
  have h2 := List.getElem_idxOf (List.idxOf_lt_length_of_mem hy)
  rw [← h1, ← h2]
  congr 1
theorem Rk.key_inj (r : Rk) {u v : Dv} (hu : u.n ∈ r.ns) (hv : v.n ∈ r.ns) (h : r.key u = r.key v) : u = v := by
  obtain ⟨n, i, j⟩ := u
  obtain ⟨n', i', j'⟩ := v
  have : (i + j = i' + j') ∧ r.first ⟨n, i, j⟩ = r.first ⟨n', i', j'⟩ ∧ r.ahead ⟨n, i, j⟩ = r.ahead ⟨n', i', j'⟩ := by
    unfold Rk.key at h
    cases ht : r.tot with
    | true =>
      rw [ht, if_pos rfl, if_pos rfl] at h
      simp at h
      exact h
    | false =>
      rw [ht, if_neg Bool.false_ne_true, if_neg Bool.false_ne_true] at h
      simp at h
      exact ⟨h.2.1, h.2.2, h.1⟩
  obtain ⟨h1, h2, h3⟩ := this
  have e : n = n' := idx_inj hu hv (by unfold Rk.ahead at h3; simp only at h3; omega)
  subst e
  unfold Rk.first at h2
  by_cases hx : r.ax = 2
  · rw [if_pos hx, if_pos hx] at h2
    simp only at h2
    have : i = i' := by omega
    rw [this, h2]
  · rw [if_neg hx, if_neg hx] at h2
    simp only at h2
    have : j = j' := by omega
    rw [this, h2]
theorem Rk.cmp_lt (r : Rk) (u v : Dv) : r.cmp u v = -1 ↔ r.lt u v := by
  unfold Rk.cmp cmpL Rk.lt
  obtain ⟨a, b, c, e⟩ := r.key3 u
  obtain ⟨a', b', c', e'⟩ := r.key3 v
  rw [e, e', lex3]
  by_cases h : [a, b, c] = [a', b', c']
  · rw [if_pos h, ← h, lt3]
    omega
  · rw [if_neg h]
    by_cases k : [a, b, c] < [a', b', c']
    · simp [k]
    · simp [k]
theorem Rk.cmp_eq (r : Rk) (u v : Dv) : r.cmp u v = 0 ↔ r.key u = r.key v := by
  unfold Rk.cmp cmpL
  by_cases h : r.key u = r.key v
  · simp [h]
  · rw [if_neg h]
    constructor
    · intro k
      split at k <;> omega
    · intro k
      exact absurd k h
theorem Rk.cmp_gt (r : Rk) (u v : Dv) : r.cmp u v = 1 ↔ r.lt v u := by
  have h := r.tri u v
  have h1 := r.cmp_lt u v
  have h2 := r.cmp_eq u v
  have h3 : r.cmp u v = -1 ∨ r.cmp u v = 0 ∨ r.cmp u v = 1 := by
    unfold Rk.cmp cmpL
    split
    · exact .inr (.inl rfl)
    · split
      · exact .inl rfl
      · exact .inr (.inr rfl)
  have n1 : r.lt u v → r.lt v u → False := fun a b => r.lt_irrefl u (r.lt_trans a b)
  have n2 : r.key u = r.key v → r.lt v u → False := fun a b => by
    unfold Rk.lt at b
    rw [a] at b
    exact r.lt_irrefl v b
  constructor
  · intro k
    rcases h with h | h | h
    · rw [h1.mpr h] at k
      omega
    · rw [h2.mpr h] at k
      omega
    · exact h
  · intro k
    rcases h3 with e | e | e
    · exact (n1 (h1.mp e) k).elim
    · exact (n2 (h2.mp e) k).elim
    · exact e
/-- from u on, once more by x, or by y -/
def Dv.up (u : Dv) (x : Str) : Dv := if x = "x" then ⟨u.n, u.i + 1, u.j⟩ else ⟨u.n, u.i, u.j + 1⟩
/-! ### sorted by it -/
def Rk.sort (r : Rk) (us : List Dv) : List Dv := us.mergeSort r.le
theorem Rk.le_tot (r : Rk) (u v : Dv) : (r.le u v || r.le v u) = true := by
  unfold Rk.le
  simp
  by_cases h : r.lt v u
  · right
    intro k
    exact r.lt_irrefl u (r.lt_trans k h)
  · exact .inl h
theorem Rk.le_tr (r : Rk) (u v w : Dv) (h : r.le u v = true) (k : r.le v w = true) : r.le u w = true := by
  unfold Rk.le at *
  simp at *
  intro z
  rcases r.tri u v with a | a | a
  · exact k (r.lt_trans z a)
  · apply k
    unfold Rk.lt at *
    rw [← a]
    exact z
  · exact h a
theorem Rk.sort_le (r : Rk) (us : List Dv) : (r.sort us).Pairwise (fun u v => r.le u v = true) := List.pairwise_mergeSort (r.le_tr) (r.le_tot) us
theorem Rk.sort_perm (r : Rk) (us : List Dv) : (r.sort us).Perm us := List.mergeSort_perm us r.le
/-- strictly rising -/
theorem Rk.sort_lt (r : Rk) {us : List Dv} (hu : ∀ u ∈ us, u.n ∈ r.ns) (nd : us.Nodup) : (r.sort us).Pairwise r.lt := by
  have nd2 : (r.sort us).Nodup := (r.sort_perm us).nodup_iff.mpr nd
  have m : ∀ u ∈ r.sort us, u.n ∈ r.ns := fun u h => hu u ((r.sort_perm us).mem_iff.mp h)
  have h := r.sort_le us
  rw [List.pairwise_iff_getElem] at *
  intro i j hi hj hij
  have a := h i j hi hj hij
  have b := List.pairwise_iff_getElem.mp nd2 i j hi hj hij
  unfold Rk.le at a
  simp at a
  rcases r.tri (r.sort us)[i] (r.sort us)[j] with z | z | z
  · exact z
  · exact (b (r.key_inj (m _ (List.getElem_mem hi)) (m _ (List.getElem_mem hj)) z)).elim
  · exact (a z).elim
/-! ### what sorted with keys makes of them -/
theorem dataLt_keys (a b : List Int) : dataLt (.tuple (a.map .int)) (.tuple (b.map .int)) = decide (a < b) := by
  rw [dataLt_tuple]
  exact dataLt_ints a b
def Rk.keyD (r : Rk) (u : Dv) : PyData := .tuple ((r.key u).map .int)
theorem zip_pairs {α β γ : Type} (f : β → γ) : ∀ {xs : List α} {us : List β}, xs.length = us.length → xs.zip (us.map f) = (xs.zip us).map fun p => (p.1, f p.2)
  | [], [], _ => rfl
  | _ :: _, _ :: _, h => congrArg (_ :: ·) (zip_pairs f (by simpa using h))
theorem AllP.zip {H : Hp} (f : Dv → Pr) : ∀ {xs : List V} {us : List Dv}, AllP (us.map f) xs H → ∀ p ∈ xs.zip us, (f p.2).P p.1 H
  | [], [], _, p, h => by simp at h
  | x :: xs, u :: us, a, p, h => by
    rcases List.mem_cons.mp h with rfl | h
    · exact a.1
    · exact AllP.zip f a.2 p h
theorem AllP.of {H : Hp} (f : Dv → Pr) : ∀ {ps : List (V × Dv)}, (∀ p ∈ ps, (f p.2).P p.1 H) → AllP ((ps.map (·.2)).map f) (ps.map (·.1)) H
  | [], _ => trivial
  | p :: ps, h => ⟨h p List.mem_cons_self, AllP.of f fun q hq => h q (List.mem_cons_of_mem _ hq)⟩
theorem byKey_all (r : Rk) {H : Hp} {xs : List V} {us : List Dv} (h : AllP (us.map DvP) xs H) : AllP ((r.sort us).map DvP) (byKey xs (us.map r.keyD)) H := by
  have hl : xs.length = us.length := by
    have := h.len
    rw [List.length_map] at this
    exact this
  have e1 : xs.zip (us.map r.keyD) = (xs.zip us).map fun p => (p.1, r.keyD p.2) := zip_pairs _ hl
  have e2 : ((xs.zip us).mergeSort fun p q => r.le p.2 q.2).map (fun p => (p.1, r.keyD p.2)) = (xs.zip (us.map r.keyD)).mergeSort (dataLe false (·.2)) := by
    rw [e1]
    refine List.map_mergeSort fun p _ q _ => ?_
    rw [dataLe_eq]
    show r.le p.2 q.2 = !dataLt (r.keyD q.2) (r.keyD p.2)
    unfold Rk.keyD
    rw [dataLt_keys]
    rfl
  have e3 : ((xs.zip us).mergeSort fun p q => r.le p.2 q.2).map (·.2) = r.sort us := by
    have : us = (xs.zip us).map (·.2) := by rw [List.map_snd_zip (by omega)]
    unfold Rk.sort
    rw [this]
    simp only [List.map_snd_zip (show us.length ≤ xs.length by omega)]
    have := List.map_mergeSort (r := fun p q : V × Dv => r.le p.2 q.2) (s := r.le) (f := fun p : V × Dv => p.2) (l := xs.zip us) (fun _ _ _ _ => rfl)
    rw [this, List.map_snd_zip (by omega)]
  have e4 : byKey xs (us.map r.keyD) = ((xs.zip us).mergeSort fun p q => r.le p.2 q.2).map (·.1) := by
    unfold byKey
    rw [← e2, List.map_map]
    rfl
  rw [e4, ← e3]
  exact AllP.of DvP fun p hp => AllP.zip DvP h p ((List.mergeSort_perm _ _).mem_iff.mp hp)
end My
namespace My
set_option autoImplicit false
open PySem PySem.W L2 Evl LamX
theorem AllP.ix {H : Hp} : ∀ {ps : List Pr} {vs : List V}, ps.length = vs.length → (∀ (i : Nat) (p : Pr) (v : V), ps[i]? = some p → vs[i]? = some v → p.P v H) → AllP ps vs H
  | [], [], _, _ => trivial
  | p :: ps, v :: vs, hl, h => ⟨h 0 p v rfl rfl, AllP.ix (by simpa using hl) fun i q u a b => h (i + 1) q u a b⟩
theorem AllP.ixD {H : Hp} (f : Dv → Pr) {us : List Dv} {vs : List V} {i : Nat} {v : V} (h : AllP (us.map f) vs H) (hv : vs[i]? = some v) : ∃ u, us[i]? = some u ∧ (f u).P v H := by
  obtain ⟨p, hp, k⟩ := h.get hv
  rw [List.getElem?_map] at hp
  cases e : us[i]? with
  | none =>
    rw [e] at hp
    cases hp
  | some u =>
    rw [e] at hp
    obtain rfl : f u = p := Option.some.inj hp
    exact ⟨u, rfl, k⟩
/-- tables of code: what of the heap they lean on -/
theorem exN_ex {B H H2 : Hp} (e : Ex B H) (n : NoTab B) (k : ExtN H H2) : Ex B H2 := fun b o h => k b o (e b o h) fun ps z => n b ps (by rw [← z]; exact h)
theorem exN_of {H H' : Hp} (e : Ex H H') : ExtN H H' := fun b o h _ => e b o h
theorem nt_upd {B : Hp} {a : Addr} {o : HO} (n : NoTab B) (ho : ∀ ps, o ≠ .tbl ps) : NoTab (upd B a o) := fun b ps q => by
  by_cases h : b = a
  · subst h
    rw [upd_same] at q
    exact ho ps (Option.some.inj q)
  · rw [upd_ne h] at q
    exact n b ps q
/-! ### a for over what is known -/
section
variable {te ta tb : TE} {t tr : TA} {tt : TT} {σ : L2.St} {B B' H : Hp} {p q : Pr} {ps : List Pr} {v : V} {K : PySem.W.Frag} {D : Ends}
theorem ps_forS {wi : TI} {n : Nat} {P : Nat → Pr} {g : TG} {tbd : TS} (a : Ex B H) (h : Src wi σ B n P)
    (k : ∀ B1 H1, Gr B H B1 H1 → ∃ Pv : Nat → L2.St → Hp → Prop, Pv 0 σ H1 ∧ (∀ i σ' H', i ≤ n → Pv i σ' H' → Ex B1 H') ∧
      (∀ i v σ' H', i < n → Pv i σ' H' → (P i).P v B1 → g v σ' H' fun σ2 H2 => tbd { D with nx := Pv (i + 1), ct := Pv (i + 1), bk := D.nx } σ2 H2) ∧ ∀ σ' H', Pv n σ' H' → D.nx σ' H') :
    tFor wi g tbd D σ H := h H a _ fun J B1 H1 G Y gr w hG hY => by
  obtain ⟨Pv, h0, hE, hs, hd⟩ := k B1 H1 gr
  refine for_it w Pv h0 (fun i σ' H' hi pv => hG H' (hE i σ' H' hi pv)) (fun i x σ' H' H2 hi pv y => ?_) hd
  obtain ⟨rfl, px⟩ := hY i H' x H2 hi (hE i σ' H' (Nat.le_of_lt hi) pv) y
  exact hs i x σ' H2 hi pv px
theorem src_lq (h : EvP te σ B (LqP K ps)) : Src (iList K te) σ B ps.length (fun i => ps.getD i (IsV .non)) := fun H1 a R k => h H1 a _ fun v B2 H2 g b => by
  obtain ⟨l, xs, rfl, hx, al⟩ := b
  refine ⟨l, rfl, ⟨xs, ex_l g.c hx⟩, k _ B2 H2 _ _ g (by rw [← al.len]; exact walk_list) (fun H e => ex_l e hx) fun i H v H' _ e (z : H' = H ∧ _) => ⟨z.1, ?_⟩⟩
  obtain ⟨p, hp, k2⟩ := al.get z.2
  show (ps.getD i (IsV .non)).P v B2
  rw [List.getD_eq_getElem?_getD, hp]
  exact k2
end
/-! ### dicts by derivatives -/
def dvK (u : Dv) : List Key := [.inr u.n, .inl u.i, .inl u.j]
theorem dvK_inj {u v : Dv} (h : dvK u = dvK v) : u = v := by
  obtain ⟨n, i, j⟩ := u
  obtain ⟨n', i', j'⟩ := v
  simp [dvK] at h
  obtain ⟨rfl, rfl, rfl⟩ := h
  rfl
def addD (ds : List Dv) (u : Dv) : List Dv := if u ∈ ds then ds else ds ++ [u]
def dedD (us : List Dv) : List Dv := us.foldl addD []
def asK (ds : List Dv) : List (List Key × V) := ds.map fun u => (dvK u, .bl true)
theorem put_add (ds : List Dv) (u : Dv) : putK (asK ds) (dvK u) (.bl true) = asK (addD ds u) := by
  unfold putK addD
  by_cases h : u ∈ ds
  · rw [if_pos h, if_pos]
    · unfold asK
      rw [List.map_map]
      apply List.map_congr_left
      intro v _
      show (if dvK v = dvK u then (dvK v, V.bl true) else (dvK v, .bl true)) = _
      split <;> rfl
    · unfold asK
      rw [List.any_map, List.any_eq_true]
      exact ⟨u, h, by simp⟩
  · rw [if_neg h, if_neg]
    · unfold asK
      rw [List.map_append]
      rfl
    · unfold asK
      rw [List.any_map, List.any_eq_true]
      rintro ⟨v, hv, e⟩
      simp at e
      exact h (by rw [← dvK_inj e]; exact hv)
theorem add_mem {ds : List Dv} {u v : Dv} : v ∈ addD ds u ↔ v ∈ ds ∨ v = u := by
  unfold addD
  by_cases h : u ∈ ds
  · rw [if_pos h]
    constructor
    · exact .inl
    · rintro (k | rfl)
      · exact k
      · exact h
  · rw [if_neg h]
    simp
theorem add_nd {ds : List Dv} {u : Dv} (h : ds.Nodup) : (addD ds u).Nodup := by
  unfold addD
  by_cases k : u ∈ ds
  · rw [if_pos k]
    exact h
  · rw [if_neg k, List.nodup_append]
    exact ⟨h, by simp, fun a ha b hb => by
      rw [List.mem_singleton.mp hb]
      rintro rfl
      exact k ha⟩
theorem fold_add : ∀ (us ds : List Dv), (∀ v, v ∈ us.foldl addD ds ↔ v ∈ ds ∨ v ∈ us) ∧ (ds.Nodup → (us.foldl addD ds).Nodup)
  | [], ds => ⟨fun v => by simp, id⟩
  | u :: us, ds => by
    obtain ⟨h1, h2⟩ := fold_add us (addD ds u)
    refine ⟨fun v => ?_, fun h => h2 (add_nd h)⟩
    show v ∈ us.foldl addD (addD ds u) ↔ _
    rw [h1, add_mem, List.mem_cons]
    constructor
    · rintro ((a | a) | a)
      · exact .inl a
      · exact .inr (.inl a)
      · exact .inr (.inr a)
    · rintro (a | a | a)
      · exact .inl (.inl a)
      · exact .inl (.inr a)
      · exact .inr a
theorem ded_mem {us : List Dv} {v : Dv} : v ∈ dedD us ↔ v ∈ us := by
  unfold dedD
  rw [(fold_add us []).1]
  simp
theorem ded_len (us : List Dv) : (dedD us).length ≤ us.length := by
  have : ∀ (us ds : List Dv), (us.foldl addD ds).length ≤ ds.length + us.length := by
    intro us
    induction us with
    | nil => intro ds; simp
    | cons u us ih =>
      intro ds
      show (us.foldl addD (addD ds u)).length ≤ _
      have := ih (addD ds u)
      have h : (addD ds u).length ≤ ds.length + 1 := by
        unfold addD
        split <;> simp
      rw [List.length_cons]
      omega
  have := this us []
  unfold dedD
  simpa using this
/-! ### all derivatives to an order -/
def Rk.most (r : Rk) (o i : Nat) : Nat := if (Str.ofString "y") ∈ r.axs then o - i else 0
def Rk.row (r : Rk) (o : Nat) (n : Str) (i : Nat) : List Dv := (List.range (r.most o i + 1)).map fun (j : Nat) => ⟨n, (i : Int), (j : Int)⟩
def Rk.rowsN (r : Rk) (o : Nat) (n : Str) (m : Nat) : List Dv := (List.range m).flatMap (r.row o n)
def Rk.all (r : Rk) (o : Nat) : List Dv := r.ns.flatMap fun n => r.rowsN o n (o + 1)
theorem Rk.mem_row {r : Rk} {o i : Nat} {n : Str} {u : Dv} (h : u ∈ r.row o n i) : u.n = n ∧ u.i = i ∧ 0 ≤ u.j ∧ u.j ≤ r.most o i := by
  unfold Rk.row at h
  obtain ⟨j, hj, rfl⟩ := List.mem_map.mp h
  have := List.mem_range.mp hj
  exact ⟨rfl, rfl, by simp, by simp; omega⟩
theorem Rk.mem_all {r : Rk} {o : Nat} {u : Dv} (h : u ∈ r.all o) : u.Of r := by
  unfold Rk.all Rk.rowsN at h
  obtain ⟨n, hn, h⟩ := List.mem_flatMap.mp h
  obtain ⟨i, hi, h⟩ := List.mem_flatMap.mp h
  obtain ⟨h1, h2, h3, h4⟩ := Rk.mem_row h
  refine ⟨by rw [h1]; exact hn, by rw [h2]; simp, h3, ?_⟩
  unfold Rk.most at h4
  by_cases hy : (Str.ofString "y") ∈ r.axs
  · exact .inr hy
  · rw [if_neg hy] at h4
    exact .inl (by simp at h4; omega)
theorem nd_flat {α β : Type} {f : α → List β} : ∀ {l : List α}, l.Nodup → (∀ a ∈ l, (f a).Nodup) → (∀ a ∈ l, ∀ b ∈ l, ∀ x, x ∈ f a → x ∈ f b → a = b) → (l.flatMap f).Nodup
  | [], _, _, _ => List.nodup_nil
  | a :: l, nd, h1, h2 => by
    rw [List.flatMap_cons, List.nodup_append]
    refine ⟨h1 a List.mem_cons_self, nd_flat (List.nodup_cons.mp nd).2 (fun b hb => h1 b (List.mem_cons_of_mem _ hb)) (fun b hb c hc => h2 b (List.mem_cons_of_mem _ hb) c (List.mem_cons_of_mem _ hc)), fun x hx y hy => ?_⟩
    rintro rfl
    obtain ⟨b, hb, hx2⟩ := List.mem_flatMap.mp hy
    have := h2 a List.mem_cons_self b (List.mem_cons_of_mem _ hb) x hx hx2
    subst this
    exact (List.nodup_cons.mp nd).1 hb
theorem Rk.all_nd {r : Rk} (o : Nat) (h : r.ns.Nodup) : (r.all o).Nodup := by
  unfold Rk.all
  refine nd_flat h (fun n _ => ?_) fun a _ b _ x hx hy => ?_
  · unfold Rk.rowsN
    refine nd_flat List.nodup_range (fun i _ => ?_) fun a _ b _ x hx hy => ?_
    · unfold Rk.row
      rw [List.nodup_iff_pairwise_ne, List.pairwise_map]
      refine List.Pairwise.imp ?_ (List.pairwise_lt_range)
      intro a b hab e
      simp at e
      omega
    · have := (Rk.mem_row hx).2.1
      have := (Rk.mem_row hy).2.1
      omega
  · unfold Rk.rowsN at hx hy
    obtain ⟨i, _, hx⟩ := List.mem_flatMap.mp hx
    obtain ⟨j, _, hy⟩ := List.mem_flatMap.mp hy
    rw [← (Rk.mem_row hx).1, (Rk.mem_row hy).1]
end My
namespace My
open PySem L2 Evl
theorem ev_isiLL {K : PySem.W.Frag} {te : TE} {σ : L2.St} {B : Hp} {ps : List Pr} (h : EvP te σ B (LqP K ps)) :
    Ev (tCB (rIsiT K) (tCons te (tCons (tTup (tCons (tC (.ty "list")) (tCons (tC (.ty "tuple")) tNil))) tNil))) σ B (.bl true) := fun H1 a Q k =>
  h H1 a _ fun v B2 H2 g x => ⟨sz_of (by show 2 ≤ 100000; decide), fun r hr => ⟨v, r, _, .type "list", _, true, rfl, upd_same, .cons (.ty "list") (.cons (.ty "tuple") .nil), by
    obtain ⟨l, xs, rfl, hl, _⟩ := x
    rcases ex_l (g.c.trans (Ex.new hr)) hl with (a | ⟨o, a⟩) | ⟨o, its, n, hk, hc, _⟩
    · exact .base (.lst a)
    · exact .base (.frz a)
    · exact .kList hk hc, kitAny_cons (b := true) (kit_ty k_ll) (fun z => nomatch z) (fun _ => rfl), k _ (g.a.trans (Ex.new hr))⟩⟩
end My
namespace My
set_option autoImplicit false
open PySem L2 Evl
end My
namespace My
set_option autoImplicit false
open PySem PySem.Spec PyProof.Rows L2
def signsOf (x : Str) : List Str := (List.range x.cps.size).map (oneS x)
/-- list(x) of a text -/
theorem call_listS {X : Cx} (hc : X.calm = true) : CallR X (.type "list") (fun xs H Q => ∃ x : Str, xs = [.str x] ∧ x.length ≤ 100000 ∧ ∀ l, H l = none → Q (.ref l) (upd H l (.lst ((signsOf x).map V.str)))) := by
  intro pins s σ H xs us Q I r ⟨x, ex, hx, q⟩
  subst ex
  obtain ⟨u, rfl, rx⟩ := vals1 r
  obtain ⟨t, rfl⟩ := rx
  have hz : x.cps.size ≤ sizeLine := Evl.sz_of hx
  refine call_list_str (I.ok.hd hc) x t (fun h1 tk acc c kp at1 items => ?_) hz
  have hl : ((signsOf x).map V.str).length = x.cps.size := by
    unfold signsOf
    rw [List.length_map, List.length_map, List.length_range]
  refine ⟨.ref s.heap.objs.size, _, I.laid kp (Nat.le_refl _) (show ObjOk X.prog X.w _ _ _ (.lst ((signsOf x).map V.str)) from ⟨by rw [hl]; exact hz, acc.toList, c, ?_, by simpa using at1⟩), rfl, q _ (I.hok.fresh (Nat.le_refl _))⟩
  have ha : acc.toList.length = acc.size := by simp
  refine vals_of_at (by rw [hl, ha, items.1]) fun j v w h1 h2 => ?_
  obtain hs := items.2 j w (by rw [← Array.getElem?_toList]; exact h2)
  have hj : j < x.cps.size := by
    have := (List.getElem?_eq_some_iff.mp h1).1
    rw [hl] at this
    exact this
  have hv : v = .str (oneS x j) := by
    unfold signsOf at h1
    rw [List.getElem?_map, List.getElem?_map, List.getElem?_range hj] at h1
    exact (Option.some.inj h1).symm
  subst hv
  obtain ⟨c, tk2, hc2, rfl⟩ := hs
  refine ⟨tk2, ?_⟩
  unfold oneS
  rw [Array.getD_eq_getD_getElem?, hc2]
  rfl
end My
namespace My
set_option autoImplicit false
open PySem PySem.W L2 Evl LamX
section
variable {te ta tb : TE} {t tr : TA} {tt : TT} {σ : L2.St} {B B' H : Hp} {p q : Pr} {ps : List Pr} {v : V} {K : PySem.W.Frag} {D : Ends}
theorem AllP.take {H : Hp} : ∀ {ps : List Pr} {vs : List V} (n : Nat), AllP ps vs H → AllP (ps.take n) (vs.take n) H
  | _, _, 0, _ => trivial
  | [], [], _ + 1, _ => trivial
  | _ :: _, _ :: _, n + 1, h => ⟨h.1, AllP.take n h.2⟩
theorem ev_lenQ (h : EvP te σ B (LqP K ps)) : Ev (tCB (rLenS K) (tCons te tNil)) σ B (.int (ps.length : Int)) := fun H1 a Q k =>
  h H1 a _ fun v B2 H2 g x => by
    obtain ⟨l, xs, rfl, hl, al⟩ := x
    refine ⟨l, xs, rfl, .inl (ex_l g.c hl), ?_⟩
    rw [al.len]
    exact k H2 g.a
end
theorem eqv_nil (ds : List PyData) : PyData.eqv (.list ds) (.list []) = ds.isEmpty := by
  cases ds <;> simp [PyData.eqv, PyData.eqvAll]
/-- which of a rising row is below the k-th -/
theorem Rk.below {r : Rk} {us : List Dv} (h : us.Pairwise r.lt) {i k : Nat} (hi : i < us.length) (hk : k < us.length) : decide (r.cmp us[i] us[k] < 0) = decide (i < k) := by
  rw [List.pairwise_iff_getElem] at h
  by_cases e : i < k
  · rw [decide_eq_true e, (r.cmp_lt _ _).mpr (h i k hi hk e)]
    rfl
  · rw [decide_eq_false e, decide_eq_false_iff_not]
    by_cases e2 : i = k
    · subst e2
      rw [(r.cmp_eq _ _).mpr rfl]
      decide
    · rw [(r.cmp_gt _ _).mpr (h k i hk hi (by omega))]
      decide
/-- an object at d, a dict, left out -/
theorem wo_at {d b : Addr} {H : Hp} {o : HO} {kvs : List (Key × V)} (hd : H d = some (.dK kvs)) (h : H b = some o) (n : ∀ kvs, o ≠ .dK kvs) : wo d H b = some o := by
  rw [wo_ne fun z => by
    subst z
    rw [hd] at h
    exact n kvs (Option.some.inj h).symm]
  exact h
/-- all but d and the tables of code -/
def ExtB (d : Addr) (H H' : Hp) : Prop := ∀ b o, b ≠ d → H b = some o → (∀ ps, o ≠ .tbl ps) → H' b = some o
theorem ExtB.of {d : Addr} {H H' : Hp} (h : ExtN H H') : ExtB d H H' := fun b o _ e n => h b o e n
theorem ExtB.trans {d : Addr} {H H1 H2 : Hp} (a : ExtB d H H1) (b : ExtB d H1 H2) : ExtB d H H2 := fun c o h e n => b c o h (a c o h e n) n
theorem ExtB.ex {d : Addr} {B H H' : Hp} (h : ExtB d H H') (e : Ex B H) (n : NoTab B) (hd : B d = none) : Ex B H' := fun b o k => h b o (ne_of_none k hd) (e b o k) fun ps z => n b ps (by rw [← z]; exact k)
theorem tabs_but {T : List (Addr × Str)} {d : Addr} {H H' : Hp} {kvs : List (Key × V)} (t : Tabs T H) (hd : H d = some (.dK kvs)) (s : ∀ b o, b ≠ d → H b = some o → H' b = some o) : Tabs T H' := by
  have e : ∀ b o, wo d H b = some o → H' b = some o := fun b o k => by
    obtain ⟨n, q⟩ := wo_some k
    exact s b o n q
  refine Tabs.ext (H := wo d H) (fun p hp => ?_) e
  obtain ⟨ps, h1, h2, h3⟩ := t p hp
  refine ⟨ps, (wo_at hd h1 (fun _ z => nomatch z)), h2, fun pos cv hc => ?_⟩
  obtain ⟨c, e1, e2⟩ := h3 pos cv hc
  exact ⟨c, e1, wo_at hd e2 fun kvs z => by unfold CodeO at z; cases z⟩
end My
namespace My
set_option autoImplicit false
open PySem PySem.W L2 Evl LamX
section
variable {te ta tb : TE} {t tr : TA} {tt : TT} {σ : L2.St} {B B' H : Hp} {p q : Pr} {ps : List Pr} {v : V} {K : PySem.W.Frag} {D : Ends}
/-- a pair unpacked -/
theorem ps_un2 {i j : Nat} (a : Ex B H) (h : EvP te σ B (TuP K [p, q])) (n : ∀ v w B1 H1, Gr B H B1 H1 → p.P v B1 → q.P w B1 → D.nx ((σ.set i (some v)).set j (some w)) H1) :
    tAsg te (gTup K 2 (gCons (gName i) (gCons (gName j) gNil))) D σ H := h H a _ fun v B1 H1 g x => by
  obtain ⟨l, xs, rfl, h2, h3⟩ := x
  match xs, h3 with
  | [v, w], h3 => exact ⟨_, _, rfl, ex_t g.c h2, rfl, _, _, rfl, _, _, rfl, rfl, n v w B1 H1 g h3.1 h3.2.1⟩
theorem ev_notR {a : Addr} {i : Nat} (h : σ[i]? = some (some (.ref a))) : Ev (tOp (fun x y H Q => y = V.non ∧ Q (.bl (!decide (x = V.non))) H) (tVar i) (tC .non)) σ B (.bl true) := fun H1 _ Q k =>
  ⟨.ref a, h, rfl, k H1 (Ex.refl H1)⟩
end
end My
namespace My
set_option autoImplicit false
open PySem PySem.W L2 Evl
/-! ### which one is above, told otherwise -/
/-! ### rising, one put in behind the other -/
/-- where a derivative is put -/
def Rk.spot (r : Rk) (us : List Dv) (a : Dv) : Nat := (us.filter fun b => decide (r.lt b a)).length
def Rk.put (r : Rk) (us : List Dv) (a : Dv) : List Dv := if a ∈ us then us else us.insertIdx (r.spot us a) a
theorem Rk.spot_le (r : Rk) (us : List Dv) (a : Dv) : r.spot us a ≤ us.length := List.length_filter_le _ _
theorem ins_eq {α : Type} (a : α) : ∀ (n : Nat) (l : List α), n ≤ l.length → l.insertIdx n a = l.take n ++ a :: l.drop n
  | 0, l, _ => by simp
  | n + 1, x :: l, h => by
    rw [List.insertIdx_succ_cons, ins_eq a n l (by simpa using h)]
    simp
theorem Rk.put_len (r : Rk) (us : List Dv) (a : Dv) : (r.put us a).length ≤ us.length + 1 := by
  unfold Rk.put
  split
  · omega
  · rw [ins_eq _ _ _ (r.spot_le us a), List.length_append, List.length_cons, List.length_take, List.length_drop]
    have := r.spot_le us a
    omega
/-- strictly rising rows of the same derivatives are the same -/
theorem Rk.rise_one (r : Rk) {us vs : List Dv} (h : us.Pairwise r.lt) (k : vs.Pairwise r.lt) (e : ∀ v, v ∈ us ↔ v ∈ vs) : us = vs := by
  have nd : ∀ {l : List Dv}, l.Pairwise r.lt → l.Nodup := fun {l} h => List.Pairwise.imp (fun {a b} z e => by
    subst e
    exact r.lt_irrefl _ z) h
  refine List.Perm.eq_of_pairwise (le := r.lt) (fun u v _ _ a b => (r.lt_irrefl u (r.lt_trans a b)).elim) h k ((List.perm_ext_iff_of_nodup (nd h) (nd k)).mpr e)
/-! ### all to an order, told otherwise -/
def Rk.line (r : Rk) (n : Str) (t : Nat) : List Dv := (List.range (if r.axs.length = 2 then t + 1 else 1)).map fun (j : Nat) => ⟨n, (t : Int) - j, (j : Int)⟩
/-- those of the order 0, rising -/
theorem Rk.zero (r : Rk) (hn : r.ns.Nodup) : r.sort (r.all 0) = r.ns.reverse.map fun n => ⟨n, 0, 0⟩ := by
  have e0 : r.all 0 = r.ns.map fun n => (⟨n, 0, 0⟩ : Dv) := by
    unfold Rk.all Rk.rowsN Rk.row Rk.most
    induction r.ns with
    | nil => rfl
    | cons n ns ih =>
      rw [List.flatMap_cons, ih, List.map_cons]
      split <;> simp [List.range_succ]
  refine r.rise_one (r.sort_lt (fun u hu => (Rk.mem_all hu).n) (r.all_nd 0 hn)) ?_ fun v => ?_
  · rw [List.pairwise_map, List.pairwise_reverse]
    rw [List.pairwise_iff_getElem]
    intro i j hi hj hij
    unfold Rk.lt Rk.key Rk.first Rk.ahead
    have ix : ∀ (k : Nat) (hk : k < r.ns.length), r.ns.idxOf r.ns[k] = k := fun k hk => by
      have h1 := List.idxOf_lt_length_of_mem (List.getElem_mem hk)
      have h2 := List.getElem_idxOf h1
      by_cases e : r.ns.idxOf r.ns[k] = k
      · exact e
      · exact ((List.nodup_iff_pairwise_ne.mp hn) |> fun hp => by
          rw [List.pairwise_iff_getElem] at hp
          rcases Nat.lt_or_gt_of_ne e with z | z
          · exact (hp _ _ h1 hk z h2).elim
          · exact (hp _ _ hk h1 z h2.symm).elim)
    have e1 := ix i hi
    have e2 := ix j hj
    simp only [e1, e2]
    cases r.tot
    · simp [lt3]
      omega
    · simp only [if_true, lt3]
      exact .inr ⟨trivial, .inr ⟨trivial, by omega⟩⟩
  · rw [(r.sort_perm _).mem_iff, e0]
    simp
end My
namespace Gd
set_option autoImplicit false
open PySem PySem.Spec PyProof.Rows L2 LamX My
/-- a def's promise, where no repr is under way -/
structure FnG (P : Program) (w : World) (K : PySem.W.Frag) (mg : Str → Option Value) (base : Heap) (k : Nat) (f : Addr) (fd : FuncData) (ps : List Str) (sp : Sp) : Prop where
  len : ∀ vs H Q E, sp vs H Q E → vs.length = ps.length
  run : ∀ (A : Around) (outer : List Env) (s : Shared) (H : Hp) (args : Args) (us : List Value) (vs : List V) (Q : VK) (E : XK), Room k A → A.guards = some [] → Env0 P w K mg base A outer s H → BindsTo s fd args (ps.zip us) → Vals vs us → sp vs H Q E →
    codeAny (model P w) A (.call (.ref f) args) (CR CX0 outer P w H s Q E) s
section
variable {P : Program} {w : World} {K : PySem.W.Frag} {mg : Str → Option Value} {base : Heap} {k : Nat} {f : Addr} {fd : FuncData} {ps : List Str} {sp : Sp}
theorem FnG.of (F : FnOk P w K mg base CX0 k f fd ps sp) : FnG P w K mg base k f fd ps sp := ⟨F.len, fun A outer s H args us vs Q E hr _ => F.run A outer s H args us vs Q E hr⟩
theorem fnG_of {name qual : Str} {params : Arguments} {body : List Stmt} {scope : Scope} {dV kV doc pm cdv ct oc : Value} {an od : Option Addr} {osl : Array (Option Value)} {N : List Str}
    (lk : K.lookup f = some ⟨oc, od, .func (PySem.W.fnOf name qual params body scope dV kV doc pm an cdv ct), osl⟩) (hcd : PySem.W.codeIn K cdv qual = true) (S : FnScope N ps scope) (len : ∀ vs H Q E, sp vs H Q E → vs.length = ps.length)
    (go : ∀ (A : Around) (outer : List Env) (s : Shared) (H : Hp) (vs : List V) (Q : VK) (E : XK), Room k (A.deeper (envOfC qual scope s.heap.objs.size f cdv)) → (A.deeper (envOfC qual scope s.heap.objs.size f cdv)).guards = some [] → sp vs H Q E →
      ∃ t, PSs (cxOf CX0 P w K mg base N qual scope f cdv A outer s H E) body t ∧ t { nx := fun _ H' => Q .non H', rt := Q } (start N vs) H) :
    FnG P w K mg base (k + 1) f (PySem.W.fnOf name qual params body scope dV kV doc pm an cdv ct) ps sp := by
  refine ⟨len, fun A outer s H args us vs Q E hr hg e0 hb r hsp => ?_⟩
  have old := fun (b : Addr) (o : Obj) (e : base.get? b = some o) => (e0.bs b o e).1
  have inK : K.In s.heap := e0.mod.kin.keeps old
  have local_ := fun (y : Str × Value) (hy : y ∈ ps.zip us) => (S.par y.1 (List.of_mem_zip hy).1).imp id fun q => (⟨q, PySem.W.cellsFrom_some _ _ _ (.inl q)⟩ : scope.names.lookup y.1 = some .cell ∧ ((cellsFrom (s.heap.objs.size + 1) scope.names []).lookup y.1).isSome = true)
  refine codeAny_call_function hr.depth (inK _ _ lk) rfl S.co S.gen rfl (PySem.W.codeRec_of inK hcd) (hb _ _ _ _ (wpAny_newFunctionEnv_cells S.kind local_ fun env he s1 x => ?_))
  subst he
  obtain ⟨t, ht, hq⟩ := go A outer s H vs Q E (hr.deeper _) hg hsp
  refine ⟨(e0.mod.nolimit.keeps old).keeps x.toInCall.keep, codeAny_func (wpAny_mono (ht.run [] s1 _ H _ (inv_start S hr.hd e0 (len _ _ _ _ hsp) r x) hq) (fun fl s' hs => ?_) fun e s' hs => hs)⟩
  cases fl with
  | ret u => exact let ⟨v, _, H', J, rv, q⟩ := hs; ⟨v, H', J.os, J.bare, J.base, J.hok, rv, q⟩
  | next => exact let ⟨_, H', J, q⟩ := hs; ⟨V.non, H', J.os, J.bare, J.base, J.hok, rfl, q⟩
  | brk => exact let ⟨_, _, _, q⟩ := hs; q.elim
  | cont => exact let ⟨_, _, _, q⟩ := hs; q.elim
/-- the rule for a def by its body -/
theorem okG {x qual : Str} {st : Stmt} {N : List Str} (F : Fun K x qual st f fd) (S : FnScope N ps (defScope st)) (len : ∀ vs H Q E, sp vs H Q E → vs.length = ps.length)
    (go : ∀ (cdv : Value) (A : Around) (outer : List Env) (s : Shared) (H : Hp) (vs : List V) (Q : VK) (E : XK), Room k (A.deeper (envOfC qual (defScope st) s.heap.objs.size f cdv)) → (A.deeper (envOfC qual (defScope st) s.heap.objs.size f cdv)).guards = some [] → sp vs H Q E →
      ∃ t, PSs (cxOf CX0 P w K mg base N qual (defScope st) f cdv A outer s H E).nox (defBody st) t ∧ t { nx := fun _ H' => Q .non H', rt := Q } (start N vs) H) : FnG P w K mg base (k + 1) f fd ps sp := by
  obtain ⟨oc, od, kV, doc, pm, an, cdv, ct, osl, rfl, lk, hcd⟩ := F.ex
  exact fnG_of lk hcd S len fun A outer s H vs Q E hr hg hsp => let ⟨t, h1, h2⟩ := go cdv A outer s H vs Q E hr hg hsp; ⟨t, h1.nox, h2⟩
/-- a def as it is called -/
structure CalG (P : Program) (w : World) (K : PySem.W.Frag) (mg : Str → Option Value) (base : Heap) (x : Str) (k : Nat) (ps : List Str) (sp : Sp) (f : Addr) (fd : FuncData) : Prop where
  G : FnG P w K mg base k f fd ps sp
  m : mg x = some (.ref f)
  k : PySem.W.keepIn K (.ref f) = true
  b : Binds K fd ps []
end
section
variable {X : Cx} {k : Nat} {f : Addr} {fd : FuncData} {ps : List Str} {sp : Sp} {dvs : List V} {ds : List Value} {E : XK} {x : Str} {p pos : Pos} {e : Expr} {es : List Expr} {t : TA}
theorem pe_callG (F : FnG X.prog X.w X.K X.mg X.base k f fd ps sp) (hr : Room k X.A) (hG : X.A.guards = some []) (hg : Gl X x) (hm : X.mg x = some (.ref f)) (hk : PySem.W.keepIn X.K (.ref f) = true) (hb : Binds X.K fd ps ds) (hd : Vals dvs ds) (hx : Passes CX0 X E) (ha : PA X (e :: es) t)
    (hdb : (x == ("__debug__" : Str)) = false := by decide) (he : starEach (e :: es) X.env = (false, eval e X.env) :: starEach es X.env := by rfl) (hpl : (backTo pos (starEach es X.env)).any (·.1) = false := by rfl) : PE X (.Call (.Name x p) (e :: es) [] pos) (tCall sp dvs E t) :=
  ⟨fun pins s σ H Q I h => wpAny_Call_Name_kw (ld_glob I hg hm (PySem.W.callWith_K (h₀ := X.base) I.ok.mod.kin hk (thn (ha.run pos pins s σ H _ I h) fun us s1 ⟨vs, H1, I1, r, q⟩ => ⟨I1.kIn, by
    have ra := r.append hd
    have hl : (us ++ ds).length = ps.length := ra.length.symm.trans (F.len _ _ _ _ q)
    refine wpAny_call (codeAny_mono (F.run X.A X.stack s1 H1 ⟨us, []⟩ (us ++ ds) (vs ++ dvs) Q E hr hG I1.env0 (hb s1 us I1.kIn hl) ra q) fun r s' hq => ?_)
    match r, hq with
    | .error e, hq => exact hx pins σ H1 s1 e s' I1 hq
    | .ok (.ret u), hq => exact I1.after hq⟩) he hpl) hdb)⟩
end
/-! ### repr of data -/
mutual
theorem dp_nd {K : PySem.W.Frag} {H : Hp} : ∀ {d : PyData} {v : V}, Dp K H v d → d.hasDict = false
  | _, _, .non => by simp only [PyData.hasDict]
  | _, _, .bl b => by simp only [PyData.hasDict]
  | _, _, .int i => by simp only [PyData.hasDict]
  | _, _, .str x => by simp only [PyData.hasDict]
  | _, _, .lst _ b => by simp only [PyData.hasDict]; exact dps_nd b
  | _, _, .tup _ b => by simp only [PyData.hasDict]; exact dps_nd b
theorem dps_nd {K : PySem.W.Frag} {H : Hp} : ∀ {ds : List PyData} {vs : List V}, DpAll K H vs ds → PyData.hasDictAll ds = false
  | _, _, .nil => by simp only [PyData.hasDictAll]
  | _, _, .cons a b => by simp only [PyData.hasDictAll, dp_nd a, dps_nd b, Bool.or_self]
end
def rRepr (K : PySem.W.Frag) : List V → Hp → VK → Prop := fun xs H Q => ∃ x d, xs = [x] ∧ Dp K H x d ∧ d.showable = true ∧ d.depth ≤ 60 ∧ d.shown.length ≤ 1000000 ∧ Q (.str d.shown) H
theorem call_reprG {X : Cx} (hG : X.A.guards = some []) (hu : X.A.units + 64 < cLine) : CallR X (.builtin "repr") (rRepr X.K) := by
  intro pins s σ H xs us Q I r ⟨x, d, e, hd, hs, hp, hz, q⟩
  subst e
  obtain ⟨u, rfl, rx⟩ := vals1 r
  have hz' : d.shown.length ≤ sizeLine := Nat.le_trans hz (by decide)
  have hn := dp_nd hd
  have fin : ∀ {a : Addr}, u = .ref a → wpAny (model X.prog X.w) X.A (call (.builtin "repr") [u]) (EP X pins σ Q) X.xe s := fun {a} e => by
    subst e
    obtain ⟨as, ra⟩ := Dp.reads I d x _ hd rx
    exact repr_of_reads' ra hs (PyData.noDict_hsm hn) hG (by omega) (fun _ _ e => e) (fun h' u tk hk => ⟨.str d.shown, H, I.kept (t' := tk) hk, ⟨u, rfl⟩, q⟩) hz'
  cases hd with
  | non =>
    obtain rfl : u = Value.none := rx
    simp only [PyData.shown] at q
    exact PySem.P.repr_of_none ⟨.str _, H, I.tok _, ⟨_, rfl⟩, q⟩
  | bl b =>
    obtain rfl : u = Value.bool b := rx
    simp only [PyData.shown] at q
    exact PySem.P.repr_of_bool ⟨.str _, H, I.tok _, ⟨_, rfl⟩, q⟩
  | int i =>
    obtain ⟨t, rfl⟩ := rx
    simp only [PyData.shown] at q
    refine PySem.P.repr_of_int ?_ ⟨.str _, H, I.tok _, ⟨_, rfl⟩, q⟩
    simpa only [PyData.showable, decide_eq_true_eq] using hs
  | str y =>
    obtain ⟨t, rfl⟩ := rx
    simp only [PyData.shown] at q hz'
    exact PySem.P.repr_of_str ⟨.str _, H, I.tok _, ⟨_, rfl⟩, q⟩ hz'
  | lst a b => exact fin rx
  | tup a b => exact fin rx
end Gd
namespace Gd
set_option autoImplicit false
open PySem PySem.Spec PyProof.Rows L2 LamX My
/-- the abstract heap at the law's call: the script where it isn't written, the empty tables -/
def scrO (vs : List Value) : Obj := { cls := .type "list", data := .seq vs.toArray }
def tabO : Obj := { cls := .none, data := .fields #[] }
open Classical in
noncomputable def H0 (K : PySem.W.Frag) (a : Addr) (vs : List Value) (ns : List Int) (ts : List Addr) : Hp := fun b => if b ∈ ts then some (.tbl #[]) else if b = a ∧ K.lookup a = none then some (.frz (scrO vs) (.lst (ns.map V.int))) else none
theorem H0_t {K : PySem.W.Frag} {a : Addr} {vs : List Value} {ns : List Int} {ts : List Addr} {b : Addr} (h : b ∈ ts) : H0 K a vs ns ts b = some (.tbl #[]) := if_pos h
theorem H0_some {K : PySem.W.Frag} {a : Addr} {vs : List Value} {ns : List Int} {ts : List Addr} {b : Addr} {u : HO} (h : H0 K a vs ns ts b = some u) : (b ∈ ts ∧ u = .tbl #[]) ∨ (b = a ∧ K.lookup a = none ∧ u = .frz (scrO vs) (.lst (ns.map V.int))) := by
  unfold H0 at h
  split at h
  · rename_i q
    exact .inl ⟨q, (Option.some.inj h).symm⟩
  · split at h
    · rename_i q
      exact .inr ⟨q.1, q.2, (Option.some.inj h).symm⟩
    · cases h
section
variable {P : Program} {w : World} {K : PySem.W.Frag} {mg mb : Str → Option Value} {k : Nat} {fa a : Addr} {cs : List (Addr × Addr)} {fd : FuncData} {x : Str} {sp : Sp} {s1 : Shared} {vs : List Value} {ns : List Int}
theorem lawG (KX : K.In s1.heap) (hns : s1.heap.Ns mainGlobals mg) (hb : s1.heap.Ns builtinsNs mb) (hbb : ∀ x : Str, x ≠ "__name__" → mb x = bootBuiltins x) (hlim : s1.heap.NoLimit) (hgen : s1.gens = #[])
    (hT : ∀ p ∈ cs, s1.heap.get? p.2 = some tabO) (nT : ∀ p ∈ cs, K.lookup p.2 = none) (hC : ∀ p ∈ cs, PySem.W.CodeHd s1.heap p.1 p.2)
    (hbm : ∃ (bm : Addr) (ob : Obj), mg "__builtins__" = some (.ref bm) ∧ bm ≠ builtinsNs ∧ s1.heap.get? bm = some ob ∧ ob.cls = .type "module" ∧ ob.dict = some builtinsNs ∧ ob.data = .plain)
    (ha : s1.heap.get? a = some (scrO vs)) (hi : IntsAre vs ns) (hl : ns.length ≤ sizeLine) (hr : Room k callerA)
    (F : ∀ base : Heap, K.In base → base.Ns mainGlobals mg → (∀ p ∈ cs, TabB base mg p.1 p.2) → FnG P w K mg base k fa fd [x] sp) (hbind : ∀ (s : Shared) (u : Value), BindsTo s fd ⟨[u], []⟩ [(x, u)])
    (hsp : ∀ H : Hp, (∀ p ∈ cs, H p.2 = some (.tbl #[])) → SqL K H a (ns.map V.int) → sp [.ref a] H (fun v _ => v = .bl true) fun _ _ _ => False) :
    codeAny (model P w) callerA (.call (.ref fa) ⟨[.ref a], []⟩) (fun r s' => r = .ok (.ret (.bool true)) ∧ OldK s1.heap s'.heap ∧ s'.os = s1.os ∧ AllBare s'.gens) s1 := by
  let ts := cs.map (·.2)
  have tab : ∀ b ∈ ts, ∃ p ∈ cs, p.2 = b := fun b q => by
    obtain ⟨p, h1, h2⟩ := List.mem_map.mp q
    exact ⟨p, h1, h2⟩
  have inT : ∀ p ∈ cs, p.2 ∈ ts := fun p q => List.mem_map.mpr ⟨p, q, rfl⟩
  have tAt : ∀ b ∈ ts, s1.heap.get? b = some tabO := fun b q => by
    obtain ⟨p, h1, rfl⟩ := tab b q
    exact hT p h1
  have aT : a ∉ ts := fun q => by
    have := tAt a q
    rw [ha] at this
    exact nomatch congrArg Obj.data (Option.some.inj this)
  generalize hH : H0 K a vs ns ts = H
  have at1 : ∀ {b u}, H b = some u → (b ∈ ts ∧ u = .tbl #[]) ∨ (b = a ∧ K.lookup a = none ∧ u = .frz (scrO vs) (.lst (ns.map V.int))) := fun {b u} q => by
    rw [← hH] at q
    exact H0_some q
  have atT : ∀ p ∈ cs, H p.2 = some (.tbl #[]) := fun p q => by
    rw [← hH]
    exact H0_t (inT p q)
  -- what is neither a list of that kind nor a table is not tracked
  have free : ∀ {b : Addr} {o : Obj}, s1.heap.get? b = some o → (∀ us m, o.data ≠ .seq us m) → o.data ≠ .fields #[] → H b = none := fun {b o} e n1 n2 => by
    cases q : H b with
    | none => rfl
    | some u =>
      rcases at1 q with ⟨h1, _⟩ | ⟨h1, _⟩
      · have := tAt b h1
        rw [e] at this
        exact absurd (congrArg Obj.data (Option.some.inj this)) n2
      · rw [h1, ha] at e
        exact absurd (congrArg Obj.data (Option.some.inj e)).symm (n1 _ _)
  have ground : ∀ {b : Addr} {m : Str → Option Value}, s1.heap.Ns b m → (hidT s1.heap H).Ns b m := fun {b m} h => by
    obtain ⟨o, es, ep, e, d, r⟩ := h
    exact ⟨o, es, ep, hidT_get e (free e (fun us m z => by rw [d] at z; cases z) fun z => by rw [d] at z; cases z), d, r⟩
  have KB : K.In (hidT s1.heap H) := fun b o e => hidT_get (KX b o e) <| by
    cases q : H b with
    | none => rfl
    | some u =>
      rcases at1 q with ⟨h1, _⟩ | ⟨h1, h2, _⟩
      · obtain ⟨p, hp, rfl⟩ := tab b h1
        rw [nT p hp] at e
        cases e
      · rw [h1, h2] at e
        cases e
  have TB : ∀ p ∈ cs, TabB (hidT s1.heap H) mg p.1 p.2 := fun p hp => by
    have t1 := hT p hp
    have gne : mainGlobals ≠ p.2 := fun z => by
      obtain ⟨o, es, ep, e, hd, _⟩ := hns
      rw [z, t1] at e
      cases e
      cases hd
    refine ⟨?_, ?_, gne⟩
    · obtain ⟨o, us, fi, tf, fl, tg, inF, tx, tt, e1, r1, r2, r3, rest⟩ := hC p hp
      exact ⟨o, us, fi, tf, fl, tg, inF, tx, tt, hidT_get e1 (free e1 (fun us m z => by rw [r2] at z; cases z) fun z => by rw [r2] at z; cases z; simp at r3), r1, r2, r3, rest⟩
    · obtain ⟨bm, ob, b1, b2, b3, b4, b5, b6⟩ := hbm
      refine ⟨bm, ob, b1, b2, fun z => ?_, fun z => ?_, hidT_get b3 (free b3 (fun us m z => by rw [b6] at z; cases z) fun z => by rw [b6] at z; cases z), b4, b5, b6⟩
      · obtain ⟨o, es, ep, e, hd, _⟩ := hns
        rw [← z, b3] at e
        cases e
        rw [b6] at hd
        cases hd
      · rw [z, t1] at b3
        cases b3
        cases b6
  have rv := vals_ints hi
  have hvs := hi.length
  have sq : SqL K H a (ns.map V.int) := by
    cases q : K.lookup a with
    | none => exact .inl (.inr ⟨scrO vs, by rw [← hH]; exact (if_neg aT).trans (if_pos ⟨rfl, q⟩)⟩)
    | some o =>
      have e := KX a o q
      rw [ha] at e
      cases e
      exact .inr ⟨scrO vs, vs.toArray, _, q, rfl, rfl, rfl, by rw [List.size_toArray, hvs]; exact hl, by simpa using rv⟩
  have hok : HOk P w H s1.heap := fun b u q => by
    rcases at1 q with ⟨h1, rfl⟩ | ⟨rfl, _, rfl⟩
    · exact tAt b h1
    · exact ⟨ha, by rw [List.length_map]; exact hl, vs, _, rv, ha⟩
  have env : Env0 P w K mg (hidT s1.heap H) callerA [] s1 H := ⟨rfl, ⟨KB, ground hns, ⟨mb, ground hb, hbb⟩, (let ⟨mc, h1, h2⟩ := hlim; ⟨mc, ground h1, h2⟩)⟩, fun b o e => of_hidT e, Nat.le_of_eq (hidT_size _ _), trivial, fun b z => (nomatch z), hok, .of_eq hgen⟩
  refine codeAny_mono ((F _ KB (ground hns) TB).run callerA [] s1 H ⟨[.ref a], []⟩ [.ref a] [.ref a] _ _ hr rfl env (hbind s1 (.ref a)) (.cons rfl .nil) (hsp H atT sq)) fun r s' h => ?_
  match r, h with
  | .ok (.ret u), h =>
    obtain ⟨v, H', os, bare, un, hok', r', q⟩ := h
    obtain rfl : v = .bl true := q
    obtain rfl : u = Value.bool true := r'
    have more : ∀ b ∈ ts, ∃ m : Array Value, s'.heap.get? b = some { cls := .none, data := .fields m } := fun b hb => by
      obtain ⟨p, hp, rfl⟩ := tab b hb
      obtain ⟨m, z⟩ := un.tbls _ #[] (atT p hp)
      exact ⟨_, hok' _ _ z⟩
    have stay : ∀ b o, b ∉ ts → s1.heap.get? b = some o → s'.heap.get? b = some o := fun b o nb e => by
      cases q : H b with
      | none => exact un.keep b o e q (fun z => (nomatch z)) (fun z => (nomatch z))
      | some u =>
        rcases at1 q with ⟨h1, _⟩ | ⟨_, _, rfl⟩
        · exact absurd h1 nb
        · have e1 := (hok b _ q).1
          have e2 := (hok' b _ (un.frzs b _ _ q)).1
          rw [e1] at e
          cases e
          exact e2
    refine ⟨rfl, ⟨fun b o e => ?_, fun b o e => ?_⟩, os, bare⟩
    · by_cases hbt : b ∈ ts
      · obtain ⟨m, hm⟩ := more b hbt
        obtain ⟨p, hp, rfl⟩ := tab b hbt
        have t1 := hT p hp
        rw [t1] at e
        cases e
        exact .inr (.inl ⟨((hC p hp).tab t1).isCodeTable, rfl, #[], m, rfl, by rw [Array.empty_append]; exact hm⟩)
      · exact .inl (stay b o hbt e)
    · by_cases hbt : b ∈ ts
      · exact let ⟨m, hm⟩ := more b hbt; ⟨_, hm⟩
      · exact ⟨o, stay b o hbt e⟩
/-- what the end asks, at the head's heap -/
def LawAtG (l : PySem.W.OpenLaw) (w : World) (K : PySem.W.Frag) (k n : Nat) (x : Str) (mg : Str → Option Value) (fa : Addr) (h : Heap) : Prop :=
  ∃ (fd : FuncData) (cs : List (Addr × Addr)) (sp : Sp), (∀ p ∈ cs, h.get? p.2 = some tabO) ∧ (∀ p ∈ cs, K.lookup p.2 = none) ∧ (∀ p ∈ cs, PySem.W.CodeHd h p.1 p.2) ∧ (∀ (s : Shared) (u : Value), BindsTo s fd ⟨[u], []⟩ [(x, u)]) ∧
    (∀ (H : Hp) (a : Addr) (ns : List Int), ns.length ≤ n → (∀ z ∈ ns, Builtin.Int.intBits z ≤ 1048576) → (∀ p ∈ cs, H p.2 = some (.tbl #[])) → SqL K H a (ns.map V.int) → sp [.ref a] H (fun v _ => v = .bl true) fun _ _ _ => False) ∧
    ∀ base : Heap, K.In base → base.Ns mainGlobals mg → (∀ p ∈ cs, TabB base mg p.1 p.2) → FnG l.prog w K mg base k fa fd [x] sp
end
end Gd
namespace Gd
set_option autoImplicit false
open PySem PySem.Spec PyProof.Rows L2 LamX My Evl
/-! ### how long what repr tells is -/
section
variable {te : TE} {σ : L2.St} {B : Hp} {K : PySem.W.Frag} {d : PyData}
/-- repr of what is known -/
theorem ev_repr (h : EvP te σ B (IsD K d)) (hs : d.showable = true) (hp : d.depth ≤ 60) (hz : d.shown.length ≤ 1000000) : Ev (tCB (rRepr K) (tCons te tNil)) σ B (.str d.shown) := fun H1 a Q k =>
  h H1 a _ fun v B2 H2 g x => ⟨v, d, rfl, dp_m g.c x, hs, hp, hz, k H2 g.a⟩
end
end Gd
namespace Gd
set_option autoImplicit false
open PySem PySem.Spec PyProof.Rows L2 LamX My
section
variable {X : Cx} {k n : Nat} {f : Addr} {fd : FuncData} {ps ks : List Str} {sp : Sp} {E : XK} {x : Str} {p pos : Pos} {kws : List Keyword} {tk : TA} {g : List Value → List Value → List Value} {gV : List V → List V → List V}
/-- f(k = v, ..), keywords alone -/
theorem pe_callN0 (F : FnOk X.prog X.w X.K X.mg X.base CX0 k f fd ps sp) (hr : Room k X.A) (hg : Gl X x) (hm : X.mg x = some (.ref f)) (hk : PySem.W.keepIn X.K (.ref f) = true) (hb : KBn X.K fd ps 0 ks g gV) (hx : Passes CX0 X E) (hkw : PK X kws tk)
    (hall : (backToKw pos (keywordEach kws X.env)).all (·.1.isSome) = true := by rfl) (hks : (backToKw pos (keywordEach kws X.env)).filterMap (·.1) = ks := by rfl) (hdb : (x == ("__debug__" : Str)) = false := by decide)
    (hpl : ((backTo pos (starEach [] X.env)).any (·.1) || (backToKw pos (keywordEach kws X.env)).any (·.1.isNone)) = false := by rfl) : PE X (.Call (.Name x p) [] kws pos) (tCallN 0 ks.length sp gV E tNil tk) :=
  ⟨fun pins s σ H Q I h => wpAny_Call_Name_kw (ld_glob I hg hm (PySem.W.callWith_KW0 (h₀ := X.base) I.ok.mod.kin hk hall (thn (hkw.run pos pins s σ H _ I h) fun ws s2 ⟨zs, H2, I2, rz, l1, l2, q2⟩ => ⟨I2.kIn, by
    rw [hks]
    exact run_fnN (us := []) (vs := []) F hr hb hx I2 .nil rz rfl l2 q2⟩) hpl) hdb)⟩
end
section
variable {K : PySem.W.Frag} {x qual : Str} {st : Stmt} {f : Addr} {fd : FuncData} {ps ks : List Str} {n : Nat}
def gKs : List V → List V → List V := fun vs zs => vs ++ zs
def gKu : List Value → List Value → List Value := fun us ws => us ++ ws
theorem kbn_of {g : List Value → List Value → List Value} {gV : List V → List V → List V} (F : Fun K x qual st f fd) (hr : ∀ {vs : List V} {us : List Value} {zs : List V} {ws : List Value}, Vals vs us → Vals zs ws → Vals (gV vs zs) (g us ws))
    (h : ∀ (kV doc pm : Value) (an : Option Addr) (cdv ct : Value) (us ws : List Value), us.length = n → ws.length = ks.length → bindArgs (PySem.W.fnOf x qual (defArgs st) (defBody st) (defScope st) .none kV doc pm an cdv ct) ⟨us, ks.zip ws⟩ = pure (ps.zip (g us ws))) : KBn K fd ps n ks g gV := by
  obtain ⟨_, _, kV, doc, pm, an, cdv, ct, _, rfl, _⟩ := F.ex
  exact ⟨fun s us ws _ l1 l2 => .of_eq (h kV doc pm an cdv ct us ws l1 l2), hr⟩
theorem relK {vs : List V} {us : List Value} {zs : List V} {ws : List Value} (a : Vals vs us) (b : Vals zs ws) : Vals (gKs vs zs) (gKu us ws) := a.append b
end
end Gd
namespace Gd
set_option autoImplicit false
open PySem PySem.Spec PyProof.Rows L2 My HT
section
variable {prog : Program} {w : World} {A : Around} {E : Value → Shared → Prop} {s : Shared}
theorem rev_adjust (n : Nat) : Builtin.Slice.sliceAdjust none none (-1) (n : Int) = ((n : Int) - 1, -1) := by
  unfold Builtin.Slice.sliceAdjust
  rfl
theorem rev_places (n : Nat) : Builtin.Slice.slicePlaces ((n : Int) - 1) (-1) (-1) = n := by
  unfold Builtin.Slice.slicePlaces
  rw [if_neg (show ¬ ((-1 : Int) > 0) by decide)]
  have : (n : Int) - 1 - -1 - 1 = (n : Int) - 1 := by omega
  rw [this, show (- -1 : Int) = 1 by decide, Int.ediv_one]
  split <;> omega
theorem fm_congr {α β : Type} {f g : α → Option β} : ∀ {l : List α}, (∀ x ∈ l, f x = g x) → l.filterMap f = l.filterMap g
  | [], _ => rfl
  | x :: l, h => by
    rw [List.filterMap_cons, List.filterMap_cons, h x List.mem_cons_self, fm_congr (l := l) fun y hy => h y (List.mem_cons_of_mem _ hy)]
theorem rev_pick (xs : Array Value) : ((List.range xs.size).filterMap fun (k : Nat) => xs[((xs.size : Int) - 1 + (k : Int) * -1).toNat]?).toArray = xs.toList.reverse.toArray := by
  congr 1
  have e : (List.range xs.size).filterMap (fun (k : Nat) => xs[((xs.size : Int) - 1 + (k : Int) * -1).toNat]?) = ((List.range xs.size).map fun k => xs.size - 1 - k).filterMap (xs[·]?) := by
    rw [List.filterMap_map]
    refine fm_congr fun k hk => ?_
    have := List.mem_range.mp hk
    show xs[_]? = xs[xs.size - 1 - k]?
    congr 1
    omega
  rw [e, PySem.W.krv_range, List.filterMap_reverse, PySem.W.krv_all]
theorem rev_applied {sl : Addr} {vl vu vs : Value} {n : Nat} {Q : Int × Int × Nat → Shared → Prop} (hs : s.heap.IsSliceOf sl vl vu vs) (pl : IsPart vl none) (pu : IsPart vu none) (ps : IsPart vs (some (-1)))
    (h : Q ((n : Int) - 1, -1, n) s) : wpAny (model prog w) A (Builtin.Slice.sliceApplied (.ref sl) (pure (n : Int))) Q E s := by
  obtain ⟨os, hos, hcs, hds⟩ := id hs
  unfold Builtin.Slice.sliceApplied Builtin.Slice.sliceFields
  refine wpAny_bind (wpAny_bind (wpAny_field hos hds (x := vl) rfl (wpAny_bind (wpAny_field hos hds (x := vu) rfl (wpAny_bind (wpAny_field hos hds (x := vs) rfl (wpAny_pure (wpAny_bind (slicePart_ ps ?_)))))))))
  have n0 : ¬ (((some (-1 : Int)).getD 1 == 0) = true) := by decide
  refine PySem.W.KFB.if_not (by decide) ?_
  refine wpAny_bind (slicePart_ pl (wpAny_bind (slicePart_ pu (wpAny_bind (wpAny_pure ?_)))))
  have e : (Builtin.Slice.sliceAdjust none none ((some (-1 : Int)).getD 1) (n : Int)) = ((n : Int) - 1, -1) := rev_adjust n
  rw [e]
  have p : Builtin.Slice.slicePlaces ((n : Int) - 1) (-1) ((some (-1 : Int)).getD 1) = n := rev_places n
  dsimp only
  rw [p]
  exact wpAny_pure h
theorem getItem_rev {t sl : Addr} {items : Array Value} {vl vu vs : Value} {Q : Value → Shared → Prop} (ht : IsTup s.heap t items) (hs : s.heap.IsSliceOf sl vl vu vs) (pl : IsPart vl none) (pu : IsPart vu none) (ps : IsPart vs (some (-1)))
    (h : Q (.ref s.heap.objs.size) { s with heap := s.heap.push { cls := .type "tuple", data := .seq items.toList.reverse.toArray } }) (hz : items.size ≤ sizeLine) : wpAny (model prog w) A (getItem (.ref t) (.ref sl)) Q E s := by
  have hok : sizeOk (.seq items.toList.reverse.toArray) := by
    show items.toList.reverse.toArray.size ≤ sizeLine
    simpa using hz
  have hcl : s.TypeIs (.ref sl) "slice" := let ⟨os, a, b, _⟩ := hs; ⟨os, a, b⟩
  unfold getItem
  try with_reducible refine wpAny_holding ?_
  first | refine wpAny_bind (wpAny_pure ?_) | skip
  refine wpAny_bind (wpAny_sequenceKey ht.typeIs (by decide) (wpAny_bind (wpAny_callSpecial?_slot (name := Str.ofString "__getitem__") ht.typeIs PyProof.Rows.slot_tuple_getitem (wpAny_call_entry PyProof.Rows.slot_tuple_getitem ht.typeIs entry_tuple_getitem ?_ (args_tuple_getitem _ _)))))
  show wpAny _ _ (Builtin.Tuple.tupleItemsOf (.ref t) >>= _) _ _ s
  refine wpAny_bind (tupleItemsOf_ ht (wpAny_bind (wpAny_typeOf hcl ?_)))
  rw [if_pos (by decide)]
  refine wpAny_bind (rev_applied hs pl pu ps ?_)
  dsimp only
  refine PySem.W.KFB.if_not (by simp) ?_
  rw [rev_pick]
  first
    | exact wpAny_bind (m := Builtin.Tuple.tupleExact _) (wpAny_newObj_type (wpAny_pure ⟨_, rfl, wpAny_pure h⟩) hok)
    | exact wpAny_bind (wpAny_bind (m := Builtin.Tuple.tupleExact _) (wpAny_newObj_type (wpAny_pure (wpAny_pure ⟨_, rfl, wpAny_pure h⟩)) hok))
    | exact wpAny_bind (wpAny_bind (m := Builtin.Tuple.tupleExact _) (wpAny_newObj_type (wpAny_pure ⟨_, rfl, wpAny_pure h⟩) hok))
end
/-! ### t[::-1] of a tuple -/
def tRevT (K : PySem.W.Frag) (te : TE) : TE := fun σ H Q => te σ H fun x H1 => ∃ a xs, x = .ref a ∧ SqT K H1 a xs ∧ ∀ p, H1 p = none → Q (.ref p) (upd H1 p (.tup xs.reverse))
theorem pe_revT {X : Cx} {e : Expr} {te : TE} {k : Nat} {p1 p2 p3 pos : Pos} (he : PE X e te) : PE X (.Subscript e (.Slice none none (some (.UnaryOp .USub (.Constant (.int 1) k p1) p2)) p3) pos) (tRevT X.K te) := by
  refine ⟨fun pins s σ H Q I h => Subscript_ (thn (he.run pins s σ H _ I h) fun v s1 ⟨x, H1, I1, r1, a, xs, ex, hx, q⟩ => ?_)⟩
  subst ex
  cases r1
  have st : PO X (some (.UnaryOp .USub (.Constant (.int 1) k p1) p2)) (tPart (tUn (rU fun i => .int (-i)) (tC (.int 1)))) := po_some (pe_un un_neg pe_int)
  refine wpAny_Slice (thn (po_none.run pins s1 σ H1 (fun o H2 => o = none ∧ H2 = H1) I1 ⟨rfl, rfl⟩) fun vl s2 ⟨l, H2, I2, pl, el, e2⟩ => ?_)
  subst el e2
  refine thn (po_none.run pins s2 σ H2 (fun o H3 => o = none ∧ H3 = H2) I2 ⟨rfl, rfl⟩) fun vu s3 ⟨u, H3, I3, pu, eu, e3⟩ => thn (st.run pins s3 σ H3 (fun o H4 => o = some (-1) ∧ H4 = H3) I3 ⟨1, rfl, -1, rfl, rfl, rfl⟩) fun vs s4 ⟨o, H4, I4, ps, eo, e4⟩ => ?_
  subst eu e3 eo e4
  have I5 : Inv X pins σ H4 { s4 with heap := s4.heap.push { cls := .type "slice", data := .fields #[vl, vu, vs] } } := I4.kept (t' := s4.toks) fun b ob q => Heap.get?_push_of_some _ q
  obtain ⟨its, r, ht, hz⟩ := I5.tuple hx
  have hlen := r.length
  show wpAny (model X.prog X.w) X.A (subscriptTail e (.Slice none none (some (.UnaryOp .USub (.Constant (.int 1) k p1) p2)) p3) (.ref a) (.ref s4.heap.objs.size)) (EP X pins σ Q) X.xe { s4 with heap := s4.heap.push { cls := .type "slice", data := .fields #[vl, vu, vs] } }
  refine tail_any (ops := [.ref a, .ref s4.heap.objs.size]) ht.typeIs (PyProof.Rows.slot_tuple_getitem.lookup) ?_ (by with_unfolding_all rfl)
  refine getItem_rev ht (Heap.IsSliceOf.new _ vl vu vs) pl pu ps ⟨.ref _, _, I5.laid (t' := s4.toks) (o := .tup xs.reverse) (fun b ob q => Heap.get?_push_of_some _ q) (Nat.le_refl _) ?_, rfl, q _ (I5.hok.fresh (Nat.le_refl _))⟩ (by rw [List.size_toArray]; omega)
  exact ⟨by rw [List.length_reverse]; exact hz, _, r.reverse, IsTup.new _ _⟩
end Gd
namespace Nd
set_option autoImplicit false
open PySem PySem.Spec PyProof.Rows L2 My
/-! ### data as keys -/
mutual
def nk : PyData → NestedKey
  | .none => .none
  | .bool b => .num (if b = true then 1 else 0)
  | .int i => .num i
  | .str x => .text x
  | .tuple ds => .tup (nkAll ds)
  | .list _ => .none
  | .dict _ => .none
def nkAll : List PyData → List NestedKey
  | [] => []
  | d :: ds => nk d :: nkAll ds
end
mutual
def keyish : PyData → Bool
  | .none => true
  | .bool _ => true
  | .int _ => true
  | .str _ => true
  | .tuple ds => keyishAll ds
  | .list _ => false
  | .dict _ => false
def keyishAll : List PyData → Bool
  | [] => true
  | d :: ds => keyish d && keyishAll ds
end
section
variable {X : Cx} {pins : List (Addr × Obj)} {σ : L2.St} {H : Hp} {s : Shared}
mutual
theorem dp_nk (I : Inv X pins σ H s) : ∀ {d : PyData} {v : V} {u : Value}, Dp X.K H v d → keyish d = true → RelV v u → NestedIs s.heap (nk d) u
  | _, _, u, .non, _, r => by
    obtain rfl : u = Value.none := r
    simp only [nk]
    exact .none
  | _, _, u, .bl b, _, r => by
    obtain rfl : u = Value.bool b := r
    simp only [nk]
    exact .bool rfl
  | _, _, u, .int i, _, r => by
    obtain ⟨t, rfl⟩ := r
    simp only [nk]
    exact .int i t
  | _, _, u, .str x, _, r => by
    obtain ⟨t, rfl⟩ := r
    simp only [nk]
    exact .text x t
  | _, _, u, .lst _ _, h, _ => by simp [keyish] at h
  | _, _, u, .tup (a := a) x y, h, r => by
    obtain rfl : u = Value.ref a := r
    obtain ⟨its, rv, ⟨o, h1, h2, n, h3⟩, _⟩ := I.tuple x
    simp only [nk]
    simp only [keyish] at h
    exact .tup h1 h2 h3 (by simpa using dps_nk I y h rv)
theorem dps_nk (I : Inv X pins σ H s) : ∀ {ds : List PyData} {vs : List V} {us : List Value}, DpAll X.K H vs ds → keyishAll ds = true → Vals vs us → NestedAll s.heap (nkAll ds) us
  | _, _, [], .nil, _, .nil => by
    simp only [nkAll]
    exact .nil
  | _, _, _ :: _, .cons a b, h, .cons r1 r2 => by
    simp only [keyishAll, Bool.and_eq_true] at h
    simp only [nkAll]
    exact .cons (dp_nk I a h.1 r1) (dps_nk I b h.2 r2)
end
end
/-! ### a dict by such keys -/
abbrev NV := NestedKey × Addr × V
def lay : List NV → List Value → List (NestedKey × Addr × Value)
  | [], _ => []
  | _ :: _, [] => []
  | x :: xs, u :: us => (x.1, x.2.1, u) :: lay xs us
theorem lay_keys : ∀ {xs : List NV} {us : List Value}, xs.length = us.length → (lay xs us).map (·.1) = xs.map (·.1)
  | [], [], _ => rfl
  | _ :: _, _ :: _, h => congrArg (_ :: ·) (lay_keys (by simpa using h))
theorem lay_len : ∀ {xs : List NV} {us : List Value}, xs.length = us.length → (lay xs us).length = xs.length
  | [], [], _ => rfl
  | _ :: _, _ :: _, h => congrArg Nat.succ (lay_len (by simpa using h))
theorem lay_mem : ∀ {xs : List NV} {us : List Value} {y : NestedKey × Addr × Value}, y ∈ lay xs us → ∃ x ∈ xs, x.1 = y.1 ∧ x.2.1 = y.2.1
  | [], us, y, h => by simp [lay] at h
  | x :: xs, [], y, h => by simp [lay] at h
  | x :: xs, u :: us, y, h => by
    rcases List.mem_cons.mp h with rfl | h
    · exact ⟨x, List.mem_cons_self, rfl, rfl⟩
    · obtain ⟨z, hz, e⟩ := lay_mem h
      exact ⟨z, List.mem_cons_of_mem _ hz, e⟩
theorem vlen {xs : List NV} {us : List Value} (r : Vals (xs.map (·.2.2)) us) : xs.length = us.length := by
  have := r.length
  rw [List.length_map] at this
  exact this
/-- what stands at a key -/
def look (xs : List NV) (k : NestedKey) : Option V := (xs.find? fun x => decide (x.1 = k)).map (·.2.2)
def hasN (xs : List NV) (k : NestedKey) : Bool := xs.any fun x => decide (x.1 = k)
def putN (xs : List NV) (k : NestedKey) (a : Addr) (v : V) : List NV := if hasN xs k then xs.map fun x => if x.1 = k then (x.1, x.2.1, v) else x else xs ++ [(k, a, v)]
theorem at_lay {k : NestedKey} : ∀ {xs : List NV} {us : List Value}, Vals (xs.map (·.2.2)) us → (atKey (lay xs us) k).isSome = hasN xs k ∧ (∀ v, look xs k = some v → ∃ b u, atKey (lay xs us) k = some (b, u) ∧ RelV v u) ∧ (look xs k = none → atKey (lay xs us) k = none)
  | [], [], _ => ⟨rfl, fun v h => by simp [look] at h, fun _ => rfl⟩
  | x :: xs, u :: us, r => by
    cases r with
    | cons r1 r2 =>
      obtain ⟨h1, h2, h3⟩ := at_lay (k := k) (xs := xs) (us := us) r2
      unfold atKey hasN look at *
      simp only [lay, List.find?_cons, List.any_cons]
      by_cases e : x.1 = k
      · simp only [e, decide_true, Bool.true_or]
        refine ⟨rfl, fun v hv => ?_, fun h => by simp at h⟩
        simp only [Option.map_some, Option.some.injEq] at hv
        subst hv
        exact ⟨_, _, rfl, r1⟩
      · simp only [e, decide_false, Bool.false_or]
        exact ⟨h1, h2, h3⟩
theorem lay_app {xs ys : List NV} : ∀ {us ws : List Value}, xs.length = us.length → lay (xs ++ ys) (us ++ ws) = lay xs us ++ lay ys ws := by
  induction xs with
  | nil =>
    intro us ws h
    match us, h with
    | [], _ => rfl
  | cons x xs ih =>
    intro us ws h
    match us, h with
    | u :: us, h => exact congrArg (_ :: ·) (ih (by simpa using h))
theorem lay_put {k : NestedKey} {v : V} {u : Value} (rv : RelV v u) : ∀ {xs : List NV} {us : List Value}, Vals (xs.map (·.2.2)) us → ∃ ws, Vals ((xs.map fun x => if x.1 = k then (x.1, x.2.1, v) else x).map (·.2.2)) ws ∧ (lay xs us).map (putAt k u) = lay (xs.map fun x => if x.1 = k then (x.1, x.2.1, v) else x) ws
  | [], [], _ => ⟨[], .nil, rfl⟩
  | x :: xs, w :: us, r => by
    cases r with
    | cons r1 r2 =>
      obtain ⟨ws, h1, h2⟩ := lay_put (k := k) rv (xs := xs) (us := us) r2
      by_cases e : x.1 = k
      · refine ⟨u :: ws, ?_, ?_⟩
        · simp only [List.map_cons, if_pos e]
          exact .cons rv h1
        · simp only [lay, List.map_cons, if_pos e, putAt, h2]
      · refine ⟨w :: ws, ?_, ?_⟩
        · simp only [List.map_cons, if_neg e]
          exact .cons r1 h1
        · simp only [lay, List.map_cons, if_neg e, putAt, h2]
def DNf (P : Program) (w : World) (d : Addr) (xs : List NV) : Heap → Prop := fun h => (d == sysModules) = false ∧ xs.length ≤ sizeLine ∧ ∃ (us : List Value) (o : Obj) (es : Array DictEntry) (ep : Nat), Vals (xs.map (·.2.2)) us ∧ h.get? d = some o ∧ o.ExactDict ∧ o.data = .dict es ep ∧ es.toList = (lay xs us).map (entryOfKey (nestedKind P w)) ∧ (xs.map (·.1)).Nodup
/-- a dict by nested keys, in the order of insertion -/
def DN (P : Program) (w : World) (d : Addr) (xs : List NV) : HO := .ext (DNf P w d xs)
theorem dn_ok {P : Program} {w : World} {H : Hp} {h : Heap} {d : Addr} {xs : List NV} (R : DNf P w d xs h) : ObjOk P w H h d (DN P w d xs) :=
  ⟨R, (let ⟨_, _, _, o, _, _, _, e, _⟩ := R; ⟨o, e⟩), fun h1 h2 ⟨z1, z2, us, o, es, ep, a, b, c⟩ k => ⟨z1, z2, us, o, es, ep, a, k o b, c⟩⟩
/-- the object at a is such a key -/
def KeyAt (K : PySem.W.Frag) (H : Hp) (a : Addr) (k : NestedKey) : Prop := ∃ d, Dp K H (.ref a) d ∧ keyish d = true ∧ nk d = k ∧ k.depth ≤ 8
def KeysOk (K : PySem.W.Frag) (H : Hp) (xs : List NV) : Prop := ∀ x ∈ xs, KeyAt K H x.2.1 x.1
theorem KeyAt.ex {K : PySem.W.Frag} {H H' : Hp} {a : Addr} {k : NestedKey} (h : KeyAt K H a k) (e : Evl.Ex H H') : KeyAt K H' a k := let ⟨d, x, y⟩ := h; ⟨d, dp_m e x, y⟩
theorem KeysOk.ex {K : PySem.W.Frag} {H H' : Hp} {xs : List NV} (h : KeysOk K H xs) (e : Evl.Ex H H') : KeysOk K H' xs := fun x hx => (h x hx).ex e
section
variable {X : Cx} {pins : List (Addr × Obj)} {σ : L2.St} {H : Hp} {s : Shared} {d a : Addr} {xs : List NV} {k : NestedKey}
theorem key_is (I : Inv X pins σ H s) (h : KeyAt X.K H a k) : (nestedKind X.prog X.w).is s.heap k a := by
  obtain ⟨e, h1, h2, rfl, h4⟩ := h
  exact ⟨dp_nk I h1 h2 rfl, h4⟩
theorem dn_of (I : Inv X pins σ H s) (h : H d = some (DN X.prog X.w d xs)) (hk : KeysOk X.K H xs) : (d == sysModules) = false ∧ xs.length ≤ sizeLine ∧ ∃ us, Vals (xs.map (·.2.2)) us ∧ s.heap.DictOfH (nestedKind X.prog X.w) d (lay xs us) := by
  obtain ⟨z1, z2, us, o, es, ep, r, h1, h2, h3, h4, h5⟩ := (I.hok d _ h).1
  refine ⟨z1, z2, us, r, o, es, ep, h1, h2, h3, h4, fun y hy => ?_, by rw [lay_keys (vlen r)]; exact h5⟩
  obtain ⟨x, hx, e1, e2⟩ := lay_mem hy
  have := key_is I (hk x hx)
  rw [e1, e2] at this
  exact this
theorem dn_to {P : Program} {w : World} {h : Heap} {us : List Value} (z1 : (d == sysModules) = false) (z2 : xs.length ≤ sizeLine) (r : Vals (xs.map (·.2.2)) us) (m : h.DictOfH (nestedKind P w) d (lay xs us)) : DNf P w d xs h := by
  obtain ⟨o, es, ep, h1, h2, h3, h4, _, h5⟩ := m
  exact ⟨z1, z2, us, o, es, ep, r, h1, h2, h3, h4, by rw [← lay_keys (vlen r)]; exact h5⟩
/-- {} -/
def tDNewN (P : Program) (w : World) : TE := fun _ H Q => ∀ p, H p = none → Q (.ref p) (upd H p (DN P w p []))
theorem pe_dnewN {pos : Pos} : PE X (.Dict [] [] pos) (tDNewN X.prog X.w) := ⟨fun pins s σ H Q I h =>
  wpAny_Dict_empty ⟨.ref s.heap.objs.size, _, I.laid (a := s.heap.objs.size) (o := DN X.prog X.w s.heap.objs.size []) (t' := s.toks) (fun _ _ q => Heap.get?_push_of_some _ q) (Nat.le_refl _)
    (dn_ok (dn_to (us := []) (beq_eq_false_iff_ne.mpr (Nat.ne_of_gt I.big)) (by decide) .nil (Heap.DictOfH.new s.heap))), rfl, h _ (I.hok.fresh (Nat.le_refl _))⟩⟩
end
end Nd
namespace Nd
set_option autoImplicit false
open PySem PySem.Spec PyProof.Rows L2 My Evl
section
variable {X : Cx}
def rLeD (K : PySem.W.Frag) : R2 := fun x y H Q => ∃ d e, Dp K H x d ∧ Dp K H y e ∧ PySem.W.alike d e = true ∧ d ≠ .none ∧ min d.depth e.depth ≤ 50 ∧ Q (.bl (!PySem.W.dataLt e d)) H
theorem op_leD (hu : X.A.units + 65 < cLine) : OpR X (compareOp .LtE) (rLeD X.K) := by
  intro pins s σ H x y v u Q I rx ry ⟨d, e, hd, he, al, hn, hm, q⟩
  obtain ⟨as, r1⟩ := Dp.reads I d x v hd rx
  obtain ⟨bs, r2⟩ := Dp.reads I e y u he ry
  exact PySem.W.le_data r1 r2 al hn (by omega) ⟨.bl _, H, I, rfl, q⟩
end
section
variable {te ta tb : TE} {σ : L2.St} {B : Hp} {K : PySem.W.Frag} {d e : PyData}
theorem ev_leD (ha : EvP ta σ B (IsD K d)) (hb : EvP tb σ B (IsD K e)) (al : PySem.W.alike d e = true) (hn : d ≠ .none) (hm : min d.depth e.depth ≤ 50) : Ev (tOp (rLeD K) ta tb) σ B (.bl (!PySem.W.dataLt e d)) := fun H1 a Q k =>
  ha H1 a _ fun v B2 H2 g b => hb H2 (g.b.trans g.c) _ fun w B3 H3 g3 b3 => ⟨d, e, dp_m (g.c.trans g3.a) b, dp_m g3.c b3, al, hn, hm, k H3 (g.a.trans g3.a)⟩
end
end Nd
namespace Nd
set_option autoImplicit false
open PySem PySem.Spec PyProof.Rows L2 My Evl
/-! ### enumerate of a tuple -/
/-- an enumerate object over the iterator n, nothing drawn yet -/
abbrev enO (n : Addr) : Obj := { cls := .type "enumerate", data := .fields #[.none, .bool false, .ref n, rawInt 0, .none, .none] }
set_option maxHeartbeats 1000000 in
theorem en_new {v : Value} {o : Obj} {G : Heap → Prop} (B : Begins v o G) :
    Meets (Builtin.«enumerate.__new__» ⟨[.type "enumerate", v], []⟩) (fun _ R s => G s.heap ∧ R (.ok (.ret (.ref (s.heap.push o).objs.size))) { s with heap := (s.heap.push o).push (enO s.heap.objs.size) }) := .of_wp fun prog w A R s h => by
  obtain ⟨hp, gg, dd, tt, oo⟩ := s
  obtain ⟨h1, h2⟩ := h
  have sb := sub_enumerate
  have q1 : ∀ {A' : Around} {E Q : Value → Shared → Prop}, Q (.ref hp.objs.size) ⟨hp.push o, gg, dd, tt, oo⟩ → wpAny (model prog w) A' (pyIter v) Q E ⟨hp, gg, dd, tt, oo⟩ := fun q => B.iter prog w _ _ ⟨hp, gg, dd, tt, oo⟩ _ h1 q
  wp_walk using q1
  refine wpAny_stack_any fun st => wpAny_pure ?_
  split
  · rename_i c _ _ _ _ _
    cases (c == Value.type "enumerate") <;> (wp_walk using q1; exact ⟨_, rfl, h2⟩)
  · wp_walk using q1
    exact ⟨_, rfl, h2⟩
theorem en_call {P : Program} {w : World} {A : Around} {E : Value → Shared → Prop} {s : Shared} {v : Value} {o : Obj} {G : Heap → Prop} {Q : Value → Shared → Prop} (B : Begins v o G) (h1 : G s.heap)
    (h : ∀ h', IsEnum h' (s.heap.objs.size + 1) s.heap.objs.size 0 .none → h'.get? s.heap.objs.size = some o → (∀ b o, s.heap.get? b = some o → h'.get? b = some o) → Q (.ref (s.heap.objs.size + 1)) { s with heap := h' }) :
    wpAny (model P w) A (call (.type "enumerate") [v]) Q E s := by
  refine callType_new F.called_enumerate (by decide) (F.typeCall_enumerate_1 _) (F.newCall_enumerate_1 _) (fun x => F.args_object_init_2 x _) F.entry_enumerate_new (en_new B) ⟨h1, ?_⟩
  have z : (s.heap.push o).objs.size = s.heap.objs.size + 1 := Heap.size_push ..
  show _ ∧ _
  rw [z]
  have e : IsEnum ((s.heap.push o).push (enO s.heap.objs.size)) (s.heap.objs.size + 1) s.heap.objs.size 0 .none := by
    have := Heap.get?_push_size (s.heap.push o) (o := enO s.heap.objs.size) rfl
    rw [z] at this
    exact this
  exact ⟨⟨_, e, rfl⟩, h _ e (Heap.get?_push_of_some _ (Heap.get?_push_size _ B.free)) fun b o x => Heap.get?_push_of_some _ (Heap.get?_push_of_some _ x)⟩
/-- the tuple at a, each item in a new pair -/
def IteT (K : PySem.W.Frag) (a : Addr) : It :=
  ⟨fun i H => ∃ (xs : List V) (x : V), SqT K H a xs ∧ xs[i]? = some x,
   fun i H v H' => ∃ T x, v = .ref T ∧ H T = none ∧ H' = upd H T (.tup [.int (i : Nat), x]) ∧ ∀ xs, SqT K H a xs → xs[i]? = some x,
   fun i H => ∃ xs : List V, SqT K H a xs ∧ xs.length = i⟩
theorem tup_ne_it {h : Heap} {a it : Addr} {its : Array Value} {i : Nat} (p : h.IsTuple a its) (k : h.IsTupleIter it a i) : a ≠ it := by
  rintro rfl
  obtain ⟨o, h1, h2, _⟩ := p
  obtain ⟨o', k1, k2, _⟩ := k
  rw [h1] at k1
  cases k1
  rw [h2] at k2
  exact absurd k2 (by decide)
theorem tup_ne_en {h : Heap} {a e it : Addr} {its : Array Value} {i : Int} {old : Value} (p : h.IsTuple a its) (k : IsEnum h e it i old) : e ≠ a := by
  rintro rfl
  obtain ⟨o, h1, h2, _⟩ := p
  have k : h.get? e = some _ := k
  rw [h1] at k
  cases k
  have h2 : Value.type "enumerate" = Value.type "tuple" := h2
  injection h2 with z
  exact absurd z (by decide)
theorem turn_enT {P : Program} {w : World} {K : PySem.W.Frag} {elts : List Expr} {kk : Nat} {tpos : Pos} (a e it : Addr) :
    Turn P w K (.Tuple elts kk tpos) (IteT K a) [e, it] e (fun i h => (∃ old, IsEnum h e it ((i : Nat) : Int) old) ∧ h.IsTupleIter it a i ∧ e ≠ it) where
  mem := by simp
  obj := fun i h st b hb => by
    obtain ⟨⟨old, he⟩, ⟨o, ho, hc, hd⟩, _⟩ := st
    rcases (by simpa using hb : b = e ∨ b = it) with rfl | rfl
    · exact ⟨_, he, fun v q => nomatch q⟩
    · exact ⟨o, ho, fun v q => by rw [hd] at q; cases q⟩
  keep := fun i h h' st k => by
    obtain ⟨⟨old, he⟩, hi, hne⟩ := st
    exact ⟨⟨old, k e (by simp) _ he⟩, hi.at fun o q => k it (by simp) o q, hne⟩
  item := by
    intro X hP hw hK hc i pins s σ H E I hf st hg
    subst hP hw hK
    obtain ⟨⟨old, he⟩, hit, hne⟩ := st
    obtain ⟨xs, x, hq, hx⟩ := hg
    obtain ⟨its, rv, p, hz⟩ := I.tuple hq
    obtain ⟨u, hu, ru⟩ := rv.get hx
    have hel : e < s.heap.objs.size := Heap.lt_size he
    have hil : it < s.heap.objs.size := by
      obtain ⟨_, q, _⟩ := hit
      exact Heap.lt_size q
    have hit0 := hit
    refine wpAny_pyNext_enum_itemD (Draws.tuple (by exact I.ok.hd hc) it a (tup_ne_it p hit) its.toArray) he ⟨hit, p⟩ (i := i) (by
      have := (List.getElem?_eq_some_iff.mp hu).1
      simpa using this) hne (by simp [hne, tup_ne_en p he]) fun y h' tk hy ho hst' hT hsz hk => ?_
    obtain rfl : u = y := by
      have hy : its.toArray[i]? = some y := hy
      rw [List.getElem?_toArray, hu] at hy
      exact Option.some.inj hy
    refine ⟨_, rfl, wpAny_letOwnedTupleGo_enum (s := { s with heap := h', toks := tk + 1 }) ho fun h'' he' sb => ?_⟩
    have hT2 : h''.get? s.heap.objs.size = some { cls := .type "tuple", data := .seq #[.int i tk, u] } := (sb.2 _ (Nat.ne_of_gt hel)).trans hT
    have new : ObjOk X.prog X.w (upd H s.heap.objs.size (.tup [.int (i : Nat), x])) h'' s.heap.objs.size (.tup [.int (i : Nat), x]) :=
      ⟨by show 2 ≤ sizeLine; decide, [.int i tk, u], .cons ⟨_, rfl⟩ (.cons ru .nil), ⟨_, hT2, rfl, _, rfl⟩⟩
    have I1 : Inv X pins σ (upd H s.heap.objs.size (.tup [.int (i : Nat), x])) { s with heap := h'', toks := tk + 1 } :=
      I.turnedNew (ch := [e, it]) (fun b ob hb q => by
        have b1 : b ≠ e := fun z => hb (by simp [z])
        have b2 : b ≠ it := fun z => hb (by simp [z])
        exact (sb.2 b b1).trans (hk b ob b1 b2 q)) hf (Nat.le_refl _) new
    refine ⟨.ref s.heap.objs.size, _, I1, rfl, ⟨_, x, rfl, I.hok.fresh (Nat.le_refl _), rfl, fun ys hy => by rw [I.tuple_inj hy hq]; exact hx⟩, ⟨⟨u, ?_⟩, hst'.1.at fun o q => (sb.2 it (Ne.symm hne)).trans q, hne⟩, fun b hb => ?_⟩
    · rw [show ((i + 1 : Nat) : Int) = (i : Int) + 1 by omega]
      exact he'
    · have hb' : b < s.heap.objs.size := by
        rcases (by simpa using hb : b = e ∨ b = it) with rfl | rfl
        · exact hel
        · exact hil
      rw [upd_ne (Nat.ne_of_lt hb')]
      exact (hf b hb).1
  done := by
    intro X hP hw hK hc i pins s σ H E I hf st hg
    subst hP hw hK
    obtain ⟨⟨old, he⟩, hit, hne⟩ := st
    obtain ⟨xs, hq, rfl⟩ := hg
    obtain ⟨its, rv, p, hz⟩ := I.tuple hq
    obtain ⟨f0, f1, f2, f3, f4, f5⟩ := hf it (by simp)
    have hl := rv.length
    refine wpAny_pyNext_enum_endD (Draws.tuple (by exact I.ok.hd hc) it a (tup_ne_it p hit) its.toArray) he ⟨by rw [show its.toArray.size = xs.length by simp [hl]]; exact hit, p⟩ fun h' eb => ⟨rfl, I.turned (t' := s.toks) (fun b o hb q => eb b o hb q) f0 f1 f3 f4 f5⟩
  self := fun A i s Q E st h => by
    obtain ⟨⟨_, he⟩, _⟩ := st
    exact wpAny_pyIter_enum he h
def iEnumT (K : PySem.W.Frag) (ta : TA) : TI := fun σ H R => ta σ H fun vs H1 => ∃ a xs, vs = [.ref a] ∧ SqT K H1 a xs ∧ R (IteT K a) H1
theorem pi_enumT {X : Cx} {e : Expr} {ta : TA} {p pos tpos : Pos} {elts : List Expr} {kk : Nat} (hg : Gl X "enumerate") (hm : X.mg "enumerate" = none) (ha : PA X [e] ta) (hs : starEach [e] X.env = [(false, eval e X.env)] := by rfl) :
    PI X (.Tuple elts kk tpos) (.Call (.Name "enumerate" p) [e] [] pos) (iEnumT X.K ta) := by
  refine ⟨fun pins s σ H R I h => ?_⟩
  refine Call_ (ld_blt I hg hm boot_enumerate (PyProof.Rows.callWith_type1 (thn (ha.run pos pins s σ H _ I h) fun us s1 ⟨vs, H1, I1, r1, q1⟩ => ?_) hs rfl))
  obtain ⟨a, xs, rfl, hq, q⟩ := q1
  cases r1 with
  | cons r rr =>
    cases rr
    cases r
    obtain ⟨its, rv, p', hz⟩ := I1.tuple hq
    refine en_call (begins_tuple a its.toArray) p' fun h' he ho hk => wpAny_pyIter_enum he ?_
    have I2 : Inv X pins σ H1 { s1 with heap := h' } := I1.kept (t' := s1.toks) hk
    refine ⟨s1.heap.objs.size + 1, [s1.heap.objs.size + 1, s1.heap.objs.size], _, _, H1, rfl, I2, turn_enT a (s1.heap.objs.size + 1) s1.heap.objs.size, ⟨⟨.none, he⟩, ⟨_, ho, rfl, rfl⟩, Nat.succ_ne_self _⟩, fun b hb => ?_, q⟩
    have hle : s1.heap.objs.size ≤ b := by
      rcases (by simpa using hb : b = s1.heap.objs.size + 1 ∨ b = s1.heap.objs.size) with z | z
      · rw [z]
        exact Nat.le_succ _
      · rw [z]
        exact Nat.le_refl _
    exact I1.fpOk hle (I1.hok.fresh hle)
theorem walk_enT {K : PySem.W.Frag} {a : Addr} {xs : List V} : Walk (IteT K a) xs.length (fun H => SqT K H a xs) (YPair (fun i => some (.int (i : Nat))) (fun i => xs[i]?)) := by
  refine ⟨fun i _ hi q => ⟨xs, xs[i], q, by simp [hi]⟩, fun _ q => ⟨xs, q, rfl⟩, fun i H v H' _ q y => ?_⟩
  obtain ⟨T, x, h1, h2, h3, h4⟩ := y
  exact ⟨T, .int (i : Nat), x, h1, h2, h3, rfl, h4 xs q⟩
/-- n pairs of a number and a thing of which P i is known -/
def SrcE (wi : TI) (σ : L2.St) (B : Hp) (n : Nat) (P : Nat → Pr) : Prop := ∀ H1, Ex B H1 → ∀ R : It → Hp → Prop, (∀ (J : It) (B' H2 : Hp) (G : Hp → Prop) (Y : Nat → Hp → V → Hp → Prop), Gr B H1 B' H2 → Walk J n G Y → (∀ H, Ex B' H → G H) →
  (∀ i H v H', i < n → Ex B' H → Y i H v H' → ∃ T x, v = .ref T ∧ H T = none ∧ H' = upd H T (.tup [.int (i : Nat), x]) ∧ (P i).P x B') → R J H2) → wi σ H1 R
section
variable {te : TE} {σ : L2.St} {B H : Hp} {ps : List Pr} {K : PySem.W.Frag} {D : Ends} {ta : TA}
theorem pair_of {xs : List V} {B' : Hp} (al : AllP ps xs B') {i : Nat} {H : Hp} {v : V} {H' : Hp} (y : YPair (fun i => some (.int (i : Nat))) (fun i => xs[i]?) i H v H') :
    ∃ T x, v = .ref T ∧ H T = none ∧ H' = upd H T (.tup [.int (i : Nat), x]) ∧ (ps.getD i (IsV .non)).P x B' := by
  obtain ⟨T, y1, x, h1, h2, h3, h4, h5⟩ := y
  obtain rfl : V.int (i : Nat) = y1 := Option.some.inj h4
  obtain ⟨p, hp, k2⟩ := al.get h5
  refine ⟨T, x, h1, h2, h3, ?_⟩
  rw [List.getD_eq_getElem?_getD, hp]
  exact k2
theorem one_of {p : Pr} {vs : List V} {B' : Hp} (h : AllP [p] vs B') : ∃ v, vs = [v] ∧ p.P v B' := by
  match vs, h with
  | [v], h => exact ⟨v, rfl, h.1⟩
theorem src_enT (h : EvPs ta σ B [TuP K ps]) : SrcE (iEnumT K ta) σ B ps.length (fun i => ps.getD i (IsV .non)) := fun H1 a R k => h H1 a _ fun vs B2 H2 g b => by
  obtain ⟨v, rfl, l, xs, rfl, hx, al⟩ := one_of b
  exact ⟨l, xs, rfl, ex_t g.c hx, k _ B2 H2 _ _ g (by rw [← al.len]; exact walk_enT) (fun H e => ex_t e hx) fun i H v H' _ e z => pair_of al z⟩
theorem ps_forE {wi : TI} {n : Nat} {P : Nat → Pr} {g : TG} {tbd : TS} (a : Ex B H) (h : SrcE wi σ B n P)
    (k : ∀ B1 H1, Gr B H B1 H1 → ∃ Pv : Nat → L2.St → Hp → Prop, Pv 0 σ H1 ∧ (∀ i σ' H', i ≤ n → Pv i σ' H' → Ex B1 H') ∧
      (∀ i v T σ' H', i < n → Pv i σ' H' → (P i).P v B1 → H' T = none → g (.ref T) σ' (upd H' T (.tup [.int (i : Nat), v])) fun σ2 H2 => tbd { D with nx := Pv (i + 1), ct := Pv (i + 1), bk := D.nx } σ2 H2) ∧ ∀ σ' H', Pv n σ' H' → D.nx σ' H') :
    tFor wi g tbd D σ H := h H a _ fun J B1 H1 G Y gr w hG hY => by
  obtain ⟨Pv, h0, hE, hs, hd⟩ := k B1 H1 gr
  refine for_it w Pv h0 (fun i σ' H' hi pv => hG H' (hE i σ' H' hi pv)) (fun i x σ' H' H2 hi pv y => ?_) hd
  obtain ⟨T, v, rfl, hT, rfl, px⟩ := hY i H' x H2 hi (hE i σ' H' (Nat.le_of_lt hi) pv) y
  exact hs i v T σ' H' hi pv px hT
end
end Nd
namespace Nd
set_option autoImplicit false
open PySem PySem.W L2 My Evl
/-! ### monomials, fractions, polynomials, chains -/
abbrev Mo := List (Dv × Int)
abbrev Fr := Int × Int
abbrev Po := List (Mo × Fr)
def pwD (x : Dv × Int) : PyData := .tuple [x.1.D, .int x.2]
def moD (m : Mo) : PyData := .tuple (m.map pwD)
def frD (f : Fr) : PyData := .tuple [.int f.1, .int f.2]
def tmD (t : Mo × Fr) : PyData := .tuple [moD t.1, frD t.2]
def poD (p : Po) : PyData := .tuple (p.map tmD)
def pwP (K : PySem.W.Frag) (x : Dv × Int) : Pr := TuP K [DvP x.1, IsV (.int x.2)]
def moP (K : PySem.W.Frag) (m : Mo) : Pr := TuP K (m.map (pwP K))
def frP (K : PySem.W.Frag) (f : Fr) : Pr := TuP K [IsV (.int f.1), IsV (.int f.2)]
def tmP (K : PySem.W.Frag) (t : Mo × Fr) : Pr := TuP K [moP K t.1, frP K t.2]
def poP (K : PySem.W.Frag) (p : Po) : Pr := TuP K (p.map (tmP K))
section
variable {K : PySem.W.Frag}
theorem to_dv (u : Dv) : To K (DvP u) u.D := fun _ _ h => dv_d h
theorem to_pw (x : Dv × Int) : To K (pwP K x) (pwD x) := to_tup (.cons (to_dv x.1) (.cons to_int .nil))
theorem to_mo (m : Mo) : To K (moP K m) (moD m) := to_tup (toAll_map m fun x => to_pw x)
theorem to_fr (f : Fr) : To K (frP K f) (frD f) := to_tup (.cons to_int (.cons to_int .nil))
theorem to_tm (t : Mo × Fr) : To K (tmP K t) (tmD t) := to_tup (.cons (to_mo t.1) (.cons (to_fr t.2) .nil))
theorem to_po (p : Po) : To K (poP K p) (poD p) := to_tup (toAll_map p fun x => to_tm x)
end
/-! ### which are good -/
/-- each is less than what follows it, as Python compares -/
def Ups {α : Type} (f : α → PyData) (l : List α) : Prop := ∀ i (h : i + 1 < l.length), dataLt (f (l[i]'(Nat.lt_of_succ_lt h))) (f l[i + 1]) = true
structure MoOk (r : Rk) (m : Mo) : Prop where
  of : ∀ x ∈ m, x.1.Of r ∧ 0 < x.2
  up : Ups (fun x => x.1.D) m
structure FrOk (f : Fr) : Prop where
  bot : 0 < f.2
  low : Nat.gcd f.1.natAbs f.2.natAbs = 1
structure PoOk (r : Rk) (p : Po) : Prop where
  of : ∀ t ∈ p, MoOk r t.1 ∧ FrOk t.2 ∧ t.2.1 ≠ 0
  up : Ups (fun t => moD t.1) p
theorem alike_dv (u v : Dv) : alike u.D v.D = true := by simp [Dv.D, alike, alikeAll]
theorem alike_pw (x y : Dv × Int) : alike (pwD x) (pwD y) = true := by
  unfold pwD
  rw [alike, alikeAll, alikeAll, alikeAll, alike_dv]
  simp [alike]
theorem alike_map {α : Type} {f : α → PyData} (h : ∀ x y, alike (f x) (f y) = true) : ∀ l m : List α, alikeAll (l.map f) (m.map f) = true
  | [], _ => by rw [List.map_nil, alikeAll]
  | _ :: _, [] => by rw [List.map_nil, List.map_cons, alikeAll]
  | x :: l, y :: m => by rw [List.map_cons, List.map_cons, alikeAll, h x y, alike_map h l m, Bool.and_self]
theorem alike_mo (m n : Mo) : alike (moD m) (moD n) = true := by
  unfold moD
  rw [alike]
  exact alike_map alike_pw m n
theorem deep_dv (u : Dv) : u.D.depth = 1 := by simp [Dv.D, PyData.depth, PyData.depthAll]
theorem deep_pw (x : Dv × Int) : (pwD x).depth = 2 := by simp [pwD, PyData.depth, PyData.depthAll, deep_dv]
theorem deep_map {α : Type} {f : α → PyData} {n : Nat} (h : ∀ x, (f x).depth ≤ n) : ∀ l : List α, PyData.depthAll (l.map f) ≤ n
  | [] => by rw [List.map_nil, PyData.depthAll]; exact Nat.zero_le _
  | x :: l => by
    rw [List.map_cons, PyData.depthAll]
    exact Nat.max_le.mpr ⟨h x, deep_map h l⟩
theorem deep_mo (m : Mo) : (moD m).depth ≤ 3 := by
  unfold moD
  rw [PyData.depth]
  have := deep_map (f := pwD) (n := 2) (fun x => Nat.le_of_eq (deep_pw x)) m
  omega
section
variable {te ta tb : TE} {σ : L2.St} {B H : Hp} {ps : List Pr} {K : PySem.W.Frag}
theorem ev_gcd {i j : Int} (ha : Ev ta σ B (.int i)) (hb : Ev tb σ B (.int j)) : Ev (tCB rGcd (tCons ta (tCons tb tNil))) σ B (.int ((Nat.gcd i.natAbs j.natAbs : Nat) : Int)) := fun H1 e Q q =>
  ha H1 e _ fun H2 e2 => hb H2 (e.trans e2) _ fun H3 e3 => ⟨i, j, rfl, q H3 (e2.trans e3)⟩
theorem src_tu (h : EvP te σ B (TuP K ps)) : Src (iTup K te) σ B ps.length (fun i => ps.getD i (IsV .non)) := fun H1 a R k => h H1 a _ fun v B2 H2 g b => by
  obtain ⟨l, xs, rfl, hx, al⟩ := b
  refine ⟨l, rfl, ⟨xs, ex_t g.c hx⟩, k _ B2 H2 _ _ g (by rw [← al.len]; exact walk_tup) (fun H e => ex_t e hx) fun i H v H' _ e (z : H' = H ∧ _) => ⟨z.1, ?_⟩⟩
  have z2 : xs[i]? = some v := z.2
  obtain ⟨p, hp, k2⟩ := al.get z2
  show (ps.getD i (IsV .non)).P v B2
  rw [List.getD_eq_getElem?_getD, hp]
  exact k2
theorem getD_map {α : Type} {f : α → Pr} {l : List α} {i : Nat} (h : i < l.length) : (l.map f).getD i (IsV .non) = f l[i] := by
  rw [List.getD_eq_getElem?_getD, List.getElem?_map, List.getElem?_eq_getElem h]
  rfl
end
/-! ### promises of defs -/
end Nd
namespace Nd
set_option autoImplicit false
open PySem PySem.Spec PySem.W PySem.Calls PyProof.Rows L2 My Evl
theorem each_zip {R : Value → PyData → Prop} : ∀ {vs : List Value} {ks : List PyData} {xs : List V}, EachIs R vs ks → ks.length = xs.length → EachIs (fun v (p : V × PyData) => R v p.2) vs (xs.zip ks)
  | _, _, [], .nil, _ => .nil
  | _, _, [], .cons _ _, h => by simp at h
  | _, _, _ :: _, .nil, h => by simp at h
  | _, _, _ :: _, .cons a b, h => .cons a (each_zip b (by simpa using h))
section
variable {X : Cx} {pins : List (Addr × Obj)} {σ : L2.St} {H : Hp} {s : Shared} {A : Around} {E : Value → Shared → Prop}
/-- sorted(d) of a dict by tuples -/
theorem sorted_dict0 {d : Addr} {ks : List PyData} {as : List Addr} {Q : VK} (I : Inv X pins σ H s) (hh : A.in1.handled = none) {o : Obj} {es : Array DictEntry} {ep : Nat} (lo : (d == sysModules) = false)
    (ho : s.heap.get? d = some o) (ex : o.ExactDict) (hd : o.data = .dict es ep) (hes : es.toList.map (·.key) = as.map Value.ref) (hz : as.length ≤ sizeLine)
    (hl : ks.length = as.length) (hal : AllAlike ks) (hsk : Sortable ks) (hu : ∀ d, d ∈ ks → A.units + 2 + d.depth < cLine) (dp : DpAll X.K H (as.map V.ref) ks)
    (q : ∀ a, H a = none → Q (.ref a) (upd H a (.lst (byKey (as.map V.ref) ks)))) :
    wpAny (model X.prog X.w) A (call (.builtin "sorted") [.ref d]) (EP X pins σ Q) E s := by
  have hsz : es.size = as.length := by simpa using congrArg List.length hes
  refine call_function_entry_kw kind_sorted plain_sorted entry_sorted (args_sorted1 _) ?_
  unfold Builtin.«sorted»
  refine wpAny_bind (m := checkCount "sorted" 1 1 _) (wpAny_pure ?_)
  refine wpAny_bind (kdu_collect (A := A.in1) (KdlSrc.rawDict (es := es) (ep := ep) lo) hh ⟨o, ho, ex, hd⟩ (by omega) fun h1 tk acc hk hacc => ?_)
  have hA : acc.toList = as.map Value.ref := by
    apply List.ext_getElem?
    intro i
    by_cases hi : i < as.length
    · have hi2 : i < acc.size := by rw [hacc.1]; omega
      obtain ⟨hi3, e⟩ := hacc.2 i acc[i] (by rw [Array.getElem?_eq_getElem hi2])
      have e2 : (es.toList.map (·.key))[i]? = some es[i].key := by
        rw [List.getElem?_map, List.getElem?_eq_getElem (by simpa using hi3)]
        simp
      rw [← hes, e2, ← e]
      simp [hi2]
    · rw [List.getElem?_eq_none (by rw [Array.length_toList, hacc.1]; omega), List.getElem?_eq_none (by rw [List.length_map]; omega)]
  rw [hA]
  refine wpAny_bind (wpAny_newList ?_ (by rw [List.length_map]; exact hz))
  have I1 := I.kept (t' := tk) (h' := h1) hk
  have I2 := I1.kept (t' := tk) (h' := h1.push (seqObj "list" (as.map Value.ref).toArray 0)) (fun c o e => Heap.get?_push_of_some _ e)
  have at1 : (h1.push (seqObj "list" (as.map Value.ref).toArray 0)).get? h1.objs.size = some (seqObj "list" (as.map Value.ref).toArray 0) := Heap.get?_push_size _ rfl
  have hl' : ks.length = (as.map V.ref).length := by rw [List.length_map]; exact hl
  have vl : (byKey (as.map V.ref) ks).length ≤ sizeLine := by
    show (((as.map V.ref).zip ks).mergeSort (dataLe false (·.2)) |>.map (·.1)).length ≤ _
    rw [List.length_map, List.length_mergeSort, List.length_zip, List.length_map]
    omega
  have ev : EachIs (fun u d => ∃ bs, Reads (sortingHeap (h1.push (seqObj "list" (as.map Value.ref).toArray 0)) h1.objs.size (as.map Value.ref)) u d bs) (as.map Value.ref) ks :=
    (dps_each I1 (My.vals_refs as) dp).mono fun u d ⟨bs, r⟩ => ⟨bs, Reads.keeps (fun b o e => sortingHeap_old (Nat.ne_of_lt (Heap.lt_size e)) (Heap.get?_push_of_some _ e)) r⟩
  have ez := zip_snd hl'
  have er := each_zip ev hl'
  have out := sortVals_data (enc := fun p : V × PyData => p.2) false (vals_each (h := s.heap) (My.vals_refs as) hl') er (by rw [ez]; exact hal)
  obtain ⟨c, at3⟩ := sortedHeap_at (vs := as.map Value.ref) (out := (sortVals (dataKind (sortingHeap (h1.push (seqObj "list" (as.map Value.ref).toArray 0)) h1.objs.size (as.map Value.ref)) (((as.map V.ref).zip ks).map fun p => p.2)) false (as.map Value.ref) (as.map Value.ref)).toArray) at1
  refine wpAny_bind (wpAny_holding (wpAny_call_entry_kw slot_list_sort ⟨_, at1, rfl⟩ entry_list_sort ?_ (args_list_sort _)))
  refine list_sort_vals (s := { s with heap := h1.push (seqObj "list" (as.map Value.ref).toArray 0), toks := tk }) (κ := dataKind (sortingHeap (h1.push (seqObj "list" (as.map Value.ref).toArray 0)) h1.objs.size (as.map Value.ref)) (((as.map V.ref).zip ks).map fun p => p.2)) at1 ?_ (by rw [List.length_map]; exact hz) ?_
  · rw [ez]
    exact SortsAt.data (s := { s with heap := sortingHeap (h1.push (seqObj "list" (as.map Value.ref).toArray 0)) h1.objs.size (as.map Value.ref), toks := tk }) ev hal hsk hu
  · refine ⟨_, rfl, wpAny_pure ⟨_, rfl, .ref h1.objs.size, _, free2 (b := h1.objs.size + 1) (t' := tk) I2 (Fre.of I1 (Nat.le_refl _)) (Fre.of I1 (Nat.le_succ h1.objs.size)) (I1.hok.fresh (Nat.le_refl _)) (I1.hok.fresh (Nat.le_succ _)) (fun x o n1 n2 e => (sortedHeap_old n1 (Heap.lt_size e)).trans e) ⟨vl, _, c, each_vals out, at3⟩, rfl, q _ (I1.hok.fresh (Nat.le_refl _))⟩⟩
end
end Nd
namespace Nd
set_option autoImplicit false
open PySem PySem.W L2 My Evl
/-! ### derivatives in order, as Python compares -/
def leD (u v : Dv) : Bool := !dataLt v.D u.D
def srtD (us : List Dv) : List Dv := us.mergeSort leD
def dvs (p : Po) : List Dv := p.flatMap fun t => t.1.map (·.1)
def dvsIn (p : Po) : List Dv := srtD (dedD (dvs p))
theorem mem_in {p : Po} {u : Dv} : u ∈ dvsIn p ↔ u ∈ dvs p := by
  unfold dvsIn srtD
  rw [(List.mergeSort_perm _ _).mem_iff, ded_mem]
theorem byKey_dv {H : Hp} {xs : List V} {us : List Dv} (h : AllP (us.map DvP) xs H) : AllP ((srtD us).map DvP) (byKey xs (us.map Dv.D)) H := by
  have hl : xs.length = us.length := by
    have := h.len
    rw [List.length_map] at this
    exact this
  have e1 : xs.zip (us.map Dv.D) = (xs.zip us).map fun p => (p.1, p.2.D) := zip_pairs _ hl
  have e2 : ((xs.zip us).mergeSort fun p q => leD p.2 q.2).map (fun p => (p.1, p.2.D)) = (xs.zip (us.map Dv.D)).mergeSort (dataLe false (·.2)) := by
    rw [e1]
    refine List.map_mergeSort fun p _ q _ => ?_
    rw [dataLe_eq]
    rfl
  have e3 : ((xs.zip us).mergeSort fun p q => leD p.2 q.2).map (·.2) = srtD us := by
    have := List.map_mergeSort (r := fun p q : V × Dv => leD p.2 q.2) (s := leD) (f := fun p : V × Dv => p.2) (l := xs.zip us) (fun _ _ _ _ => rfl)
    rw [this, List.map_snd_zip (by omega)]
    rfl
  have e4 : byKey xs (us.map Dv.D) = ((xs.zip us).mergeSort fun p q => leD p.2 q.2).map (·.1) := by
    unfold byKey
    rw [← e2, List.map_map]
    rfl
  rw [e4, ← e3]
  exact AllP.of DvP fun p hp => AllP.zip DvP h p ((List.mergeSort_perm _ _).mem_iff.mp hp)
/-! ### derived of -/
def Rdin (K : PySem.W.Frag) : List Pr → Pr → Prop := fun ps p => ∃ c : Po, (dvs c).length ≤ 1000 ∧ ps = [poP K c] ∧ p = TuP K ((dvsIn c).map DvP)
section
variable {te ta tb : TE} {σ : L2.St} {B H : Hp} {ps : List Pr} {K : PySem.W.Frag} {t : TA}
end
end Nd
namespace Nd
set_option autoImplicit false
open PySem PySem.Spec PyProof.Rows L2 My Evl
theorem lay_store {xs : List NV} {us : List Value} {k : NestedKey} {a : Addr} {v : V} {u : Value} (r : Vals (xs.map (·.2.2)) us) (rv : RelV v u) :
    ∃ ws, Vals ((putN xs k a v).map (·.2.2)) ws ∧ storedH (lay xs us) k a u = lay (putN xs k a v) ws := by
  obtain ⟨h1, _, _⟩ := at_lay (k := k) r
  unfold storedH putN
  cases hh : hasN xs k with
  | true =>
    rw [hh] at h1
    obtain ⟨y, hy⟩ := Option.isSome_iff_exists.mp h1
    obtain ⟨ws, w1, w2⟩ := lay_put (k := k) rv r
    rw [if_pos rfl]
    exact ⟨ws, w1, by rw [← w2]; simp [hy]⟩
  | false =>
    rw [hh] at h1
    have hy : atKey (lay xs us) k = none := by simpa using h1
    rw [if_neg Bool.false_ne_true]
    refine ⟨us ++ [u], ?_, ?_⟩
    · rw [List.map_append]
      exact My.vals_app r (.cons rv .nil)
    · rw [lay_app (vlen r)]
      simp [hy, lay]
section
variable {X : Cx} {pins : List (Addr × Obj)} {σ : L2.St} {H : Hp} {s : Shared}
/-- d[y] = v, d a dict by nested keys -/
def sNPut (P : Program) (w : World) (K : PySem.W.Frag) (td ty tv : TE) : TS := fun D σ H => tv σ H fun v H1 => td σ H1 fun x H2 => ty σ H2 fun y H3 => ∃ (d a : Addr) (xs : List NV) (k : NestedKey), x = .ref d ∧ y = .ref a ∧ H3 d = some (DN P w d xs) ∧
  KeysOk K H3 xs ∧ KeyAt K H3 a k ∧ xs.length < 100000 ∧ D.nx σ (upd H3 d (DN P w d (putN xs k a v)))
theorem put_len {xs : List NV} {k : NestedKey} {a : Addr} {v : V} : (putN xs k a v).length ≤ xs.length + 1 := by
  unfold putN
  split
  · rw [List.length_map]
    exact Nat.le_succ _
  · rw [List.length_append]
    exact Nat.le_refl _
theorem ps_dputN {o i value : Expr} {td ty tv : TE} {pos pos' : Pos} (hu : X.A.units + 9 < cLine) (ho : PE X o td) (hi : PE X i ty) (hv : PE X value tv) (hs : swapsWith value (some (.Subscript o i pos')) pos.line X.env = pure false) :
    PS X (.Assign [.Subscript o i pos'] value pos) (sNPut X.prog X.w X.K td ty tv) := by
  refine ⟨fun pins s σ H D I h => ?_⟩
  refine wpAny_Assign_Subscript (thn (hv.run pins s σ H _ I h) fun r s1 ⟨v, H1, I1, rv, q1⟩ => thn (ho.run pins s1 σ H1 _ I1 q1) fun u s2 ⟨x, H2, I2, rx, q2⟩ => thn (hi.run pins s2 σ H2 _ I2 q2) fun iv s3 ⟨y, H3, I3, ry, d, a, xs, k, ex, ey, hd, hk, hkey, hz, q3⟩ => ?_) hs
  subst ex ey
  obtain rfl : u = Value.ref d := rx
  obtain rfl : iv = Value.ref a := ry
  obtain ⟨z1, z2, us, rr, m⟩ := dn_of I3 hd hk
  have big : (100000 : Nat) ≤ sizeLine := by decide
  refine wpAny_setItem_heap (knd := nestedKind X.prog X.w) (hsz := by rw [lay_len (vlen rr)]; omega) (by show X.A.units + 1 + 8 < cLine; omega) (key_is I3 hkey) m fun h' m' sb => ?_
  obtain ⟨ws, w1, w2⟩ := lay_store (k := k) (a := a) rr rv
  rw [w2] at m'
  have he : ∃ q, h'.get? d = some q := by
    obtain ⟨q, _, _, hq, _⟩ := m'
    exact ⟨q, hq⟩
  have := put_len (xs := xs) (k := k) (a := a) (v := v)
  exact ⟨σ, _, I3.write (e := d) (by rw [hd]; trivial) (.inl rfl) (fun b o hb e => (sb.2 b hb).trans e) he (dn_ok (dn_to z1 (by omega) w1 m')), q3⟩
/-- sorted(e), e a dict by nested keys -/
def tSortN (P : Program) (w : World) (K : PySem.W.Frag) (te : TE) : TE := fun σ H Q => te σ H fun v H1 => ∃ (d : Addr) (xs : List NV) (ks : List PyData), v = .ref d ∧ H1 d = some (DN P w d xs) ∧ ks.length = xs.length ∧ PySem.W.AllAlike ks ∧ PySem.W.Sortable ks ∧ (∀ e, e ∈ ks → e.depth ≤ 50) ∧
  DpAll K H1 (xs.map fun x => V.ref x.2.1) ks ∧ ∀ a, H1 a = none → Q (.ref a) (upd H1 a (.lst (byKey (xs.map fun x => V.ref x.2.1) ks)))
theorem lay_ref {P : Program} {w : World} : ∀ {xs : List NV} {us : List Value}, xs.length = us.length → ((lay xs us).map (entryOfKey (nestedKind P w))).map (·.key) = (xs.map (·.2.1)).map Value.ref
  | [], [], _ => rfl
  | _ :: _, _ :: _, h => congrArg (_ :: ·) (lay_ref (by simpa using h))
theorem pe_sortN {te : TE} {e : Expr} {p pos : Pos} {k : Nat} (hr : Room k X.A) (hg : Gl X "sorted") (hm : X.mg "sorted" = none) (he : PE X e te)
    (na : starEach [e] X.env = (false, eval e X.env) :: starEach [] X.env := by rfl) : PE X (.Call (.Name "sorted" p) [e] [] pos) (tSortN X.prog X.w X.K te) := by
  refine ⟨fun pins s σ H Q I h => ?_⟩
  refine PyProof.Rows.Call_ (ld_blt I hg hm (u := .builtin "sorted") (by decide +kernel) ?_)
  refine PyProof.Rows.callWith_builtin1 (PyProof.Rows.args_cons (thn (he.run pins s σ H _ I h) fun u s1 ⟨v, H1, I1, r1, q1⟩ => PyProof.Rows.args_nil ?_) na) na rfl
  obtain ⟨d, xs, ks, rfl, hd, a1, a2, a3, a4, a5, a6⟩ := q1
  obtain rfl : u = Value.ref d := r1
  have un := hr.un
  obtain ⟨z1, z2, us, o, es, ep, rr, e1, e2, e3, e4, e5⟩ := (I1.hok d _ hd).1
  have em : (xs.map fun x => V.ref x.2.1) = (xs.map (·.2.1)).map V.ref := by rw [List.map_map]; rfl
  rw [em] at a5
  simp only [em] at a6
  exact sorted_dict0 (E := X.xe) I1 (show X.A.in1.handled = none from hr.hd) z1 e1 e2 e3 (as := xs.map (·.2.1)) (by rw [e4, lay_ref (vlen rr)]) (by rw [List.length_map]; exact z2) (by rw [a1, List.length_map]) a2 a3 (fun d hd => by
    have := a4 d hd
    omega) a5 a6
end
/-! ### derivatives as keys -/
theorem nk_dv (u : Dv) : nk u.D = .tup [.text u.n, .num u.i, .num u.j] := by simp [Dv.D, nk, nkAll]
theorem nk_inj {u v : Dv} (h : nk u.D = nk v.D) : u = v := by
  rw [nk_dv, nk_dv] at h
  injection h with h
  injection h with h1 h
  injection h with h2 h
  injection h with h3 _
  injection h1 with h1
  injection h2 with h2
  injection h3 with h3
  cases u
  cases v
  simp_all
structure KeyL (us : List Dv) (xs : List NV) (B : Hp) : Prop where
  keys : xs.map (·.1) = us.map fun u => nk u.D
  refs : AllP (us.map DvP) (xs.map fun x => V.ref x.2.1) B
theorem KeyL.has {us : List Dv} {xs : List NV} {B : Hp} (h : KeyL us xs B) (u : Dv) : hasN xs (nk u.D) = decide (u ∈ us) := by
  have e : hasN xs (nk u.D) = (xs.map (·.1)).any fun k => decide (k = nk u.D) := by
    unfold hasN
    rw [List.any_map]
    rfl
  rw [e, h.keys, List.any_map]
  by_cases hm : u ∈ us
  · rw [decide_eq_true hm, List.any_eq_true]
    exact ⟨u, hm, by simp⟩
  · rw [decide_eq_false hm, List.any_eq_false]
    intro v hv
    simp only [Function.comp, decide_eq_true_eq]
    intro z
    exact hm (nk_inj z ▸ hv)
theorem KeyL.put {us : List Dv} {xs : List NV} {B : Hp} {u : Dv} {a : Addr} {v : V} (h : KeyL us xs B) (ha : (DvP u).P (.ref a) B) : KeyL (addD us u) (putN xs (nk u.D) a v) B := by
  unfold addD putN
  rw [h.has u]
  by_cases hm : u ∈ us
  · rw [if_pos hm, decide_eq_true hm, if_pos rfl]
    refine ⟨?_, ?_⟩
    · rw [← h.keys, List.map_map]
      refine List.map_congr_left fun x _ => ?_
      show (if x.1 = nk u.D then (x.1, x.2.1, v) else x).1 = x.1
      split <;> rfl
    · have : ((xs.map fun x => if x.1 = nk u.D then (x.1, x.2.1, v) else x).map fun x => V.ref x.2.1) = xs.map fun x => V.ref x.2.1 := by
        rw [List.map_map]
        refine List.map_congr_left fun x _ => ?_
        show V.ref (if x.1 = nk u.D then (x.1, x.2.1, v) else x).2.1 = V.ref x.2.1
        split <;> rfl
      rw [this]
      exact h.refs
  · rw [if_neg hm, decide_eq_false hm, if_neg Bool.false_ne_true]
    refine ⟨?_, ?_⟩
    · rw [List.map_append, List.map_append, h.keys]
      rfl
    · rw [List.map_append, List.map_append]
      exact h.refs.app ⟨ha, trivial⟩
theorem deep_nk (u : Dv) : (nk u.D).depth ≤ 8 := by
  rw [nk_dv]
  simp [NestedKey.depth, NestedKey.depthAll]
theorem key_dv {K : PySem.W.Frag} {H : Hp} {u : Dv} {a : Addr} (h : (DvP u).P (.ref a) H) : KeyAt K H a (nk u.D) := ⟨u.D, dv_d h, by simp [Dv.D, keyish, keyishAll], rfl, deep_nk u⟩
theorem KeyL.ok {K : PySem.W.Frag} {us : List Dv} {xs : List NV} {B H : Hp} (h : KeyL us xs B) (e : Evl.Ex B H) : KeysOk K H xs := fun x hx => by
  obtain ⟨i, hi, rfl⟩ := List.mem_iff_getElem.mp hx
  have hl : xs.length = us.length := by simpa using congrArg List.length h.keys
  have h1 := h.refs.m e
  obtain ⟨p, hp, k⟩ := h1.get (i := i) (v := V.ref xs[i].2.1) (by rw [List.getElem?_map, List.getElem?_eq_getElem hi]; rfl)
  rw [List.getElem?_map, List.getElem?_eq_getElem (by omega : i < us.length)] at hp
  obtain rfl : DvP us[i] = p := Option.some.inj hp
  have hk : xs[i].1 = nk us[i].D := by
    have := congrArg (fun l => l[i]?) h.keys
    simp only [List.getElem?_map, List.getElem?_eq_getElem hi, List.getElem?_eq_getElem (by omega : i < us.length)] at this
    exact Option.some.inj this
  rw [hk]
  exact key_dv k
/-- a for over a tuple in a slot: what is known stays as it is -/
theorem ps_forV {i : Nat} {v : V} {σ : L2.St} {B H : Hp} {ps : List Pr} {K : PySem.W.Frag} {D : Ends} {g : TG} {tbd : TS} (a : Evl.Ex B H) (hi : σ[i]? = some (some v)) (h : (TuP K ps).P v B)
    (k : ∃ Pv : Nat → L2.St → Hp → Prop, Pv 0 σ H ∧ (∀ j σ' H', j ≤ ps.length → Pv j σ' H' → Evl.Ex B H') ∧
      (∀ j v' σ' H', j < ps.length → Pv j σ' H' → (ps.getD j (IsV .non)).P v' B → g v' σ' H' fun σ2 H2 => tbd { D with nx := Pv (j + 1), ct := Pv (j + 1), bk := D.nx } σ2 H2) ∧ ∀ σ' H', Pv ps.length σ' H' → D.nx σ' H') :
    tFor (iTup K (tVar i)) g tbd D σ H := by
  obtain ⟨l, xs, rfl, hx, al⟩ := h
  obtain ⟨Pv, h0, hE, hs, hd⟩ := k
  refine ⟨_, hi, l, rfl, ⟨xs, ex_t a hx⟩, ?_⟩
  have w := walk_tup (K := K) (a := l) (xs := xs)
  rw [al.len] at w
  refine for_it w Pv h0 (fun j σ' H' hj pv => ex_t (hE j σ' H' hj pv) hx) (fun j x σ' H' H2 hj pv y => ?_) hd
  obtain ⟨rfl, y2⟩ := y
  obtain ⟨p, hp, k2⟩ := al.get y2
  refine hs j x σ' _ hj pv ?_
  rw [List.getD_eq_getElem?_getD, hp]
  exact k2
theorem dvs_take {c : Po} {i : Nat} (hi : i < c.length) : dvs (c.take (i + 1)) = dvs (c.take i) ++ c[i].1.map (·.1) := by
  unfold dvs
  rw [List.take_add_one, List.getElem?_eq_getElem hi, List.flatMap_append]
  simp
theorem dvs_le {c : Po} {i : Nat} (hi : i < c.length) (j : Nat) : (dvs (c.take i) ++ (c[i].1.take j).map (·.1)).length ≤ (dvs c).length := by
  have h1 : (dvs (c.take i) ++ (c[i].1.take j).map (·.1)).length ≤ (dvs (c.take (i + 1))).length := by
    rw [dvs_take hi, List.length_append, List.length_append, List.length_map, List.length_map, List.length_take]
    omega
  have h2 : (dvs (c.take (i + 1))).length ≤ (dvs c).length := by
    have : dvs c = dvs (c.take (i + 1)) ++ dvs (c.drop (i + 1)) := by
      unfold dvs
      rw [← List.flatMap_append, List.take_append_drop]
    rw [this, List.length_append]
    exact Nat.le_add_right _ _
  omega
theorem fold_len : ∀ (us ds : List Dv), (us.foldl addD ds).length ≤ ds.length + us.length
  | [], ds => Nat.le_refl _
  | u :: us, ds => by
    have h := fold_len us (addD ds u)
    have : (addD ds u).length ≤ ds.length + 1 := by
      unfold addD
      split
      · exact Nat.le_succ _
      · rw [List.length_append]
        exact Nat.le_refl _
    show (us.foldl addD (addD ds u)).length ≤ _
    rw [List.length_cons]
    omega
theorem KeyL.len {us : List Dv} {xs : List NV} {B : Hp} (h : KeyL us xs B) : xs.length = us.length := by simpa using congrArg List.length h.keys
theorem dps_dv {K : PySem.W.Frag} {H : Hp} : ∀ {us : List Dv} {vs : List V}, AllP (us.map DvP) vs H → DpAll K H vs (us.map Dv.D)
  | [], [], _ => .nil
  | _ :: _, _ :: _, h => .cons (dv_d h.1) (dps_dv h.2)
end Nd
namespace Nd
set_option autoImplicit false
open PySem PySem.W L2 My Evl
/-! ### a list under way: made at H0, filled by append and extend -/
structure AccAt (B H0 : Hp) (d : Addr) (ps : List Pr) (Bi H : Hp) : Prop where
  g : Gr B H0 Bi (wo d H)
  at_ : ∃ xs, H d = some (.lst xs) ∧ AllP ps xs Bi
section
variable {B H0 Bi B2 H H2 : Hp} {d : Addr} {ps qs : List Pr} {p : Pr} {K : PySem.W.Frag} {σ : L2.St} {D : Ends} {te : TE} {i : Nat}
theorem AccAt.ex (A : AccAt B H0 d ps Bi H) : Ex Bi H := A.g.c.trans wo_ex
theorem AccAt.on (A : AccAt B H0 d ps Bi H) : H d ≠ none := by
  obtain ⟨xs, h, _⟩ := A.at_
  rw [h]
  exact fun z => nomatch z
theorem AccAt.step (A : AccAt B H0 d ps Bi H) (k : Gr Bi H B2 H2) : AccAt B H0 d ps B2 H2 := by
  obtain ⟨xs, h, al⟩ := A.at_
  exact ⟨A.g.side A.on k, xs, k.a _ _ h, al.m k.b⟩
theorem AccAt.fin (A : AccAt B H0 d ps Bi H) (h0 : H0 d = none) : ∃ B', Gr B H0 B' H ∧ (LsP ps).P (.ref d) B' := by
  obtain ⟨xs, hd, al⟩ := A.at_
  have hB : Bi d = none := wo_none A.g.c
  refine ⟨upd Bi d (.lst xs), ⟨A.g.a.trans wo_ex, A.g.b.trans (Ex.new hB), fun b o e => ?_, fun x hb hh => ?_, fun z b qs q => ?_⟩, d, xs, rfl, upd_same, al.m (Ex.new hB)⟩
  · by_cases n : b = d
    · subst n
      rw [upd_same] at e
      rw [hd]
      exact e
    · rw [upd_ne n] at e
      exact A.g.c.trans wo_ex _ _ e
  · have n : x ≠ d := fun z => hh (by rw [z]; exact h0)
    rw [upd_ne n]
    exact A.g.d x hb hh
  · by_cases n : b = d
    · subst n
      rw [upd_same] at q
      cases q
    · rw [upd_ne n] at q
      exact A.g.e z b qs q
end
section
variable {B H0 Bi H : Hp} {d : Addr} {ps qs : List Pr} {K : PySem.W.Frag} {σ : L2.St} {D : Ends} {te : TE} {i : Nat}
end
section
variable {te : TE} {σ : L2.St} {B : Hp} {K : PySem.W.Frag} {x : Int} {xs : List Int}
end
end Nd
namespace Nd
set_option autoImplicit false
open PySem PySem.W L2 My Evl
/-! ### comprehensions of two fors -/
end Nd
namespace Nd
set_option autoImplicit false
open PySem PySem.W L2 My Evl LamX NdefX
/-- a def that makes a lambda: its code object is known -/
structure FunC (K : PySem.W.Frag) (x qual : Str) (st : Stmt) (c f : Addr) (fd : FuncData) : Prop where
  ex : ∃ (oc : Value) (od : Option Addr) (kV doc pm : Value) (an : Option Addr) (ct : Value) (osl : Array (Option Value)),
    fd = PySem.W.fnOf x qual (defArgs st) (defBody st) (defScope st) .none kV doc pm an (.ref c) ct ∧ K.lookup f = some ⟨oc, od, .func fd, osl⟩ ∧ PySem.W.codeIn K (.ref c) qual = true
theorem FunC.ok {P : Program} {w : World} {K : PySem.W.Frag} {mg : Str → Option Value} {base : Heap} {x qual : Str} {st : Stmt} {c f : Addr} {fd : FuncData} {N ps : List Str} {k : Nat} {sp : Sp} (F : FunC K x qual st c f fd) (S : FnScope N ps (defScope st)) (len : ∀ vs H Q E, sp vs H Q E → vs.length = ps.length)
    (hbody : ∀ (A : Around) (outer : List Env) (s : Shared) (H : Hp) (vs : List V) (Q : VK) (E : XK), Room k (A.deeper (PyProof.Rows.envOfC qual (defScope st) s.heap.objs.size f (.ref c))) → sp vs H Q E →
      ∃ t, PSs (cxOf CX0 P w K mg base N qual (defScope st) f (.ref c) A outer s H E).nox (defBody st) t ∧ t { nx := fun _ H' => Q .non H', rt := Q } (L2.start N vs) H) : FnOk P w K mg base CX0 (k + 1) f fd ps sp := by
  obtain ⟨oc, od, kV, doc, pm, an, ct, osl, e, lk, hcd⟩ := F.ex
  subst e
  exact fn_of lk hcd S len fun A outer s H vs Q E hr hsp => by
    obtain ⟨t, h1, h2⟩ := hbody A outer s H vs Q E hr hsp
    exact ⟨t, h1.nox, h2⟩
/-- the table at tb is for lambdas of this name -/
def TO (T : List (Addr × Str)) (tb : Addr) (q : Str) : Prop := (tb, q) ∈ T ∧ ∀ p ∈ T, p.1 = tb → p.2 = q
/-- what is known in B of a heap H with tables T -/
structure Kn (T : List (Addr × Str)) (B H : Hp) : Prop where
  e : Ex B H
  n : NoTab B
  t : Tabs T H
theorem Kn.next {T : List (Addr × Str)} {B H H2 : Hp} (k : Kn T B H) (e : ExtN H H2) (t : Tabs T H2) : Kn T B H2 := ⟨exN_ex k.e k.n e, k.n, t⟩
theorem Kn.gr {T : List (Addr × Str)} {B H B2 H2 : Hp} (k : Kn T B H) (g : Gr B H B2 H2) : Kn T B2 H2 := ⟨g.c, g.e k.n, k.t.ext g.a⟩
theorem Kn.ex {T : List (Addr × Str)} {B H H2 : Hp} (k : Kn T B H) (e : Ex H H2) : Kn T B H2 := ⟨k.e.trans e, k.n, k.t.ext e⟩
/-- all stays but the tables; what is known of B' leans on nothing else that stood in H -/
structure GT (T : List (Addr × Str)) (B H B' H' : Hp) : Prop where
  a : ExtN H H'
  b : Ex B B'
  c : Ex B' H'
  f : ∀ x o, B x = none → H x = some o → (∀ ps, o ≠ .tbl ps) → B' x = none
  e : NoTab B → NoTab B'
  t : Tabs T H → Tabs T H'
section
variable {T : List (Addr × Str)} {B H B1 H1 B2 H2 : Hp}
theorem GT.trans (g : GT T B H B1 H1) (k : GT T B1 H1 B2 H2) : GT T B H B2 H2 :=
  ⟨g.a.trans k.a, g.b.trans k.b, k.c, fun x o hb hh n => k.f x o (g.f x o hb hh n) (g.a x o hh n) n, fun z => k.e (g.e z), fun z => k.t (g.t z)⟩
theorem GT.gr (g : Gr B H B1 H1) : GT T B H B1 H1 := ⟨exN_of g.a, g.b, g.c, fun x o hb hh _ => g.d x hb (by rw [hh]; exact fun z => nomatch z), g.e, fun z => z.ext g.a⟩
theorem GT.xn (k : Kn T B H) (e : ExtN H H1) (t : Tabs T H1) : GT T B H B H1 := ⟨e, Ex.refl B, exN_ex k.e k.n e, fun _ _ h _ _ => h, id, fun _ => t⟩
theorem Kn.gt (k : Kn T B H) (g : GT T B H B1 H1) : Kn T B1 H1 := ⟨g.c, g.e k.n, g.t k.t⟩
end
end Nd
namespace Nd
set_option autoImplicit false
open PySem PySem.Spec PySem.W PySem.Calls PyProof.Rows L2 My Evl
section
variable {X : Cx}
end
end Nd
namespace Nd
set_option autoImplicit false
open PySem PySem.W L2 My Evl PyProof.Rows
/-! ### sorting by data -/
theorem AllP.zipG {α : Type} {H : Hp} (f : α → Pr) : ∀ {xs : List V} {us : List α}, AllP (us.map f) xs H → ∀ p ∈ xs.zip us, (f p.2).P p.1 H
  | [], [], _, p, hp => by simp at hp
  | x :: xs, u :: us, h, p, hp => by
    rw [List.zip_cons_cons] at hp
    rcases List.mem_cons.mp hp with rfl | hp
    · exact h.1
    · exact AllP.zipG f h.2 p hp
theorem AllP.ofG {α : Type} {H : Hp} (f : α → Pr) : ∀ {ps : List (V × α)}, (∀ p ∈ ps, (f p.2).P p.1 H) → AllP ((ps.map (·.2)).map f) (ps.map (·.1)) H
  | [], _ => trivial
  | p :: ps, h => ⟨h p List.mem_cons_self, AllP.ofG f fun q hq => h q (List.mem_cons_of_mem _ hq)⟩
def leT (s t : Mo × Fr) : Bool := !dataLt (tmD t) (tmD s)
def srtT (zs : Po) : Po := zs.mergeSort leT
theorem byKey_tm {K : PySem.W.Frag} {H : Hp} {xs : List V} {us : Po} (h : AllP (us.map (tmP K)) xs H) : AllP ((srtT us).map (tmP K)) (byKey xs (us.map tmD)) H := by
  have hl : xs.length = us.length := by
    have := h.len
    rw [List.length_map] at this
    exact this
  have e1 : xs.zip (us.map tmD) = (xs.zip us).map fun p => (p.1, tmD p.2) := zip_pairs _ hl
  have e2 : ((xs.zip us).mergeSort fun p q => leT p.2 q.2).map (fun p => (p.1, tmD p.2)) = (xs.zip (us.map tmD)).mergeSort (dataLe false (·.2)) := by
    rw [e1]
    refine List.map_mergeSort fun p _ q _ => ?_
    rw [dataLe_eq]
    rfl
  have e3 : ((xs.zip us).mergeSort fun p q => leT p.2 q.2).map (·.2) = srtT us := by
    have := List.map_mergeSort (r := fun p q : V × (Mo × Fr) => leT p.2 q.2) (s := leT) (f := fun p : V × (Mo × Fr) => p.2) (l := xs.zip us) (fun _ _ _ _ => rfl)
    rw [this, List.map_snd_zip (by omega)]
    rfl
  have e4 : byKey xs (us.map tmD) = ((xs.zip us).mergeSort fun p q => leT p.2 q.2).map (·.1) := by
    unfold byKey
    rw [← e2, List.map_map]
    rfl
  rw [e4, ← e3]
  exact AllP.ofG (tmP K) fun p hp => AllP.zipG (tmP K) h p ((List.mergeSort_perm _ _).mem_iff.mp hp)
theorem dlt_tr {x y z : PyData} (h : dataLt x z = true) : dataLt x y = true ∨ dataLt y z = true := lex_negTrans _ _ _ h
theorem dlt_as {x y : PyData} (h : dataLt x y = true) : dataLt y x = false := by
  cases e : dataLt y x with
  | false => rfl
  | true =>
    have := lex_trans _ _ _ h e
    rw [lex_irrefl] at this
    cases this
theorem leT_tot (s t : Mo × Fr) : (leT s t || leT t s) = true := by
  unfold leT
  cases h : dataLt (tmD t) (tmD s) with
  | false => rfl
  | true =>
    rw [dlt_as h]
    rfl
theorem leT_tr (s t u : Mo × Fr) (h : leT s t = true) (k : leT t u = true) : leT s u = true := by
  unfold leT at *
  cases e : dataLt (tmD u) (tmD s) with
  | false => rfl
  | true =>
    rcases dlt_tr (y := tmD t) e with a | a
    · rw [a] at k; cases k
    · rw [a] at h; cases h
theorem srtT_mem {zs : Po} {z : Mo × Fr} : z ∈ srtT zs ↔ z ∈ zs := (List.mergeSort_perm zs leT).mem_iff
/-! ### monomials as data -/
theorem eqv_dv0 (u v : Dv) : PyData.eqv u.D v.D = decide (u = v) := by
  obtain ⟨n, i, j⟩ := u
  obtain ⟨n', i', j'⟩ := v
  unfold Dv.D
  rw [PyData.eqv, Bool.eq_iff_iff]
  simp [PyData.eqvAll, PyData.eqv]
theorem eqv_pw (x y : Dv × Int) : PyData.eqv (pwD x) (pwD y) = decide (x = y) := by
  obtain ⟨u, i⟩ := x
  obtain ⟨v, j⟩ := y
  unfold pwD
  rw [PyData.eqv, PyData.eqvAll, PyData.eqvAll, PyData.eqvAll, eqv_dv0, PyData.eqv, Bool.eq_iff_iff]
  simp
theorem eqv_pws : ∀ m n : Mo, PyData.eqvAll (m.map pwD) (n.map pwD) = decide (m = n)
  | [], [] => by simp [PyData.eqvAll]
  | [], y :: n => by simp [PyData.eqvAll]
  | x :: m, [] => by simp [PyData.eqvAll]
  | x :: m, y :: n => by
    rw [List.map_cons, List.map_cons, PyData.eqvAll, eqv_pw, eqv_pws m n, Bool.eq_iff_iff]
    simp
theorem eqv_mo (m n : Mo) : PyData.eqv (moD m) (moD n) = decide (m = n) := by
  unfold moD
  rw [PyData.eqv]
  exact eqv_pws m n
theorem dlt_ne {x y : PyData} (h : alike x y = true) (e : PyData.eqv x y = false) : dataLt x y = true ∨ dataLt y x = true := by
  cases a : dataLt x y with
  | true => exact .inl rfl
  | false =>
    cases b : dataLt y x with
    | true => exact .inr rfl
    | false =>
      exfalso
      have t : keyToks x = keyToks y := lex_total _ _ a b
      have := (toks_eqv x y h).2 e [.inl 0] [.inl 1]
      rw [t, lex_pre, lex_irrefl] at this
      revert this
      decide
theorem dlt_tm {s t : Mo × Fr} (h : s.1 ≠ t.1) : dataLt (tmD s) (tmD t) = dataLt (moD s.1) (moD t.1) := by
  unfold tmD
  rw [dataLt_tuple]
  exact dataLt_all_no (alike_mo _ _) (by rw [eqv_mo, decide_eq_false h])
theorem srtT_ups {zs : Po} (nd : (zs.map (·.1)).Nodup) : Ups (fun t : Mo × Fr => moD t.1) (srtT zs) := by
  intro i h
  have pw := List.pairwise_mergeSort leT_tr leT_tot zs
  have nd2 : ((srtT zs).map (·.1)).Nodup := ((List.mergeSort_perm zs leT).map (·.1)).nodup_iff.mpr nd
  have hle : leT (srtT zs)[i] (srtT zs)[i + 1] = true := List.pairwise_iff_getElem.mp pw i (i + 1) (Nat.lt_of_succ_lt h) h (Nat.lt_succ_self i)
  have hne : (srtT zs)[i].1 ≠ (srtT zs)[i + 1].1 := by
    have := List.pairwise_iff_getElem.mp nd2 i (i + 1) (by rw [List.length_map]; exact Nat.lt_of_succ_lt h) (by rw [List.length_map]; exact h) (Nat.lt_succ_self i)
    simpa using this
  unfold leT at hle
  rw [dlt_tm hne.symm] at hle
  rcases dlt_ne (alike_mo (srtT zs)[i].1 (srtT zs)[i + 1].1) (by rw [eqv_mo, decide_eq_false hne]) with a | a
  · exact a
  · rw [a] at hle
    cases hle
theorem alike_fr (f g : Fr) : alike (frD f) (frD g) = true := by simp [frD, alike, alikeAll]
theorem alike_tm (s t : Mo × Fr) : alike (tmD s) (tmD t) = true := by
  unfold tmD
  rw [alike, alikeAll, alikeAll, alikeAll, alike_mo, alike_fr]
  rfl
theorem deep_tm (t : Mo × Fr) : (tmD t).depth ≤ 5 := by
  have := deep_mo t.1
  simp [tmD, frD, PyData.depth, PyData.depthAll]
  omega
theorem tm_alike (zs : Po) : AllAlike (zs.map tmD) := AllAlike.of fun s t => alike_tm s t
theorem tm_sortable (zs : Po) : Sortable (zs.map tmD) := Sortable.tuples fun t => ⟨_, _, rfl⟩
theorem tm_depth (zs : Po) : ∀ d, d ∈ zs.map tmD → d.depth ≤ 50 := fun d hd => by
  obtain ⟨t, _, rfl⟩ := List.mem_map.mp hd
  have := deep_tm t
  omega
/-! ### monomials as keys -/
theorem nk_pw (x : Dv × Int) : nk (pwD x) = .tup [nk x.1.D, .num x.2] := by simp [pwD, nk, nkAll]
theorem nkAll_inj : ∀ {m n : Mo}, nkAll (m.map pwD) = nkAll (n.map pwD) → m = n
  | [], [], _ => rfl
  | [], _ :: _, h => by simp [nkAll] at h
  | _ :: _, [], h => by simp [nkAll] at h
  | x :: m, y :: n, h => by
    rw [List.map_cons, List.map_cons, nkAll, nkAll] at h
    injection h with h1 h2
    rw [nk_pw, nk_pw] at h1
    injection h1 with h1
    injection h1 with h3 h4
    injection h4 with h4 _
    injection h4 with h4
    obtain ⟨u, i⟩ := x
    obtain ⟨v, j⟩ := y
    have := nk_inj h3
    simp_all
    exact nkAll_inj h2
theorem nkm_inj {m n : Mo} (h : nk (moD m) = nk (moD n)) : m = n := by
  unfold moD at h
  rw [nk, nk] at h
  injection h with h
  exact nkAll_inj h
theorem keyish_mo (m : Mo) : keyish (moD m) = true := by
  unfold moD
  rw [keyish]
  induction m with
  | nil => rfl
  | cons x m ih =>
    rw [List.map_cons, keyishAll, ih]
    simp [pwD, keyish, keyishAll, Dv.D]
theorem deep_nkm (m : Mo) : (nk (moD m)).depth ≤ 8 := by
  have : ∀ m : Mo, NestedKey.depthAll (nkAll (m.map pwD)) ≤ 5 := by
    intro m
    induction m with
    | nil => simp [nkAll, NestedKey.depthAll]
    | cons x m ih =>
      rw [List.map_cons, nkAll, NestedKey.depthAll, nk_pw, nk_dv]
      simp [NestedKey.depth, NestedKey.depthAll]
      omega
  unfold moD
  rw [nk, NestedKey.depth]
  have := this m
  omega
/-- what a dict from monomials to fractions holds, as the dict has it -/
def KM (K : PySem.W.Frag) : Po → List NV → Hp → Prop
  | [], [], _ => True
  | z :: zs, x :: xs, B => (x.1 = nk (moD z.1) ∧ (moP K z.1).P (.ref x.2.1) B ∧ (frP K z.2).P x.2.2 B) ∧ KM K zs xs B
  | [], _ :: _, _ => False
  | _ :: _, [], _ => False
def putZ (zs : Po) (m : Mo) (f : Fr) : Po := if m ∈ zs.map (·.1) then zs.map fun z => if z.1 = m then (z.1, f) else z else zs ++ [(m, f)]
section
variable {K : PySem.W.Frag} {B B' H : Hp}
theorem KM.m (e : Ex B B') : ∀ {zs : Po} {xs : List NV}, KM K zs xs B → KM K zs xs B'
  | [], [], _ => trivial
  | _ :: _, _ :: _, h => ⟨⟨h.1.1, (moP K _).m e h.1.2.1, (frP K _).m e h.1.2.2⟩, KM.m e h.2⟩
theorem KM.len : ∀ {zs : Po} {xs : List NV}, KM K zs xs B → xs.length = zs.length
  | [], [], _ => rfl
  | _ :: _, _ :: _, h => congrArg Nat.succ (KM.len h.2)
theorem KM.at : ∀ {zs : Po} {xs : List NV} {i : Nat} {x : NV}, KM K zs xs B → xs[i]? = some x → ∃ z, zs[i]? = some z ∧ x.1 = nk (moD z.1) ∧ (moP K z.1).P (.ref x.2.1) B ∧ (frP K z.2).P x.2.2 B
  | [], [], i, x, _, h => by simp at h
  | z :: _, y :: _, 0, x, h, e => by
    obtain rfl := Option.some.inj e
    exact ⟨z, rfl, h.1⟩
  | _ :: _, _ :: _, i + 1, x, h, e => KM.at (i := i) h.2 e
theorem KM.has (m : Mo) : ∀ {zs : Po} {xs : List NV}, KM K zs xs B → hasN xs (nk (moD m)) = decide (m ∈ zs.map (·.1))
  | [], [], _ => by simp [hasN]
  | z :: zs, x :: xs, h => by
    have ih := KM.has m h.2
    unfold hasN at *
    rw [List.any_cons, ih, h.1.1, List.map_cons, Bool.eq_iff_iff]
    simp only [Bool.or_eq_true, decide_eq_true_eq, List.mem_cons]
    constructor
    · rintro (a | a)
      · exact .inl (nkm_inj a).symm
      · exact .inr a
    · rintro (a | a)
      · exact .inl (by rw [a])
      · exact .inr a
theorem KM.app : ∀ {zs ys : Po} {xs us : List NV}, KM K zs xs B → KM K ys us B → KM K (zs ++ ys) (xs ++ us) B
  | [], _, [], _, _, h => h
  | _ :: _, _, _ :: _, _, a, h => ⟨a.1, KM.app a.2 h⟩
theorem KM.set {m : Mo} {f : Fr} {v : V} (hf : (frP K f).P v B) : ∀ {zs : Po} {xs : List NV}, KM K zs xs B → KM K (zs.map fun z => if z.1 = m then (z.1, f) else z) (xs.map fun x => if x.1 = nk (moD m) then (x.1, x.2.1, v) else x) B
  | [], [], _ => trivial
  | z :: zs, x :: xs, h => by
    refine ⟨?_, KM.set hf h.2⟩
    dsimp only
    by_cases e : z.1 = m
    · rw [if_pos e, if_pos (by rw [h.1.1, e])]
      exact ⟨h.1.1, h.1.2.1, hf⟩
    · rw [if_neg e, if_neg (fun k => e (nkm_inj (h.1.1.symm.trans k)))]
      exact h.1
theorem KM.put {m : Mo} {f : Fr} {a : Addr} {v : V} {zs : Po} {xs : List NV} (h : KM K zs xs B) (ha : (moP K m).P (.ref a) B) (hf : (frP K f).P v B) : KM K (putZ zs m f) (putN xs (nk (moD m)) a v) B := by
  unfold putZ putN
  rw [h.has m]
  by_cases e : m ∈ zs.map (·.1)
  · rw [if_pos e, decide_eq_true e, if_pos rfl]
    exact h.set hf
  · rw [if_neg e, decide_eq_false e, if_neg Bool.false_ne_true]
    exact h.app ⟨⟨rfl, ha, hf⟩, trivial⟩
theorem key_mo {m : Mo} {a : Addr} (h : (moP K m).P (.ref a) H) : KeyAt K H a (nk (moD m)) := ⟨moD m, to_mo m _ _ h, keyish_mo m, rfl, deep_nkm m⟩
theorem KM.ok {zs : Po} {xs : List NV} (h : KM K zs xs B) (e : Ex B H) : KeysOk K H xs := fun x hx => by
  obtain ⟨i, hi⟩ := List.mem_iff_getElem?.mp hx
  obtain ⟨z, _, h1, h2, _⟩ := (h.m e).at hi
  rw [h1]
  exact key_mo h2
end
end Nd
namespace Nd
set_option autoImplicit false
open PySem PySem.W L2 My Evl
/-! ### two lists under way -/
structure A2 (B H0 : Hp) (a b : Addr) (ps qs : List Pr) (C H : Hp) : Prop where
  g : Gr B H0 C (wo a (wo b H))
  fa : ∃ xs, H a = some (.lst xs) ∧ AllP ps xs C
  fb : ∃ ys, H b = some (.lst ys) ∧ AllP qs ys C
  ne : a ≠ b
section
variable {B H0 C H C2 H2 : Hp} {a b r : Addr} {ps qs ps' qs' : List Pr} {p : Pr} {xs ys zs : List V} {y : V}
theorem A2.ex (A : A2 B H0 a b ps qs C H) : Ex C H := (A.g.c.trans wo_ex).trans wo_ex
theorem A2.new (e : Ex B H) (ha : H a = none) (hb : upd H a (.lst []) b = none) : A2 B H a b [] [] B (upd (upd H a (.lst [])) b (.lst [])) := by
  have ne : a ≠ b := ne_of_none upd_same hb
  refine ⟨?_, ⟨[], by rw [upd_ne ne]; exact upd_same, trivial⟩, ⟨[], upd_same, trivial⟩, ne⟩
  rw [wo_new hb, wo_new ha]
  exact Gr.refl e
theorem A2.na (A : A2 B H0 a b ps qs C H) : C a = none ∧ C b = none := ⟨wo_none A.g.c, wo_none (A.g.c.trans wo_ex)⟩
theorem A2.step (A : A2 B H0 a b ps qs C H) (k : Gr C H C2 H2) : A2 B H0 a b ps qs C2 H2 := by
  obtain ⟨xs, hx, ax⟩ := A.fa
  obtain ⟨ys, hy, ay⟩ := A.fb
  have k1 : Gr C (wo b H) C2 (wo b H2) := (Gr.refl (A.g.c.trans wo_ex)).side (by rw [hy]; exact fun z => nomatch z) k
  have k2 : Gr B H0 C2 (wo a (wo b H2)) := A.g.side (by rw [wo_ne A.ne, hx]; exact fun z => nomatch z) k1
  exact ⟨k2, ⟨xs, k.a _ _ hx, ax.m k.b⟩, ⟨ys, k.a _ _ hy, ay.m k.b⟩, A.ne⟩
theorem A2.wide (A : A2 B H0 a b ps qs C H) (e : Ex H H2) : A2 B H0 a b ps qs C H2 := A.step (Gr.wide A.ex e)
theorem A2.fin (A : A2 B H0 a b ps qs C H) (ha : H0 a = none) (hb : H0 b = none) : ∃ C', Gr B H0 C' H ∧ (LsP ps).P (.ref a) C' ∧ (LsP qs).P (.ref b) C' := by
  obtain ⟨xs, hx, ax⟩ := A.fa
  obtain ⟨ys, hy, ay⟩ := A.fb
  obtain ⟨na, nb⟩ := A.na
  have e1 : Ex C (upd C a (.lst xs)) := Ex.new na
  have nb2 : (upd C a (.lst xs)) b = none := by rw [upd_ne A.ne.symm]; exact nb
  have e2 : Ex (upd C a (.lst xs)) (upd (upd C a (.lst xs)) b (.lst ys)) := Ex.new nb2
  refine ⟨upd (upd C a (.lst xs)) b (.lst ys), ⟨(A.g.a.trans wo_ex).trans wo_ex, A.g.b.trans (e1.trans e2), fun x o e => ?_, fun x h1 h2 => ?_, fun z x qs' q => ?_⟩, ⟨a, xs, rfl, e2 _ _ upd_same, ax.m (e1.trans e2)⟩, ⟨b, ys, rfl, upd_same, ay.m (e1.trans e2)⟩⟩
  · by_cases n : x = b
    · subst n
      rw [upd_same] at e
      rw [hy]
      exact e
    · rw [upd_ne n] at e
      by_cases m : x = a
      · subst m
        rw [upd_same] at e
        rw [hx]
        exact e
      · rw [upd_ne m] at e
        exact A.ex x o e
  · rw [upd_ne (fun z => h2 (by rw [z]; exact hb)), upd_ne (fun z => h2 (by rw [z]; exact ha))]
    exact A.g.d x h1 h2
  · by_cases n : x = b
    · subst n
      rw [upd_same] at q
      cases q
    · rw [upd_ne n] at q
      by_cases m : x = a
      · subst m
        rw [upd_same] at q
        cases q
      · rw [upd_ne m] at q
        exact A.g.e z x qs' q
end
/-! ### x is True -/
section
variable {X : Cx}
end
theorem sh_ints (l : List Int) : SeqAt.shaped (.list (l.map .int)) = true := by
  have : ∀ l : List Int, PyData.canLayAll0 (l.map .int) = true ∧ PyData.depthAll (l.map .int) = 0 := by
    intro l
    induction l with
    | nil => exact ⟨rfl, rfl⟩
    | cons x l ih =>
      refine ⟨?_, ?_⟩
      · simp only [List.map_cons, PyData.canLayAll0, PyData.canLay0, Bool.true_and]
        exact ih.1
      · simp only [List.map_cons, PyData.depthAll, PyData.depth]
        rw [ih.2]
        rfl
  have := this l
  simp [SeqAt.shaped, PyData.canLay0, PyData.depth, this.1, this.2]
end Nd
namespace L2
set_option autoImplicit false
open PySem PySem.Spec PyProof.Rows
/-! ### exceptions that were raised, as values -/
section
variable {X : Cx} {pins : List (Addr × Obj)} {σ : St} {H : Hp} {s : Shared}
/-- an exception that stands in the heap is known from now on -/
theorem Inv.track {a C : Addr} {d : Option Addr} {oe : Obj} {vs : Array Value} (I : Inv X pins σ H s) (ea : s.heap.get? a = some oe) (z : Zc (.ref C) d oe) (f : oe.data = .fields vs) (na : H a = none) (n0 : X.s_0.heap.get? a = none) (nl : a ≠ X.env.locals) (np : ∀ p ∈ X.pn ++ pins, p.1 ≠ a) : Inv X pins σ (upd H a (exw a C d)) s := by
  have far : ∀ b u, H b = some u → b ≠ a := fun b u e q => by
    rw [q, na] at e
    cases e
  have old : ∀ b o, X.s_0.heap.get? b = some o → b ≠ a := fun b o e q => by
    rw [q, n0] at e
    cases e
  have U : Un X.fs X.ex X.H_0 (upd H a (exw a C d)) X.s_0.heap s.heap :=
    { keep := I.base.keep
      slot := I.base.slot
      free := fun b o e n hx => by
        rw [upd_ne (old b o e)]
        exact I.base.free b o e n hx
      there := I.base.there
      tups := fun b xs e => by
        have t := I.base.tups b xs e
        rw [upd_ne (far b _ t)]
        exact t
      frzs := fun b o u e => by
        have t := I.base.frzs b o u e
        rw [upd_ne (far b _ t)]
        exact t
      tbls := fun b ps e => by
        obtain ⟨m, t⟩ := I.base.tbls b ps e
        exact ⟨m, by rw [upd_ne (far b _ t)]; exact t⟩ }
  refine ⟨I.ok, I.os, I.bare, U, I.loc, I.cell, by rw [upd_ne nl.symm]; exact I.free, fun x c e => ?_, fun p hp => ?_, I.hok.laidN (fun _ _ e => e) na (exw_ok ea z f), I.len⟩
  · rw [upd_ne]
    · exact I.freeC x c e
    · intro q
      obtain ⟨v, o, h1, h2⟩ := I.cell x c e
      rw [q, ea] at h1
      cases h1
      rw [f] at h2
      cases h2
  · obtain ⟨h1, h2, h3, h4, h5⟩ := I.pin p hp
    exact ⟨h1, by rw [upd_ne (np p hp)]; exact h2, h3, h4, h5⟩
end
/-- what the clause «except x as n: m = n» wishes of an exception of the body -/
def wKeep (K : PySem.W.Frag) (c : Value) (N i j : Nat) (Wout : WX) (D : Ends) : WX := fun cls d σ H =>
  ∃ b, PySem.W.exmOne K cls c = some b ∧ (b = true → ∃ C, cls = .ref C ∧ (σ.length = N → ∀ a, H a = none → D.nx (((σ.set i (some (.ref a))).set j (some (.ref a))).set i none) (upd H a (exw a C d)))) ∧ (b = false → Wout cls d σ H)
section
variable {X : Cx} {x n m : Str} {c : Value} {i j : Nat} {body : List Stmt} {np pos pos' q1 q2 q3 : Pos} {tb : WX → TS} {Wout : WX}
/-- try: .. except x as n: m = n -/
theorem ps_try_keep (hst : X.stack = X.env :: X.outer) (hfm : X.env.frame = some X.env.locals) (hex : X.ex = []) (hN : X.N.Nodup) (hi : X.N[i]? = some n) (hj : X.N[j]? = some m) (hln : X.env.kindOf n = some .local) (hlm : X.env.kindOf m = some .local) (hc : Names X x c) (tk : Takes X Wout)
    (hii : ∀ σ : St, σ.length = X.N.length → (σ.set i (some (V.ref 0)))[i]? = some (some (V.ref 0))) (hdn : (n == ("__debug__" : Str)) = false := by decide) (hcn : (n == ("__classdict__" : Str)) = false := by decide)
    (hsw : swapsWith (.Name n q2) (some (.Name m q1)) q3.line X.env = pure false)
    (hb : ∀ (W : WX) (pn : List (Addr × Obj)) (xe : Value → Shared → Prop), Takes (X.tr pn xe) W → PassesOwn (model X.prog X.w) X.A X.env xe → PSs (X.tr pn xe) body (tb W)) :
    PS X (.Try body [.ExceptHandler (some (.Name x np)) (some n) [.Assign [.Name m q1] (.Name n q2) q3] pos'] [] [] pos) (fun D σ H => tb (wKeep X.K c X.N.length i j Wout D) D σ H) := by
  refine ⟨fun pins s σ H D I h => ?_⟩
  have ok := I.ok
  have frames : X.A.frames = some (X.env :: X.outer) := ok.frames.trans (congrArg some hst)
  refine wpAny_Try_except (wpAny_mono ((hb (wKeep X.K c X.N.length i j Wout D) (X.pn ++ pins) _ (fun u s' air => ?_) PassesOwn.looking).run [] s σ H D (I.toTry _) h) (fun fl s1 done => ?_) fun _ _ z => z)
  · obtain ⟨a, B, sI, pinsI, σ', H', cls, d, rfl, JI, ground, up, sky, na, os, ag, b, asked, yes, no⟩ := air
    have J : Inv X pins σ' H' sI := JI.ofTry ok
    show wpAny (model X.prog X.w) X.A (noteFrame (.ref a) X.env) _ _ _
    refine Sky.land Zc.steady frames hfm (by rw [← hst]; exact sky) fun h3 fly up3 => ?_
    have J3 : Inv X pins σ' H' { s' with heap := h3 } := J.landed ground fly.1 (up.trans up3) os ag
    obtain ⟨o3, v3, e3, z3, d3⟩ := fly.there
    have noFrame : a ∉ frs (X.env :: X.outer) := fun mem => by
      obtain ⟨_, o', e', ns⟩ := fly.2.2.1.mem mem
      rw [e3] at e'
      cases e'
      exact ns _ d3
    have nL : a ≠ X.env.locals := fun z => noFrame (List.mem_filterMap.mpr ⟨X.env, List.mem_cons_self, hfm.trans (congrArg some z.symm)⟩)
    have nF : a ∉ X.fs := fun mem => by
      obtain ⟨e, he, q⟩ := List.mem_filterMap.mp mem
      exact noFrame (List.mem_filterMap.mpr ⟨e, List.mem_cons_of_mem _ he, q⟩)
    -- it is new
    have notI : sI.heap.get? a = none := by
      cases e : sI.heap.get? a with
      | none => rfl
      | some o =>
        have g := ground a o e (by rw [hst]; exact noFrame)
        rw [fly.2.1] at g
        cases g
    have not0 : X.s_0.heap.get? a = none := by
      cases e : X.s_0.heap.get? a with
      | none => rfl
      | some o =>
        obtain ⟨o', g⟩ := J.base.there a o e (by rw [hex]; exact List.not_mem_nil)
        rw [notI] at g
        cases g
    have notP : ∀ p ∈ X.pn ++ pins, p.1 ≠ a := fun p hp z => by
      have g := (J.pin p hp).1
      rw [z, notI] at g
      cases g
    have S3 := J3.suite e3 d3 na nL nF
    refine wpAny_handleBy_cons (codeAny_handlers_test ?_) (fun q => nomatch q)
    have looksT : PySem.W.Looks (model X.prog X.w) h3 (typeOf (.ref a)) cls := fun A Q E s k q => wpAny_typeOf_ref (k _ _ e3) (by rw [z3.1]; exact q)
    have looksM := PySem.W.exm_one (M := model X.prog X.w) J3.kIn looksT asked
    have nameOf : ∀ {Q : Value → Shared → Prop} {E : Value → Shared → Prop}, Q c { s' with heap := h3 } → wpAny (model X.prog X.w) (X.A.mark (some (.ref a))) (eval (.Name x np) X.env) Q E { s' with heap := h3 } := fun {Q E} q => by
      obtain ⟨hg, hdbg, hm | ⟨hm, hv, hnn⟩⟩ := hc
      · exact ld_glob (X := X.suite a ((a, o3) :: (X.pn ++ pins))) S3 hg hm q hdbg
      · exact ld_blt (X := X.suite a ((a, o3) :: (X.pn ++ pins))) S3 hg hm hv q hnn hdbg
    refine nameOf (looksM.here ?_)
    cases b with
    | true =>
      obtain ⟨C, rfl, yes2⟩ := yes rfl
      refine codeAny_handlers_suite_as (HandSPX.lands_againZ fly fun h4 fly4 up4 => ?_)
      have J4 : Inv X pins σ' H' { s' with heap := h4 } := J.landed ground fly4.1 ((up.trans up3).trans up4) os ag
      obtain ⟨o4, v4, e4, z4, d4⟩ := fly4.there
      have S4 := J4.suite e4 d4 na nL nF
      refine store_ok (X := X.suite a ((a, o4) :: (X.pn ++ pins))) (v := .ref a) S4 hN hi (.inl hln) rfl (fun s5 S5 => ?_) (.inr hln)
      let D5 : Ends := { nx := fun σ6 H6 => σ6 = (σ'.set i (some (.ref a))).set j (some (.ref a)) ∧ H6 = H', rt := fun _ _ => False }
      have suite : PSs (X.suite a ((a, o4) :: (X.pn ++ pins))) [.Assign [.Name m q1] (.Name n q2) q3] _ :=
        pss_one (ps_set (X := X.suite a ((a, o4) :: (X.pn ++ pins))) (i := j) hN hj (.inl hlm) (pe_var (X := X.suite a ((a, o4) :: (X.pn ++ pins))) (i := i) hi (.inl hln) hdn hcn) hsw (.inr hlm))
      have at_i : (σ'.set i (some (V.ref a)))[i]? = some (some (V.ref a)) := by
        have l := hii σ' J.len
        have lt : i < σ'.length := by
          by_cases q : i < σ'.length
          · exact q
          · rw [List.getElem?_eq_none (by rw [List.length_set]; omega)] at l
            cases l
        rw [List.getElem?_set_self lt]
      refine wpAny_mono (suite.run [] s5 _ H' D5 S5 ⟨.ref a, at_i, rfl, rfl⟩) (fun fl s6 done => ?_) fun _ _ z => False.elim z
      cases fl with
      | next =>
        obtain ⟨σ6, H6, S6, r1, r2⟩ := done
        subst r1 r2
        obtain ⟨p1, p2, _⟩ := S6.pin (a, o4) (List.mem_append_left _ List.mem_cons_self)
        have J6 := (S6.unsuite ok).track p1 z4 d4 p2 not0 nL notP
        exact gone_ok J6 hN hi hln fun s7 J7 => ⟨_, _, J7, yes2 J.len a na⟩
      | brk =>
        obtain ⟨_, _, _, z⟩ := done
        exact False.elim z
      | cont =>
        obtain ⟨_, _, _, z⟩ := done
        exact False.elim z
      | ret u =>
        obtain ⟨_, _, _, _, _, z⟩ := done
        exact False.elim z
    | false =>
      show wpAny _ X.A (handleBy (.ref a) X.env []) _ _ _
      refine wpAny_handleBy_nil ?_
      obtain ⟨_, _, _, oe, vs, T, oT, ts', he, hz, hd, hT, _⟩ := id fly
      unfold PySem.passOn
      refine wpAny_bind (wpAny_field he hd hT ?_)
      rw [if_neg (show ¬ ((Value.ref T == Value.none) = true) from by simp)]
      have last : wpAny (model X.prog X.w) X.A (setFlight (.ref a) X.env.frame) (fun _ s4 => wpAny (model X.prog X.w) X.A (throw (.ref a) : Sem Flow) (SP X pins D) X.xe s4) X.xe { s' with heap := h3 } := by
        rw [hfm]
        exact HandSPX.setFlight_upZ fly fun h4 held up4 => wpAny_throw (tk _ _ ⟨a, B, sI, pins, σ', H', cls, d, rfl, J, ground, (up.trans up3).trans up4, .inr (.inr (by rw [hst]; exact held)), na, os, ag, no rfl⟩)
      first
        | exact wpAny_bind (wpAny_pure (wpAny_bind last))
        | exact wpAny_bind last
  · cases fl with
    | next =>
      obtain ⟨σ', H', J', q⟩ := done
      exact wpAny_execs_nil ⟨σ', H', J'.ofTry ok, q⟩
    | brk =>
      obtain ⟨σ', H', J', q⟩ := done
      exact ⟨σ', H', J'.ofTry ok, q⟩
    | cont =>
      obtain ⟨σ', H', J', q⟩ := done
      exact ⟨σ', H', J'.ofTry ok, q⟩
    | ret u =>
      obtain ⟨v, σ', H', J', r, q⟩ := done
      exact ⟨v, σ', H', J'.ofTry ok, r, q⟩
end
end L2
namespace L2
set_option autoImplicit false
open PySem PySem.Spec PyProof.Rows
section
variable {X : Cx} {e : Expr} {te : TE}
/-- what gives a new own exception makes one that is raised -/
theorem pmk_val (hx : X.ex = []) (he : PE X e te) : PMk X e (fun σ H Q => te σ H fun x H1 => ∃ (a C : Addr) (d : Option Addr), x = .ref a ∧ H1 a = some (exo a C d) ∧ Fr0 X.H_0 a ∧ Raises X (.ref C) ∧ Q (.ref C) d (delH H1 a)) := by
  intro pins s σ H Q I h
  refine wpAny_mono (he.run pins s σ H _ I h) (fun u s1 done => ?_) fun _ _ z => z
  obtain ⟨v, H1, I1, r1, a, C, d, rfl, ha, h0, hr, q⟩ := done
  obtain rfl : u = Value.ref a := r1
  obtain ⟨t1, ho⟩ := exo_at I1.hok ha
  obtain ⟨G, gs, ga, J⟩ := I1.untrack (φ := fun h => ∃ t1 : Addr, h.get? a = some ({ cls := .ref C, dict := d, data := .fields #[.ref t1, .none, .none, .none, .bool false, .none] } : Obj)) ha h0 hx
  exact ⟨a, _, _, { s1 with heap := G }, delH H1 a, .ref C, d, rfl, J, gs, ga, ho, ⟨rfl, rfl⟩, rfl, rfl, delH_same, rfl, I1.bare, hr, q⟩
end
end L2
namespace Nd
set_option autoImplicit false
open PySem PySem.W L2 My Evl LamX
/-- how a def may end: what is known of what it tells, or the class and the fields of what it raises -/
inductive Out
  | ret (p : Pr)
  | exc (C : Addr) (fs : List (Str × Pr))
/-- of the dict of an exception with such fields -/
def ExcD (fs : List (Str × Pr)) (d : Option Addr) (B : Hp) : Prop := match fs with
  | [] => d = none
  | f :: r => ∃ (dx : Addr) (vs : List (Str × V)), d = some dx ∧ B dx = some (exd dx vs) ∧ vs.map Prod.fst = (f :: r).map Prod.fst ∧ AllP ((f :: r).map Prod.snd) (vs.map Prod.snd) B
theorem ExcD.m {fs : List (Str × Pr)} {d : Option Addr} {B B' : Hp} (e : Ex B B') (h : ExcD fs d B) : ExcD fs d B' := by
  match fs, h with
  | [], h => exact h
  | _ :: _, ⟨dx, vs, h1, h2, h3, h4⟩ => exact ⟨dx, vs, h1, e _ _ h2, h3, h4.m e⟩
def OutOk (o : Out) (B H : Hp) (Q : VK) (E : XK) : Prop := match o with
  | .ret p => ∀ v B' H', Gr B H B' H' → p.P v B' → Q v H'
  | .exc C fs => ∀ d B' H', Gr B H B' H' → ExcD fs d B' → E (.ref C) d H'
def OutT (T : List (Addr × Str)) (o : Out) (B H : Hp) (Q : VK) (E : XK) : Prop := match o with
  | .ret p => ∀ v B' H', GT T B H B' H' → p.P v B' → Q v H'
  | .exc C fs => ∀ d B' H', GT T B H B' H' → ExcD fs d B' → E (.ref C) d H'
/-- what a def promises that may raise | that may raise, and fills tables -/
def spO (R : List Pr → Out → Prop) : Sp := fun vs H Q E => ∃ B ps o, Ex B H ∧ AllP ps vs B ∧ R ps o ∧ OutOk o B H Q E
def spOT (T : List (Addr × Str)) (R : List Pr → Out → Prop) : Sp := fun vs H Q E => ∃ B ps o, Kn T B H ∧ AllP ps vs B ∧ R ps o ∧ OutT T o B H Q E
theorem spO_len {R : List Pr → Out → Prop} {n : Nat} (h : ∀ ps o, R ps o → ps.length = n) : ∀ vs H Q E, spO R vs H Q E → vs.length = n := fun vs H Q E ⟨B, ps, p, _, a, b, _⟩ => by rw [a.len]; exact h _ _ b
theorem spOT_len {T : List (Addr × Str)} {R : List Pr → Out → Prop} {n : Nat} (h : ∀ ps o, R ps o → ps.length = n) : ∀ vs H Q E, spOT T R vs H Q E → vs.length = n := fun vs H Q E ⟨B, ps, p, _, a, b, _⟩ => by rw [a.len]; exact h _ _ b
section
variable {T : List (Addr × Str)} {R : List Pr → Out → Prop} {t : TA} {σ : L2.St} {B H : Hp} {ps : List Pr} {o : Out} {Q : VK} {E : L2.St → XK} {D : Ends}
/-- such a call -/
theorem o_call (e : Ex B H) (h : EvPs t σ B ps) (hr : R ps o) (q : OutOk o B H Q (E σ)) : tCallS (spO R) E t σ H Q :=
  h H e _ fun vs B2 H2 g b => ⟨B2, ps, o, g.c, b, hr, by
    cases o with
    | ret p => exact fun v B3 H3 g3 hp => q v B3 H3 (g.trans g3) hp
    | exc C fs => exact fun d B3 H3 g3 hd => q d B3 H3 (g.trans g3) hd⟩
theorem o_callT (k : Kn T B H) (h : EvPs t σ B ps) (hr : R ps o) (q : OutT T o B H Q (E σ)) : tCallS (spOT T R) E t σ H Q :=
  h H k.e _ fun vs B2 H2 g b => ⟨B2, ps, o, k.gr g, b, hr, by
    cases o with
    | ret p => exact fun v B3 H3 g3 hp => q v B3 H3 ((GT.gr g).trans g3) hp
    | exc C fs => exact fun d B3 H3 g3 hd => q d B3 H3 ((GT.gr g).trans g3) hd⟩
theorem OutOk.to {o : Out} {B H B2 H2 : Hp} {Q : VK} {E : XK} (g : Gr B H B2 H2) (q : OutOk o B H Q E) : OutOk o B2 H2 Q E := by
  cases o with
  | ret p => exact fun v B3 H3 g3 hp => q v B3 H3 (g.trans g3) hp
  | exc C fs => exact fun d B3 H3 g3 hd => q d B3 H3 (g.trans g3) hd
theorem OutT.to {o : Out} {B H B2 H2 : Hp} {Q : VK} {E : XK} (g : GT T B H B2 H2) (q : OutT T o B H Q E) : OutT T o B2 H2 Q E := by
  cases o with
  | ret p => exact fun v B3 H3 g3 hp => q v B3 H3 (g.trans g3) hp
  | exc C fs => exact fun d B3 H3 g3 hd => q d B3 H3 (g.trans g3) hd
/-- of no tables -/
theorem OutT.ok {o : Out} {B H : Hp} {Q : VK} {E : XK} (q : OutT T o B H Q E) : OutOk o B H Q E := by
  cases o with
  | ret p => exact fun v B3 H3 g3 hp => q v B3 H3 (GT.gr g3) hp
  | exc C fs => exact fun d B3 H3 g3 hd => q d B3 H3 (GT.gr g3) hd
end
/-- a class whose instances are raised -/
structure RC (K : PySem.W.Frag) (C : Addr) : Prop where
  b : PySem.W.subIn K (.ref C) (.type "BaseException") = some true
  t : PySem.W.typeIn K (.ref C) = some (.type "type")
theorem RC.r {X : Cx} {C : Addr} (h : RC X.K C) : Raises X (.ref C) := raises_own h.b h.t
section
variable {X : Cx} {t tk : TA} {σ : L2.St} {B H H0 : Hp} {p : Pr} {C : Addr} {f : Str} {n m : Nat} {gV : List V → List V → List V} {Q : XK}
/-- raise C(..), C with an __init__ of one field -/
theorem x_raise1 {ps zs : List Pr} (rc : Raises X (.ref C)) (e : Ex B H) (h0 : Ex H0 H) (h : EvPs t σ B ps) (hk : EvPs tk σ B zs) (hn : ps.length = n) (hm : zs.length = m) (hg : ∀ (a : Addr) (vs ws : List V) (B1 : Hp), AllP ps vs B1 → AllP zs ws B1 → ∃ v, gV (.ref a :: vs) ws = [.ref a, v] ∧ p.P v B1)
    (q : ∀ d B' H', Gr B H B' H' → ExcD [(f, p)] d B' → Q (.ref C) d H') :
    tXNewN C n m (spI1 C f) gV t tk σ H fun x H1 => ∃ (a C' : Addr) (d : Option Addr), x = .ref a ∧ H1 a = some (exo a C' d) ∧ Fr0 H0 a ∧ Raises X (.ref C') ∧ Q (.ref C') d (delH H1 a) :=
  h H e _ fun vs B2 H2 g2 b2 => hk H2 (g2.b.trans g2.c) _ fun ws B3 H3 g3 b3 => ⟨by rw [b2.len, hn], by rw [b3.len, hm], fun a ha => by
    have gj := g2.join g3
    obtain ⟨v, ev, pv⟩ := hg a vs ws (both B2 B3) (b2.m both_l) (b3.m (both_r (g2.c.trans g3.a) g3.c))
    refine ⟨a, v, ev, upd_same, fun dx hd ne => ⟨rfl, a, C, some dx, rfl, upd_same, fr0_none ?_, rc, ?_⟩⟩
    · cases z : H0 a with
      | none => rfl
      | some o =>
        have := gj.a _ _ (h0 _ _ z)
        rw [ha] at this
        cases this
    · have hdx : H3 dx = none := by
        rw [← upd_ne (H := H3) (o := exo a C none) ne]
        exact hd
      have same : delH (upd (upd (upd H3 a (exo a C none)) dx (exd dx [(f, v)])) a (exo a C (some dx))) a = upd H3 dx (exd dx [(f, v)]) := funext fun b => by
        by_cases n1 : b = a
        · subst n1
          rw [delH_same, upd_ne ne.symm, ha]
        · rw [delH_ne n1, upd_ne n1]
          by_cases n2 : b = dx
          · subst n2
            rw [upd_same, upd_same]
          · rw [upd_ne n2, upd_ne n1, upd_ne n2]
      rw [same]
      have gn := Gr.new (.ext fun h => ∃ mA, h.Ns1 dx mA ∧ ∀ g, RelO ([(f, v)].lookup g) (mA g)) gj.c hdx
      exact q (some dx) _ _ (gj.trans gn) ⟨dx, [(f, v)], rfl, upd_same, rfl, p.m gn.b pv, trivial⟩⟩
end
end Nd
namespace Nd
open PySem PySem.W L2 My Evl LamX
set_option autoImplicit false
def testsOf (cx : Nat → Addr) : List Value := [.ref (cx 0), .ref (cx 1), .ref (cx 2), .ref (cx 3), .ref (cx 4), .ref (cx 5), .ref (cx 6), .ref (cx 12), .ref (cx 13), .ref (cx 14), .ref (cx 7), .ref (cx 8), .ref (cx 9), .ref (cx 15), .ref (cx 10), .ref (cx 11), .ref (cx 16), .type "ValueError", .ref (cx 17), .type "LookupError", .ref (cx 18), .type "RuntimeError"]
def nmOf : List Str := ["row", "polynomial", "ranking", "chain", "data", "jet", "paper", "twice", "place", "great", "unknown", "equation", "case", "nothing", "contradicted", "knotted", "ours", "value", "miss", "lookup", "end", "runtime"]
def kb : Nat → List Bool
  | 0 => [true, false, false, false, false, false, false, false, false, false, false, false, false, false, false, false, true, true, false, false, false, false]
  | 1 => [false, true, false, false, false, false, false, false, false, false, false, false, false, false, false, false, true, true, false, false, false, false]
  | 2 => [false, false, true, false, false, false, false, false, false, false, false, false, false, false, false, false, true, true, false, false, false, false]
  | 3 => [false, false, false, true, false, false, false, false, false, false, false, false, false, false, false, false, true, true, false, false, false, false]
  | 4 => [false, false, false, false, true, false, false, false, false, false, false, false, false, false, false, false, true, true, false, false, false, false]
  | 5 => [false, false, false, false, false, true, false, false, false, false, false, false, false, false, false, false, true, true, false, false, false, false]
  | 6 => [false, false, false, false, false, false, true, false, false, false, false, false, false, false, false, false, true, true, false, false, false, false]
  | 7 => [false, false, false, false, false, false, false, false, false, false, true, false, false, false, false, false, false, false, true, true, false, false]
  | 8 => [false, false, false, false, false, false, false, false, false, false, false, true, false, false, false, false, false, false, true, true, false, false]
  | 9 => [false, false, false, false, false, false, false, false, false, false, false, false, true, false, false, false, false, false, true, true, false, false]
  | 10 => [false, false, false, false, false, false, false, false, false, false, false, false, false, false, true, false, false, false, false, false, true, true]
  | 11 => [false, false, false, false, false, false, false, false, false, false, false, false, false, false, false, true, false, false, false, false, true, true]
  | 12 => [false, false, false, false, false, false, false, true, false, false, false, false, false, false, false, false, true, true, false, false, false, false]
  | 13 => [false, false, false, false, false, false, false, false, true, false, false, false, false, false, false, false, true, true, false, false, false, false]
  | 14 => [false, false, false, false, false, false, false, false, false, true, false, false, false, false, false, false, true, true, false, false, false, false]
  | 15 => [false, false, false, false, false, false, false, false, false, false, false, false, false, true, false, false, false, false, true, true, false, false]
  | _ => []
def bmI : Nat → List Value
  | 0 => [.type "ValueError", .type "Exception", .type "BaseException", .type "object"]
  | 1 => [.type "ValueError", .type "Exception", .type "BaseException", .type "object"]
  | 2 => [.type "ValueError", .type "Exception", .type "BaseException", .type "object"]
  | 3 => [.type "ValueError", .type "Exception", .type "BaseException", .type "object"]
  | 4 => [.type "ValueError", .type "Exception", .type "BaseException", .type "object"]
  | 5 => [.type "ValueError", .type "Exception", .type "BaseException", .type "object"]
  | 6 => [.type "ValueError", .type "Exception", .type "BaseException", .type "object"]
  | 7 => [.type "LookupError", .type "Exception", .type "BaseException", .type "object"]
  | 8 => [.type "LookupError", .type "Exception", .type "BaseException", .type "object"]
  | 9 => [.type "LookupError", .type "Exception", .type "BaseException", .type "object"]
  | 10 => [.type "RuntimeError", .type "Exception", .type "BaseException", .type "object"]
  | 11 => [.type "RuntimeError", .type "Exception", .type "BaseException", .type "object"]
  | 12 => [.type "ValueError", .type "Exception", .type "BaseException", .type "object"]
  | 13 => [.type "ValueError", .type "Exception", .type "BaseException", .type "object"]
  | 14 => [.type "ValueError", .type "Exception", .type "BaseException", .type "object"]
  | 15 => [.type "LookupError", .type "Exception", .type "BaseException", .type "object"]
  | _ => []
def nwI : Nat → String
  | 0 => "ValueError.__new__"
  | 1 => "ValueError.__new__"
  | 2 => "ValueError.__new__"
  | 3 => "ValueError.__new__"
  | 4 => "ValueError.__new__"
  | 5 => "ValueError.__new__"
  | 6 => "ValueError.__new__"
  | 7 => "LookupError.__new__"
  | 8 => "LookupError.__new__"
  | 9 => "LookupError.__new__"
  | 10 => "RuntimeError.__new__"
  | 11 => "RuntimeError.__new__"
  | 12 => "ValueError.__new__"
  | 13 => "ValueError.__new__"
  | 14 => "ValueError.__new__"
  | 15 => "LookupError.__new__"
  | _ => ""
/-- the module's classes: where they stand, what is known of them -/
structure XT (K : PySem.W.Frag) (mg : Str → Option Value) (cx : Nat → Addr) : Prop where
  xc : ∀ i, i < 16 → XC K (cx i) (bmI i) (nwI i)
  qc : ∀ i, i < 16 → 12 ≤ i → PySem.W.excIn K (cx i) (bmI i) (nwI i) = true
  f_0_row : PySem.W.findIn K (.ref (cx 0)) "row" = some none
  f_0_word : PySem.W.findIn K (.ref (cx 0)) "word" = some none
  f_1_number : PySem.W.findIn K (.ref (cx 1)) "number" = some none
  f_2_place : PySem.W.findIn K (.ref (cx 2)) "place" = some none
  f_3_place : PySem.W.findIn K (.ref (cx 3)) "place" = some none
  f_4_place : PySem.W.findIn K (.ref (cx 4)) "place" = some none
  f_5_place : PySem.W.findIn K (.ref (cx 5)) "place" = some none
  f_6_place : PySem.W.findIn K (.ref (cx 6)) "place" = some none
  f_7_name : PySem.W.findIn K (.ref (cx 7)) "name" = some none
  f_8_number : PySem.W.findIn K (.ref (cx 8)) "number" = some none
  f_9_number : PySem.W.findIn K (.ref (cx 9)) "number" = some none
  f_10_number : PySem.W.findIn K (.ref (cx 10)) "number" = some none
  f_11_number : PySem.W.findIn K (.ref (cx 11)) "number" = some none
  kt : ∀ i, i < 16 → (testsOf cx).map (PySem.W.kitOne K (.ref (cx i))) = (kb i).map some
  g_BadRow : mg "BadRow" = some (.ref (cx 0))
  g_BadPolynomial : mg "BadPolynomial" = some (.ref (cx 1))
  g_BadRanking : mg "BadRanking" = some (.ref (cx 2))
  g_BadChain : mg "BadChain" = some (.ref (cx 3))
  g_BadData : mg "BadData" = some (.ref (cx 4))
  g_BadJet : mg "BadJet" = some (.ref (cx 5))
  g_BadPaper : mg "BadPaper" = some (.ref (cx 6))
  g_NoUnknown : mg "NoUnknown" = some (.ref (cx 7))
  g_NoEquation : mg "NoEquation" = some (.ref (cx 8))
  g_NoCase : mg "NoCase" = some (.ref (cx 9))
  g_Contradicted : mg "Contradicted" = some (.ref (cx 10))
  g_Knotted : mg "Knotted" = some (.ref (cx 11))
  g_Twice : mg "Twice" = some (.ref (cx 12))
  g_OutOfPlace : mg "OutOfPlace" = some (.ref (cx 13))
  g_TooGreat : mg "TooGreat" = some (.ref (cx 14))
  g_Nothing : mg "Nothing" = some (.ref (cx 15))
  g_ChainError : mg "ChainError" = some (.ref (cx 16))
  g_MissError : mg "MissError" = some (.ref (cx 17))
  g_CaseError : mg "CaseError" = some (.ref (cx 18))
  n_isinstance : mg "isinstance" = none
  n_ValueError : mg "ValueError" = none
  n_LookupError : mg "LookupError" = none
  n_RuntimeError : mg "RuntimeError" = none
theorem kb_len {i : Nat} (hi : i < 16) : (kb i).length = 22 := (by decide : ∀ i, i < 16 → (kb i).length = 22) i hi
theorem XT.k {K : PySem.W.Frag} {mg : Str → Option Value} {cx : Nat → Addr} (T : XT K mg cx) {i : Nat} (hi : i < 16) (j : Nat) (hj : j < 22) : PySem.W.kitOne K (.ref (cx i)) ((testsOf cx).getD j .none) = some ((kb i).getD j false) := by
  have h := congrArg (fun l => l[j]?) (T.kt i hi)
  have l1 : j < (testsOf cx).length := hj
  have l2 : j < (kb i).length := by rw [kb_len hi]; exact hj
  simp only [List.getElem?_map, List.getElem?_eq_getElem l1, List.getElem?_eq_getElem l2, Option.map_some] at h
  rw [List.getD_eq_getElem?_getD, List.getD_eq_getElem?_getD, List.getElem?_eq_getElem l1, List.getElem?_eq_getElem l2]
  exact Option.some.inj h
/-- what is told of the kinds of the i-th -/
def kinds (i : Nat) : List Str := ((List.range 22).filter fun j => (kb i).getD j false).map fun j => nmOf.getD j Str.empty
def txts (l : List Str) : Pr := LsP (l.map fun x => IsV (.str x))
def spKinds (cx : Nat → Addr) : Sp := fun vs H Q _ => ∃ (i : Nat) (v : V) (B : Hp), i < 16 ∧ vs = [v] ∧ Ex B H ∧ (XK (cx i)).P v B ∧ ∀ u B' H', Gr B H B' H' → (txts (kinds i)).P u B' → Q u H'
section
variable {P : Program} {w : World} {K : PySem.W.Frag} {mg : Str → Option Value} {base : Heap}
def tPair (K : PySem.W.Frag) (nm : Str) (c : V) : TE := tTup (tCons (tC (.str nm)) (tCons (tCB (rXIs K) (tCons (tVar 0) (tCons (tC c) tNil))) tNil))
def prPair (K : PySem.W.Frag) (i j : Nat) : Pr := TuP K [IsV (.str (nmOf.getD j Str.empty)), IsV (.bl ((kb i).getD j false))]
theorem p_pair {cx : Nat → Addr} (T : XT K mg cx) {i : Nat} (hi : i < 16) (j : Nat) (hj : j < 22) {c : V} {σ : L2.St} {H : Hp} {v : V} (h0 : σ[0]? = some (some v)) (hv : (XK (cx i)).P v H) (hc : ∀ u, RelV c u → u = (testsOf cx).getD j .none) :
    EvP (tPair K (nmOf.getD j Str.empty) c) σ H (prPair K i j) :=
  p_tup (q_cons p_c (q_cons (p_xis (T.xc i hi) (p_var h0 hv) p_c hc (T.k hi j hj)) q_nil)) (by show 2 ≤ 100000; decide)
end
/-- what is known of an exception with such fields -/
def excP (C : Addr) (fs : List (Str × Pr)) : Pr := match fs with
  | [] => X0 C
  | f :: r => XF C (f :: r)
theorem exc_k {C : Addr} {fs : List (Str × Pr)} {v : V} {H : Hp} (h : (excP C fs).P v H) : (XK C).P v H := by
  match fs, h with
  | [], h => exact xk_0 h
  | _ :: _, h => exact xk_f h
/-- a caught exception that is kept: from B within H -/
theorem exc_grow {B H : Hp} {a C : Addr} {d : Option Addr} {fs : List (Str × Pr)} (e : Ex B H) (na : H a = none) (hd : ExcD fs d B) : ∃ B', Gr B H B' (upd H a (exw a C d)) ∧ (excP C fs).P (.ref a) B' := by
  have g : Gr B H (upd B a (exw a C d)) (upd H a (exw a C d)) := Gr.new (exw a C d) e na
  refine ⟨_, g, ?_⟩
  cases fs with
  | nil =>
    obtain rfl : d = none := hd
    exact ⟨a, rfl, .inr upd_same⟩
  | cons f r =>
    obtain ⟨dx, vs, rfl, h2, h3, h4⟩ := hd
    exact ⟨a, dx, vs, rfl, .inr upd_same, g.b _ _ h2, h3, h4.m g.b⟩
/-- which field is told -/
def fldOf : Nat → Option Str
  | 1 => some "number"
  | 2 => some "place"
  | 3 => some "place"
  | _ => none
/-- what is told of a refusal -/
def toldP (i : Nat) (fs : List (Str × Pr)) : Pr := match fldOf i, fs with
  | some _, [(_, p)] => LsP [IsV (.str (nmOf.getD i Str.empty)), p]
  | _, _ => LsP [txts (kinds i)]
/-- the deed's refusal, as it is told -/
def EchT (cx : Nat → Addr) (Q : VK) : XK := fun cls d H' => ∃ (i : Nat) (fs : List (Str × Pr)) (B' : Hp), i < 16 ∧ (kb i).getD 16 false = true ∧ cls = .ref (cx i) ∧ Ex B' H' ∧ ExcD fs d B' ∧ (∀ f, fldOf i = some f → ∃ p, fs = [(f, p)]) ∧ ∀ v B2 H2, Gr B' H' B2 H2 → (toldP i fs).P v B2 → Q v H2
def TTold (cx : Nat → Addr) : (XK → Hp → VK → Prop) → Hp → VK → Prop := fun tl H Q => ∀ H1, Ex H H1 → ∀ Q2 : VK, (∀ v H2, Q v H2 → Q2 v H2) → tl (EchT cx Q) H1 Q2
theorem toldP_no {i : Nat} {fs : List (Str × Pr)} (h : fldOf i = none) : toldP i fs = LsP [txts (kinds i)] := by
  unfold toldP
  rw [h]
theorem told_eq : ∀ i, i < 16 → PyData.eqv (.list ((kinds i).map .str)) (.list [.str "ranking", .str "ours", .str "value"]) = decide (i = 2) ∧ PyData.eqv (.list ((kinds i).map .str)) (.list [.str "chain", .str "ours", .str "value"]) = decide (i = 3) ∧ PyData.eqv (.list ((kinds i).map .str)) (.list [.str "polynomial", .str "ours", .str "value"]) = decide (i = 1) ∧ SeqAt.shaped (.list ((kinds i).map .str)) = true := by decide +kernel
theorem fld_no : ∀ i, i < 16 → i ≠ 1 → i ≠ 2 → i ≠ 3 → fldOf i = none := by decide
theorem ps_parX {i j : Nat} {t : TA} {σ : L2.St} {B H : Hp} {p q : Pr} {D : Ends} (a : Ex B H) (h : EvPs t σ B [p, q]) (n : ∀ v w B1 H1, Gr B H B1 H1 → p.P v B1 → q.P w B1 → D.nx ((σ.set i (some v)).set j (some w)) H1) : tPar i j t D σ H := h H a _ fun vs B1 H1 g x => by
  match vs, x with
  | [v, w], x => exact ⟨v, w, rfl, n v w B1 H1 g x.1 x.2.1⟩
theorem five {σ : L2.St} (h : σ.length = 5) : ∃ a b c d e, σ = [a, b, c, d, e] := by
  match σ, h with
  | [a, b, c, d, e], _ => exact ⟨a, b, c, d, e, rfl⟩
end Nd
namespace Nd
set_option autoImplicit false
open PySem PySem.W L2 My Evl LamX
/-! ### which data are good, as the program asks -/
def it (k : Nat) : PyData → PyData
  | .tuple xs => xs.getD k .none
  | _ => .none
def tupN (n : Nat) : PyData → Bool
  | .tuple xs => xs.length == n
  | _ => false
def isTu : PyData → Bool
  | .tuple _ => true
  | _ => false
def intOf : PyData → Int
  | .int i => i
  | _ => 0
def wholeB : PyData → Bool
  | .int _ => true
  | _ => false
def nameB : PyData → Bool
  | .str x => isNmB x
  | _ => false
def dvB (d : PyData) : Bool := tupN 3 d && (nameB (it 0 d) && (wholeB (it 1 d) && (wholeB (it 2 d) && (decide (0 ≤ intOf (it 1 d)) && decide (0 ≤ intOf (it 2 d))))))
def pwB (d : PyData) : Bool := tupN 2 d && (dvB (it 0 d) && (wholeB (it 1 d) && decide (0 < intOf (it 1 d))))
def frB (d : PyData) : Bool := tupN 2 d && (wholeB (it 0 d) && (wholeB (it 1 d) && (decide (0 < intOf (it 1 d)) && decide (Nat.gcd (intOf (it 0 d)).natAbs (intOf (it 1 d)).natAbs = 1))))
def chainB (f : PyData → Bool) : Option PyData → List PyData → Bool
  | _, [] => true
  | ah, x :: r => f x && ((ah.all fun a => dataLt a (it 0 x)) && chainB f (some (it 0 x)) r)
def chainAt (f : PyData → Bool) : Nat → Option PyData → List PyData → Option Nat
  | _, _, [] => none
  | n, ah, x :: r => if (f x && (ah.all fun a => dataLt a (it 0 x))) = true then chainAt f (n + 1) (some (it 0 x)) r else some n
def moB : PyData → Bool
  | .tuple xs => chainB pwB none xs
  | _ => false
def tmB (d : PyData) : Bool := tupN 2 d && (moB (it 0 d) && (frB (it 1 d) && !decide (intOf (it 0 (it 1 d)) = 0)))
def poAt : PyData → Option (Option Nat)
  | .tuple xs => (chainAt tmB 0 none xs).map some
  | _ => some none
def poB (d : PyData) : Bool := (poAt d).isNone
theorem tupN_ex {n : Nat} {d : PyData} (h : tupN n d = true) : ∃ xs, d = .tuple xs ∧ xs.length = n := by
  cases d <;> simp only [tupN] at h <;> try exact absurd h (by decide)
  exact ⟨_, rfl, by simpa using h⟩
theorem tpl2 {d : PyData} (h : tupN 2 d = true) : d = .tuple [it 0 d, it 1 d] := by
  obtain ⟨xs, rfl, hl⟩ := tupN_ex h
  match xs, hl with
  | [a, b], _ => rfl
theorem tpl3 {d : PyData} (h : tupN 3 d = true) : d = .tuple [it 0 d, it 1 d, it 2 d] := by
  obtain ⟨xs, rfl, hl⟩ := tupN_ex h
  match xs, hl with
  | [a, b, c], _ => rfl
theorem wholeB_ex {d : PyData} (h : wholeB d = true) : d = .int (intOf d) := by
  cases d <;> simp only [wholeB] at h <;> try exact absurd h (by decide)
  rfl
theorem nameB_ex {d : PyData} (h : nameB d = true) : ∃ x, d = .str x ∧ IsNm x := by
  cases d <;> simp only [nameB] at h <;> try exact absurd h (by decide)
  exact ⟨_, rfl, h⟩
theorem dvB_ex {d : PyData} (h : dvB d = true) : ∃ u : Dv, d = u.D ∧ IsNm u.n ∧ 0 ≤ u.i ∧ 0 ≤ u.j := by
  unfold dvB at h
  simp only [Bool.and_eq_true, decide_eq_true_eq] at h
  obtain ⟨h0, h1, h2, h3, h4, h5⟩ := h
  obtain ⟨x, hx, hn⟩ := nameB_ex h1
  exact ⟨⟨x, intOf (it 1 d), intOf (it 2 d)⟩, by rw [tpl3 h0, hx, wholeB_ex h2, wholeB_ex h3]; rfl, hn, h4, h5⟩
theorem dvB_of {u : Dv} (hn : IsNm u.n) (hi : 0 ≤ u.i) (hj : 0 ≤ u.j) : dvB u.D = true := by
  show (true && (isNmB u.n && (true && (true && (decide (0 ≤ u.i) && decide (0 ≤ u.j)))))) = true
  rw [show isNmB u.n = true from hn]
  simp [hi, hj]
theorem pwB_ex {d : PyData} (h : pwB d = true) : ∃ x : Dv × Int, d = pwD x ∧ dvB x.1.D = true ∧ 0 < x.2 := by
  unfold pwB at h
  simp only [Bool.and_eq_true, decide_eq_true_eq] at h
  obtain ⟨h0, h1, h2, h3⟩ := h
  obtain ⟨u, hu, _⟩ := dvB_ex h1
  exact ⟨(u, intOf (it 1 d)), by rw [tpl2 h0, hu, wholeB_ex h2]; rfl, by rw [← hu]; exact h1, h3⟩
theorem pwB_of {x : Dv × Int} (h : dvB x.1.D = true) (hp : 0 < x.2) : pwB (pwD x) = true := by
  show (true && (dvB x.1.D && (true && decide (0 < x.2)))) = true
  rw [h]
  simp [hp]
theorem frB_ex {d : PyData} (h : frB d = true) : ∃ f : Fr, d = frD f ∧ FrOk f := by
  unfold frB at h
  simp only [Bool.and_eq_true, decide_eq_true_eq] at h
  obtain ⟨h0, h1, h2, h3, h4⟩ := h
  exact ⟨(intOf (it 0 d), intOf (it 1 d)), by rw [tpl2 h0, wholeB_ex h1, wholeB_ex h2]; rfl, ⟨h3, h4⟩⟩
theorem chainB_all {f : PyData → Bool} : ∀ {xs : List PyData} {ah : Option PyData}, chainB f ah xs = true → ∀ x ∈ xs, f x = true
  | [], _, _, x, hx => absurd hx List.not_mem_nil
  | y :: r, ah, h, x, hx => by
    unfold chainB at h
    simp only [Bool.and_eq_true] at h
    rcases List.mem_cons.mp hx with rfl | hx
    · exact h.1
    · exact chainB_all h.2.2 x hx
theorem list_ex {α : Type} {g : α → PyData} : ∀ {xs : List PyData}, (∀ x ∈ xs, ∃ y, x = g y) → ∃ l : List α, xs = l.map g
  | [], _ => ⟨[], rfl⟩
  | x :: r, h => by
    obtain ⟨y, rfl⟩ := h x List.mem_cons_self
    obtain ⟨l, rfl⟩ := list_ex fun z hz => h z (List.mem_cons_of_mem _ hz)
    exact ⟨y :: l, rfl⟩
theorem moB_ex {d : PyData} (h : moB d = true) : ∃ m : Mo, d = moD m := by
  cases d <;> simp only [moB] at h <;> try exact absurd h (by decide)
  obtain ⟨l, rfl⟩ := list_ex (g := pwD) fun x hx => (pwB_ex (chainB_all h x hx)).imp fun _ k => k.1
  exact ⟨l, rfl⟩
theorem ups_tail {α : Type} {f : α → PyData} {x : α} {l : List α} (h : Ups f (x :: l)) : Ups f l := fun i hi => h (i + 1) (by simpa using hi)
theorem chainB_map {α : Type} {f : PyData → Bool} {g k : α → PyData} (hk : ∀ x, it 0 (g x) = k x) : ∀ {l : List α} {ah : Option PyData}, (∀ x ∈ l, f (g x) = true) → Ups k l → (∀ a x, ah = some a → l.head? = some x → dataLt a (k x) = true) → chainB f ah (l.map g) = true
  | [], _, _, _, _ => by rw [List.map_nil, chainB]
  | x :: l, ah, h, up, hh => by
    rw [List.map_cons, chainB, h x List.mem_cons_self, hk]
    have h1 : (ah.all fun a => dataLt a (k x)) = true := by
      cases ah with
      | none => rfl
      | some a => exact hh a x rfl rfl
    rw [h1, chainB_map hk (fun y hy => h y (List.mem_cons_of_mem _ hy)) (ups_tail up)]
    · rfl
    · rintro a y rfl' hy
      cases rfl'
      cases l with
      | nil => cases hy
      | cons z l =>
        cases hy
        exact up 0 (by simp)
theorem chainAt_iff {f : PyData → Bool} : ∀ {xs : List PyData} {ah : Option PyData} {n : Nat}, (chainAt f n ah xs).isNone = chainB f ah xs
  | [], _, _ => by rw [chainAt, chainB]; rfl
  | x :: r, ah, n => by
    rw [chainAt, chainB]
    cases h : f x && (ah.all fun a => dataLt a (it 0 x)) with
    | true =>
      rw [if_pos rfl, chainAt_iff, ← Bool.and_assoc, h, Bool.true_and]
    | false =>
      rw [if_neg Bool.false_ne_true, ← Bool.and_assoc, h, Bool.false_and]
      rfl
theorem poB_tu (xs : List PyData) : poB (.tuple xs) = chainB tmB none xs := by
  rw [← chainAt_iff (n := 0)]
  show (Option.map some (chainAt tmB 0 none xs)).isNone = _
  cases chainAt tmB 0 none xs <;> rfl
theorem of_B {r : Rk} {u : Dv} (h : r.Ok) (k : u.Of r) : dvB u.D = true := dvB_of (h.nm _ k.n) k.i k.j
mutual
/-- no text in it is long -/
def smB : PyData → Bool
  | .str x => decide (x.length ≤ 100000)
  | .tuple xs => smAll xs
  | .list xs => smAll xs
  | _ => true
def smAll : List PyData → Bool
  | [] => true
  | x :: r => smB x && smAll r
end
theorem smAll_mem : ∀ {xs : List PyData}, smAll xs = true → ∀ x ∈ xs, smB x = true
  | [], _, x, hx => absurd hx List.not_mem_nil
  | y :: r, h, x, hx => by
    unfold smAll at h
    rw [Bool.and_eq_true] at h
    rcases List.mem_cons.mp hx with rfl | hx
    · exact h.1
    · exact smAll_mem h.2 x hx
theorem smAll_of : ∀ {xs : List PyData}, (∀ x ∈ xs, smB x = true) → smAll xs = true
  | [], _ => by rw [smAll]
  | y :: r, h => by
    rw [smAll, h y List.mem_cons_self, smAll_of fun x hx => h x (List.mem_cons_of_mem _ hx)]
    rfl
theorem smd_tu {xs : List PyData} (h : smB (.tuple xs) = true) : ∀ x ∈ xs, smB x = true := by
  unfold smB at h
  exact smAll_mem h
theorem smd_non : smB .none = true := by rw [smB] <;> (intro _ z; cases z)
theorem smd_int {i : Int} : smB (.int i) = true := by rw [smB] <;> (intro _ z; cases z)
theorem smd_bl {b : Bool} : smB (.bool b) = true := by rw [smB] <;> (intro _ z; cases z)
theorem smd_str {x : Str} (h : x.length ≤ 100000) : smB (.str x) = true := by rw [smB]; exact decide_eq_true h
theorem smd_it {d : PyData} (h : smB d = true) (k : Nat) : smB (it k d) = true := by
  cases d with
  | tuple xs =>
    show smB (xs.getD k .none) = true
    rw [List.getD_eq_getElem?_getD]
    cases e : xs[k]? with
    | none => exact smd_non
    | some x => exact smd_tu h x (List.mem_of_getElem? e)
  | _ => exact smd_non
theorem smd_of {xs : List PyData} (h : ∀ x ∈ xs, smB x = true) : smB (.tuple xs) = true := by
  rw [smB]
  exact smAll_of h
theorem smd_dv {u : Dv} (h : u.n.length ≤ 100000) : smB u.D = true := smd_of fun x hx => by
  rcases List.mem_cons.mp hx with rfl | hx
  · exact smd_str h
  · rcases List.mem_cons.mp hx with rfl | hx
    · exact smd_int
    · obtain rfl := List.mem_singleton.mp hx
      exact smd_int
/-- whether a good derivative is of a ranking -/
def Rk.stB (r : Rk) (u : Dv) : Bool := decide (u.n ∈ r.ns) && (decide (u.j = 0) || decide ((Str.ofString "y") ∈ r.axs))
def dvOf (d : PyData) : Dv := match d with
  | .tuple [.str n, .int i, .int j] => ⟨n, i, j⟩
  | _ => ⟨Str.empty, 0, 0⟩
theorem dvOf_D (u : Dv) : dvOf u.D = u := rfl
def fitsB (r : Rk) (d : PyData) : Bool := dvB d && Rk.stB r (dvOf d)
theorem low_let {c : Nat} : decide (c ∈ (Str.ofString "abcdefghijklmnopqrstuvwxyz").cps.toList) = (decide (97 ≤ c) && decide (c ≤ 122)) := by
  have e : (Str.ofString "abcdefghijklmnopqrstuvwxyz").cps.toList = (List.range 26).map (· + 97) := by decide +kernel
  rw [Bool.eq_iff_iff, decide_eq_true_iff, Bool.and_eq_true, decide_eq_true_iff, decide_eq_true_iff]
  constructor
  · intro h
    rw [e] at h
    obtain ⟨k, hk, rfl⟩ := List.mem_map.mp h
    have := List.mem_range.mp hk
    omega
  · exact fun h => let_low h.1 h.2
theorem all_cps (x : Str) (f : Nat → Bool) : (((List.range x.cps.size).map fun i => f (x.cps.getD i 0)).all id) = x.cps.toList.all f := by
  have : ((List.range x.cps.size).map fun i => f (x.cps.getD i 0)) = x.cps.toList.map f := by
    apply List.ext_getElem?
    intro i
    rw [List.getElem?_map, List.getElem?_map]
    by_cases h : i < x.cps.size
    · rw [List.getElem?_range h, Array.getElem?_toList, Array.getElem?_eq_getElem h]
      simp [Array.getD_eq_getD_getElem?, Array.getElem?_eq_getElem h]
    · rw [List.getElem?_eq_none (by rw [List.length_range]; omega), Array.getElem?_toList, Array.getElem?_eq_none (by omega)]
      rfl
  rw [this, List.all_map]
  rfl
/-! ### data, as what is known -/
section
variable {K : PySem.W.Frag} {te ta tb : TE} {σ : L2.St} {B H : Hp} {q : Pr} {d : PyData} {ds : List PyData} {v : V}
theorem tu_d (h : Dp K H v (.tuple ds)) : (TuP K (ds.map (IsD K))).P v H := by
  cases h with
  | tup a b => exact ⟨_, _, rfl, a, dps_to b⟩
end
end Nd
namespace Nd
set_option autoImplicit false
open PySem PySem.W L2 My Evl LamX
def rP (us _ws : List Value) : List Value := us
def rPV (vs _zs : List V) : List V := vs
def rZV (vs _zs : List V) : List V := vs ++ [.non]
/-- a class of refusals with an __init__ of its own, of one field, over ValueError -/
structure RP (P : Program) (w : World) (K : PySem.W.Frag) (mg : Str → Option Value) (base : Heap) (x : Str) (C : Addr) (f : Str) (fI : Addr) (fd : FuncData) (gZ : List Value → List Value → List Value) : Prop where
  T : XC K C (bmI 1) (nwI 1)
  rc : RC K C
  m : mg x = some (.ref C)
  iC : PySem.W.findIn K (.ref C) "__init__" = some (some (.ref fI))
  tI : PySem.W.typeIn K (.ref fI) = some (.type "function")
  G : FnOk P w K mg base CX0 1 fI fd ["self", f] (spI1 C f)
  kP : KBn K fd ["self", f] 2 [] rP rPV
  kZ : KBn K fd ["self", f] 1 [] gZ rZV
/-- one without -/
structure RQ (K : PySem.W.Frag) (mg : Str → Option Value) (x : Str) (C : Addr) : Prop where
  q : PySem.W.excIn K C (bmI 13) (nwI 13) = true
  k : PySem.W.keepIn K (.ref C) = true
  rc : RC K C
  m : mg x = some (.ref C)
section
variable {X : Cx} {x f : Str} {C fI : Addr} {fd : FuncData} {gZ : List Value → List Value → List Value} {W : WX} {t : TA} {e : Expr} {p pos pos' : Pos}
theorem ps_raiseP (R : RP X.prog X.w X.K X.mg X.base x C f fI fd gZ) (hc : X.calm = true) (hx : X.ex = []) (tk : Takes X W) (hr : Room 2 X.A) (hg : Gl X x) (ha : PA X [e] t) (hdb : (x == ("__debug__" : Str)) = false := by decide)
    (he : starEach (e :: []) X.env = (false, eval e X.env) :: starEach [] X.env := by rfl) (hpl : (backTo pos (starEach [] X.env)).any (·.1) = false := by rfl) :
    PS X (.Raise (some (.Call (.Name x p) [e] [] pos)) none pos') (fun _ σ H => tXNewN C 1 0 (spI1 C f) rPV t tNil σ H fun y H1 => ∃ (a C' : Addr) (d : Option Addr), y = .ref a ∧ H1 a = some (exo a C' d) ∧ Fr0 X.H_0 a ∧ Raises X (.ref C') ∧ W (.ref C') d σ (delH H1 a)) :=
  ps_raise hc tk (pmk_val hx (pe_xnewP R.T xbV R.iC R.tI R.G hr R.kP (by decide) hg R.m ha hdb he hpl))
theorem ps_raiseZ (R : RP X.prog X.w X.K X.mg X.base x C f fI fd gZ) (hc : X.calm = true) (hx : X.ex = []) (tk : Takes X W) (hr : Room 2 X.A) (hg : Gl X x) (hdb : (x == ("__debug__" : Str)) = false := by decide) :
    PS X (.Raise (some (.Call (.Name x p) [] [] pos)) none pos') (fun _ σ H => tXNewN C 0 0 (spI1 C f) rZV tNil tNil σ H fun y H1 => ∃ (a C' : Addr) (d : Option Addr), y = .ref a ∧ H1 a = some (exo a C' d) ∧ Fr0 X.H_0 a ∧ Raises X (.ref C') ∧ W (.ref C') d σ (delH H1 a)) :=
  ps_raise hc tk (pmk_val hx (pe_xnewZ R.T xbV R.iC R.tI R.G hr R.kZ hg R.m hdb))
theorem ps_raiseQ {m : Str} {j : Nat} {p2 : Pos} (R : RQ X.K X.mg x C) (hc : X.calm = true) (tk : Takes X W) (hg : Gl X x) (hdb : (x == ("__debug__" : Str)) = false := by decide) :
    PS X (.Raise (some (.Call (.Name x p) [.Constant (.str m) j p2] [] pos)) none pos') (fun _ σ H => W (.ref C) none σ H) :=
  ps_raise hc tk (pmk_own F.excBase_ValueError R.q R.m R.k R.rc.r hg hdb)
end
section
variable {X : Cx} {t : TA} {σ : L2.St} {B H H0 : Hp} {p : Pr} {C : Addr} {f : Str} {W : WX}
theorem x_rsP (rc : Raises X (.ref C)) (e : Ex B H) (h0 : Ex H0 H) (h : EvPs t σ B [p]) (q : ∀ d B' H', Gr B H B' H' → ExcD [(f, p)] d B' → W (.ref C) d σ H') :
    tXNewN C 1 0 (spI1 C f) rPV t tNil σ H fun y H1 => ∃ (a C' : Addr) (d : Option Addr), y = .ref a ∧ H1 a = some (exo a C' d) ∧ Fr0 H0 a ∧ Raises X (.ref C') ∧ W (.ref C') d σ (delH H1 a) :=
  x_raise1 (n := 1) (m := 0) (gV := rPV) (f := f) (Q := fun c d H => W c d σ H) rc e h0 h q_nil rfl rfl (fun a vs ws B1 hv _ => by
    match vs, hv with
    | [v], hv => exact ⟨v, rfl, hv.1⟩) q
theorem x_rsZ (rc : Raises X (.ref C)) (e : Ex B H) (h0 : Ex H0 H) (q : ∀ d B' H', Gr B H B' H' → ExcD [(f, IsV .non)] d B' → W (.ref C) d σ H') :
    tXNewN C 0 0 (spI1 C f) rZV tNil tNil σ H fun y H1 => ∃ (a C' : Addr) (d : Option Addr), y = .ref a ∧ H1 a = some (exo a C' d) ∧ Fr0 H0 a ∧ Raises X (.ref C') ∧ W (.ref C') d σ (delH H1 a) :=
  x_raise1 (p := IsV .non) (n := 0) (m := 0) (gV := rZV) (f := f) (Q := fun c d H => W c d σ H) rc e h0 q_nil q_nil rfl rfl (fun a vs ws B1 hv _ => by
    match vs, hv with
    | [], hv => exact ⟨.non, rfl, rfl⟩) q
end
/-- a def of the program's that may raise, as it is called -/
structure CalX (P : Program) (w : World) (K : PySem.W.Frag) (mg : Str → Option Value) (base : Heap) (x : Str) (k : Nat) (ps : List Str) (sp : Sp) (f : Addr) (fd : FuncData) : Prop where
  G : FnOk P w K mg base (L2.CX P w) k f fd ps sp
  m : mg x = some (.ref f)
  k : PySem.W.keepIn K (.ref f) = true
  b : Binds K fd ps []
end Nd
namespace Nd
set_option autoImplicit false
open PySem PySem.W L2 My Evl LamX
/-- the thing ahead of another one: none yet, or such data -/
def AhP (K : PySem.W.Frag) (ah : Option PyData) (y : V) (B : Hp) : Prop := (ah = none ∧ y = .non) ∨ ∃ a, ah = some a ∧ Dp K B y a ∧ ∃ xs, a = .tuple xs
theorem AhP.m {K : PySem.W.Frag} {ah : Option PyData} {y : V} {B B' : Hp} (e : Ex B B') (h : AhP K ah y B) : AhP K ah y B' := h.imp id fun ⟨a, h1, h2, h3⟩ => ⟨a, h1, dp_m e h2, h3⟩
theorem et_ah {K : PySem.W.Frag} {ah : Option PyData} {y : V} {B : Hp} {σ : L2.St} {i : Nat} {te : TE} {d : PyData} (hi : σ[i]? = some (some y)) (h : AhP K ah y B) (he : EvP te σ B (IsD K d)) (al : ∀ a, ah = some a → alike d a = true) (hn : d ≠ .none) (hm : d.depth ≤ 50) :
    EvT (tAnd (tTest (tOp (fun x y H Q => y = V.non ∧ Q (.bl (!decide (x = V.non))) H) (tVar i) (tC .non))) (tTest (tOp (rLeD K) te (tVar i)))) σ B (!ah.all fun a => dataLt a d) := by
  rcases h with ⟨rfl, rfl⟩ | ⟨a, rfl, ha, xs, rfl⟩
  · exact et_is (et_and (a := false) (b := false) (et_test (ev_notN (p_varV hi))) (fun z => nomatch z)) rfl
  · obtain ⟨r, rfl⟩ : ∃ r, y = .ref r := by cases ha; exact ⟨_, rfl⟩
    exact et_is (et_and (a := true) (b := !dataLt (.tuple xs) d) (et_test (ev_notR hi)) fun _ => et_test (ev_leD (K := K) (d := d) (e := .tuple xs) he (p_var hi ha) (al _ rfl) hn (by omega))) rfl
end Nd
namespace Nd
set_option autoImplicit false
open PySem PySem.Spec PySem.W PyProof.Rows L2 My Evl
section
variable {X : Cx}
end
end Nd
namespace Nd
set_option autoImplicit false
open PySem PySem.Spec PySem.W PyProof.Rows L2 My Evl LamX
/-! ### data with {} at any place -/
mutual
inductive De (K : PySem.W.Frag) (H : Hp) : V → PyData → Prop
  | non : De K H .non .none
  | bl (b : Bool) : De K H (.bl b) (.bool b)
  | int (i : Int) : De K H (.int i) (.int i)
  | str (x : Str) : De K H (.str x) (.str x)
  | lst {a : Addr} {xs : List V} {ds : List PyData} : SqL K H a xs → DeAll K H xs ds → De K H (.ref a) (.list ds)
  | tup {a : Addr} {xs : List V} {ds : List PyData} : SqT K H a xs → DeAll K H xs ds → De K H (.ref a) (.tuple ds)
  | dct {a : Addr} : H a = some (.dK []) → De K H (.ref a) (.dict [])
inductive DeAll (K : PySem.W.Frag) (H : Hp) : List V → List PyData → Prop
  | nil : DeAll K H [] []
  | cons {v : V} {vs : List V} {d : PyData} {ds : List PyData} : De K H v d → DeAll K H vs ds → DeAll K H (v :: vs) (d :: ds)
end
mutual
theorem de_m {K : PySem.W.Frag} {H H' : Hp} (e : Ex H H') : ∀ {d : PyData} {v : V}, De K H v d → De K H' v d
  | _, _, .non => .non
  | _, _, .bl b => .bl b
  | _, _, .int i => .int i
  | _, _, .str x => .str x
  | _, _, .lst a b => .lst (ex_l e a) (des_m e b)
  | _, _, .tup a b => .tup (ex_t e a) (des_m e b)
  | _, _, .dct a => .dct (e _ _ a)
theorem des_m {K : PySem.W.Frag} {H H' : Hp} (e : Ex H H') : ∀ {ds : List PyData} {vs : List V}, DeAll K H vs ds → DeAll K H' vs ds
  | _, _, .nil => .nil
  | _, _, .cons a b => .cons (de_m e a) (des_m e b)
end
mutual
theorem dp_de {K : PySem.W.Frag} {H : Hp} : ∀ {d : PyData} {v : V}, Dp K H v d → De K H v d
  | _, _, .non => .non
  | _, _, .bl b => .bl b
  | _, _, .int i => .int i
  | _, _, .str x => .str x
  | _, _, .lst a b => .lst a (dps_des b)
  | _, _, .tup a b => .tup a (dps_des b)
theorem dps_des {K : PySem.W.Frag} {H : Hp} : ∀ {ds : List PyData} {vs : List V}, DpAll K H vs ds → DeAll K H vs ds
  | _, _, .nil => .nil
  | _, _, .cons a b => .cons (dp_de a) (dps_des b)
end
mutual
theorem de_dp {K : PySem.W.Frag} {H : Hp} : ∀ {d : PyData} {v : V}, De K H v d → d.hasDict = false → Dp K H v d
  | _, _, .non, _ => .non
  | _, _, .bl b, _ => .bl b
  | _, _, .int i, _ => .int i
  | _, _, .str x, _ => .str x
  | _, _, .lst a b, h => .lst a (des_dps b (by simpa only [PyData.hasDict] using h))
  | _, _, .tup a b, h => .tup a (des_dps b (by simpa only [PyData.hasDict] using h))
  | _, _, .dct _, h => by simp [PyData.hasDict] at h
theorem des_dps {K : PySem.W.Frag} {H : Hp} : ∀ {ds : List PyData} {vs : List V}, DeAll K H vs ds → PyData.hasDictAll ds = false → DpAll K H vs ds
  | _, _, .nil, _ => .nil
  | _, _, .cons a b, h => by
    simp only [PyData.hasDictAll, Bool.or_eq_false_iff] at h
    exact .cons (de_dp a h.1) (des_dps b h.2)
end
def IsE (K : PySem.W.Frag) (d : PyData) : Pr := ⟨fun v H => De K H v d, fun e h => de_m e h⟩
def ToE (K : PySem.W.Frag) (p : Pr) (d : PyData) : Prop := ∀ v H, p.P v H → De K H v d
theorem des_of {K : PySem.W.Frag} {H : Hp} : ∀ {ds : List PyData} {vs : List V}, AllP (ds.map (IsE K)) vs H → DeAll K H vs ds
  | [], [], _ => .nil
  | _ :: _, _ :: _, h => .cons h.1 (des_of h.2)
theorem des_to {K : PySem.W.Frag} {H : Hp} : ∀ {ds : List PyData} {vs : List V}, DeAll K H vs ds → AllP (ds.map (IsE K)) vs H
  | [], [], _ => trivial
  | _ :: _, _ :: _, .cons a b => ⟨a, des_to b⟩
theorem des_len {K : PySem.W.Frag} {H : Hp} : ∀ {ds : List PyData} {vs : List V}, DeAll K H vs ds → vs.length = ds.length
  | [], [], _ => rfl
  | _ :: _, _ :: _, .cons _ b => congrArg Nat.succ (des_len b)
/-- of what may be anything: what a test of it tells -/
def RBE (K : PySem.W.Frag) (f : PyData → Bool) : List Pr → Pr → Prop := fun ps p => ∃ (q : Pr) (d : PyData), ToE K q d ∧ smB d = true ∧ ps = [q] ∧ p = IsV (.bl (f d))
theorem to_idE {K : PySem.W.Frag} {d : PyData} : ToE K (IsE K d) d := fun _ _ h => h
theorem toE_of {K : PySem.W.Frag} {q : Pr} {d : PyData} (h : To K q d) : ToE K q d := fun v H x => dp_de (h v H x)
section
variable {K : PySem.W.Frag} {te ta tb : TE} {σ : L2.St} {B H : Hp} {q : Pr} {d : PyData} {ds : List PyData} {v : V} {D : Ends} {p : Pr}
theorem ty_e (h : De K H v d) : TyX K H v (.type (tyS d)) := by
  cases h with
  | non => exact .base .non
  | bl b => exact .base (.bl b)
  | int i => exact .base (.int i)
  | str x => exact .base (.str x)
  | lst a b =>
    rcases a with (a | ⟨o, a⟩) | ⟨o, its, n, hk, hc, _⟩
    · exact .base (.lst a)
    · exact .base (.frz a)
    · exact .kList hk hc
  | tup a b =>
    rcases a with (a | ⟨o, a⟩) | ⟨o, its, n, hk, hc, _⟩
    · exact .base (.tup a)
    · exact .fTuple a
    · exact .kTuple hk hc
  | dct a => exact .base (.dK a)
theorem ev_isiE {T : String} {b : Bool} (h : EvP te σ B (IsE K d)) (hk : kitB (tyS d) T = some b) : Ev (tCB (rIsi K) (tCons te (tCons (tC (.ty T)) tNil))) σ B (.bl b) := fun H1 a Q k =>
  h H1 a _ fun v B2 H2 g x => ⟨v, .ty T, .type (tyS d), .type T, b, rfl, .ty T, ty_e (de_m g.c x), kit_ty hk, k H2 g.a⟩
theorem ev_lenE {es : List PyData} (h : EvP te σ B (IsE K d)) (hd : d = .tuple es ∨ d = .list es) : Ev (tCB (rLenS K) (tCons te tNil)) σ B (.int (es.length : Int)) := fun H1 a Q k =>
  h H1 a _ fun v B2 H2 g x => by
    rcases hd with rfl | rfl
    · cases x with
      | tup y z =>
        refine ⟨_, _, rfl, .inr (ex_t g.c y), ?_⟩
        rw [des_len z]
        exact k H2 g.a
    · cases x with
      | lst y z =>
        refine ⟨_, _, rfl, .inl (ex_l g.c y), ?_⟩
        rw [des_len z]
        exact k H2 g.a
theorem p_toE (h : EvP te σ B p) (k : ToE K p d) : EvP te σ B (IsE K d) := h.imp fun v B1 _ b => k v B1 b
theorem p_eD (h : EvP te σ B (IsE K d)) (n : d.hasDict = false) : EvP te σ B (IsD K d) := h.imp fun v B1 _ b => de_dp b n
theorem ev_inE {i : Int} (h : EvP te σ B (IsE K (.int i))) : Ev te σ B (.int i) := ev_p (h.imp fun v B1 _ x => by cases x; rfl)
theorem tu_e (h : De K H v (.tuple ds)) : (TuP K (ds.map (IsE K))).P v H := by
  cases h with
  | tup a b => exact ⟨_, _, rfl, a, des_to b⟩
theorem e_tu (h : (TuP K (ds.map (IsE K))).P v H) : De K H v (.tuple ds) := by
  obtain ⟨a, xs, rfl, h1, h2⟩ := h
  exact .tup h1 (des_of h2)
theorem e_ls (h : (LsP (ds.map (IsE K))).P v H) : De K H v (.list ds) := by
  obtain ⟨a, xs, rfl, h1, h2⟩ := h
  exact .lst (sq_of h1) (des_of h2)
theorem ev_isTuE (h : EvP te σ B (IsE K d)) : Ev (tCB (rIsi K) (tCons te (tCons (tC (.ty "tuple")) tNil))) σ B (.bl (isTu d)) :=
  ev_isiE h (by cases d <;> (dsimp only [tyS, isTu]; decide +kernel))
theorem et_tupNE {n : Nat} (h : EvP te σ B (IsE K d)) : EvT (tOr (tNot (tTest (tCB (rIsi K) (tCons te (tCons (tC (.ty "tuple")) tNil))))) (tTest (tOp rNe (tCB (rLenS K) (tCons te tNil)) (tC (.int (n : Int)))))) σ B (!tupN n d) := by
  refine et_is (et_or (a := !isTu d) (b := !tupN n d) (et_not (et_test (ev_isTuE h))) fun e => ?_) ?_
  · obtain ⟨xs, rfl⟩ : ∃ xs, d = .tuple xs := by
      cases d <;> first | exact ⟨_, rfl⟩ | exact absurd e (by simp [isTu])
    refine et_is (et_test (ev_op (ev_lenE h (.inl rfl)) ev_c (rv_ne rfl))) ?_
    show (!decide (V.int (xs.length : Int) = V.int (n : Int))) = !(xs.length == n)
    by_cases q : xs.length = n
    · subst q
      simp
    · have : ¬ V.int (xs.length : Int) = V.int (n : Int) := fun z => q (by cases z; rfl)
      rw [decide_eq_false this]
      simp [q]
  · cases d <;> first | rfl | simp [isTu, tupN]
theorem ps_un3E {i j k : Nat} {d1 d2 d3 : PyData} (a : Ex B H) (h : EvP te σ B (IsE K (.tuple [d1, d2, d3])))
    (n : ∀ v1 v2 v3 B1 H1, Gr B H B1 H1 → De K B1 v1 d1 → De K B1 v2 d2 → De K B1 v3 d3 → D.nx (((σ.set i (some v1)).set j (some v2)).set k (some v3)) H1) :
    tAsg te (gTup K 3 (gCons (gName i) (gCons (gName j) (gCons (gName k) gNil)))) D σ H := h H a _ fun v B1 H1 g x => by
  cases x with
  | tup y z =>
    cases z with
    | cons z1 z =>
      cases z with
      | cons z2 z =>
        cases z with
        | cons z3 z =>
          cases z
          exact ⟨_, _, rfl, ex_t g.c y, rfl, _, _, rfl, _, _, rfl, _, _, rfl, rfl, n _ _ _ B1 H1 g z1 z2 z3⟩
end
/-! ### their text -/
/-- the modules' dict stands in the written part -/
def SysK (K : PySem.W.Frag) : Prop := ∃ o, K.lookup sysModules = some o ∧ o.cls = .type "dict"
section
variable {X : Cx} {pins : List (Addr × Obj)} {σ : L2.St} {H : Hp} {s : Shared}
mutual
theorem De.reads (I : Inv X pins σ H s) (S : SysK X.K) : ∀ {d : PyData} {v : V} {u : Value}, De X.K H v d → RelV v u → ∃ as, Reads s.heap u d as ∧ sysModules ∉ as
  | _, _, _, .non, r => by
    cases r
    exact ⟨_, Reads.none, List.not_mem_nil⟩
  | _, _, _, .bl b, r => by
    cases r
    exact ⟨_, Reads.bool b, List.not_mem_nil⟩
  | _, _, _, .int i, r => by
    obtain ⟨t, rfl⟩ := r
    exact ⟨_, Reads.int i t, List.not_mem_nil⟩
  | _, _, _, .str x, r => by
    obtain ⟨t, rfl⟩ := r
    exact ⟨_, Reads.str x t, List.not_mem_nil⟩
  | _, _, _, .lst h al, r => by
    cases r
    obtain ⟨its, rv, ⟨o, m, ho, hc, _, hd⟩, _⟩ := I.list h
    obtain ⟨as, hr, hn⟩ := De.readsAll I S al rv
    refine ⟨_, Reads.list ho hc hd hr, fun hm => ?_⟩
    rcases List.mem_cons.mp hm with e | hm
    · obtain ⟨o2, k1, k2⟩ := S
      have := I.kIn _ _ k1
      rw [e, ho] at this
      obtain rfl := Option.some.inj this
      rw [hc] at k2
      exact absurd k2 (by decide)
    · exact hn hm
  | _, _, _, .tup h al, r => by
    cases r
    obtain ⟨its, rv, ⟨o, ho, hc, m, hd⟩, _⟩ := I.tuple h
    obtain ⟨as, hr, hn⟩ := De.readsAll I S al rv
    exact ⟨_, Reads.tuple ho hc hd hr, hn⟩
  | _, _, _, .dct (a := a) h, r => by
    cases r
    obtain ⟨z, y, vs, rv, o, es, ep, e, ex, dat, _, pr, _⟩ := (show ObjOk X.prog X.w H s.heap a (.dK []) from I.hok a _ h)
    cases rv
    have he : es.toList = [] := by
      cases hh : es.toList with
      | nil => rfl
      | cons x l =>
        rw [hh] at pr
        cases pr
    refine ⟨_, Reads.dict (kvs := []) e ex.1 dat (by rw [he]; exact ReadsAll.nil) (by rw [he]; exact ReadsAll.nil), fun hm => ?_⟩
    rw [List.mem_singleton.mp hm] at y
    exact absurd rfl (beq_eq_false_iff_ne.mp y)
theorem De.readsAll (I : Inv X pins σ H s) (S : SysK X.K) : ∀ {ds : List PyData} {vs : List V} {us : List Value}, DeAll X.K H vs ds → Vals vs us → ∃ as, ReadsAll s.heap us ds as ∧ sysModules ∉ as
  | _, _, _, .nil, r => by
    cases r
    exact ⟨_, ReadsAll.nil, List.not_mem_nil⟩
  | _, _, _, .cons h hs, r => by
    cases r with
    | cons r1 r2 =>
      obtain ⟨as, q1, n1⟩ := De.reads I S h r1
      obtain ⟨bs, q2, n2⟩ := De.readsAll I S hs r2
      exact ⟨_, ReadsAll.cons q1 q2, fun hm => (List.mem_append.mp hm).elim n1 n2⟩
end
end
end Nd
namespace My
set_option autoImplicit false
open PySem PySem.Spec PySem.W PySem.Calls PyProof.Rows L2 Evl
/-! ### how many texts a tuple has, each once -/
def addZ (L : List Str) (k : Str) : List Str := if k ∈ L then L else k :: L
theorem addZ_mem {L : List Str} {k x : Str} : x ∈ addZ L k ↔ x ∈ L ∨ x = k := by
  unfold addZ
  split
  · rename_i h
    exact ⟨.inl, fun q => q.elim id fun e => e ▸ h⟩
  · rw [List.mem_cons]
    exact Or.comm
theorem addZ_len (L : List Str) (k : Str) : (addZ L k).length ≤ L.length + 1 := by
  unfold addZ
  split
  · omega
  · exact Nat.le_refl _
def dcnt (l : List Str) : Nat := (l.foldl addZ []).length
theorem dfold : ∀ (xs L : List Str), (∀ x, x ∈ xs.foldl addZ L ↔ x ∈ L ∨ x ∈ xs) ∧ (xs.foldl addZ L).length ≤ L.length + xs.length
  | [], L => ⟨fun x => by simp, Nat.le_refl _⟩
  | k :: xs, L => by
    rw [List.foldl_cons]
    obtain ⟨h1, h2⟩ := dfold xs (addZ L k)
    have := addZ_len L k
    refine ⟨fun x => ?_, by rw [List.length_cons]; omega⟩
    rw [h1, addZ_mem, List.mem_cons, or_assoc]
theorem dcnt_le (xs : List Str) : dcnt xs ≤ xs.length := by
  have := (dfold xs []).2
  rw [List.length_nil] at this
  unfold dcnt
  omega
theorem dcnt_add (xs : List Str) (y : Str) : dcnt (xs ++ [y]) = if y ∈ xs then dcnt xs else dcnt xs + 1 := by
  unfold dcnt
  rw [List.foldl_append]
  have h := (dfold xs []).1 y
  simp only [List.not_mem_nil, false_or] at h
  generalize xs.foldl addZ [] = L at h
  show (addZ L y).length = _
  unfold addZ
  by_cases e : y ∈ xs
  · rw [if_pos e, if_pos (h.mpr e)]
  · rw [if_neg e, if_neg (fun z => e (h.mp z)), List.length_cons]
/-- each once, just where all are unlike -/
theorem dcnt_nd : ∀ (n : Nat) (xs : List Str), xs.length = n → (dcnt xs = xs.length ↔ xs.Nodup)
  | 0, xs, h => by
    obtain rfl := List.length_eq_zero_iff.mp h
    exact ⟨fun _ => List.nodup_nil, fun _ => rfl⟩
  | n + 1, xs, h => by
    have ne : xs ≠ [] := fun e => by rw [e] at h; cases h
    obtain ⟨ys, y, rfl⟩ : ∃ ys y, xs = ys ++ [y] := ⟨xs.dropLast, xs.getLast ne, (List.dropLast_concat_getLast ne).symm⟩
    have hl : ys.length = n := by rw [List.length_append, List.length_singleton] at h; omega
    have ih := dcnt_nd n ys hl
    have le := dcnt_le ys
    rw [dcnt_add, List.length_append, List.length_singleton, List.nodup_append]
    by_cases e : y ∈ ys
    · rw [if_pos e]
      exact ⟨fun z => by omega, fun z => absurd rfl (z.2.2 y e y List.mem_cons_self)⟩
    · rw [if_neg e]
      refine ⟨fun z => ⟨ih.mp (by omega), by simp, fun a ha b hb => ?_⟩, fun z => by rw [ih.mpr z.1]⟩
      rw [List.mem_singleton.mp hb]
      exact fun q => e (q ▸ ha)
section
variable {prog : Program} {w : World} {A : Around} {R : Result → Shared → Prop} {I : Addr} {fp wr : List Addr} {n : Nat} {G : Array GenState → Array GenState → Prop} {P : Nat → Value → Prop} {St : Nat → Shared → Prop}
/-- the first i of them are in the set at S -/
abbrev SetTo2 (prog : Program) (w : World) (h : Heap) (S : Addr) (xs : List Str) (i : Nat) : Prop := h.SetOf (PySem.strKind prog w) S (fun z => decide (z ∈ xs.take i)) (dcnt (xs.take i))
theorem SetTo2.moved {h h' : Heap} {S : Addr} {xs : List Str} {i : Nat} (x : SetTo2 prog w h S xs i) (k : ∀ o, h.get? S = some o → h'.get? S = some o) : SetTo2 prog w h' S xs i := by
  obtain ⟨ob, es, ep, tb, ho, more⟩ := x
  exact ⟨ob, es, ep, tb, k _ ho, more⟩
theorem setLoop2 (W : WalksS prog w A.in1 I fp wr G n P St) (S : Addr) (ns : S ∉ fp) (xs : List Str) (hlen : xs.length = n) (hbig : n + 1 < scanBound) (hv : ∀ i v, P i v → ∃ t x, v = .str x t ∧ xs[i]? = some x) :
    ∀ (m i : Nat) (s : Shared), n - i = m → i ≤ n → St i s → SetTo2 prog w s.heap S xs i →
      (∀ z, Moved (S :: wr) G s z → SetTo2 prog w z.heap S xs n → R (.ok (.ret .none)) z) → codeAny (model prog w) A (.builtin "set.update.loop" ⟨[.ref S, .ref I], []⟩) R s := by
  have nw : S ∉ wr := fun q => ns (W.sub _ q)
  have more : ∀ c ∈ wr, c ∈ S :: wr := fun c q => List.mem_cons_of_mem _ q
  intro m
  induction m with
  | zero =>
    intro i s hm hi st x k
    obtain rfl : i = n := by omega
    refine codeAny_builtin PyProof.Rows.F.entry_set_update_loop ?_
    rw [Around.under_plainId (PyProof.Rows.F.plain_set_update_loop) _]
    show wpAny _ A.in1 (pyNext (.ref I) >>= _) _ _ s
    refine wpAny_bind (W.done s _ _ st fun z mv => ?_)
    show wpAny _ _ (ret .none) _ _ z
    exact wpAny_pure (k z (mv.mono more) (x.moved fun o e => mv.heap S o nw e))
  | succ m ih =>
    intro i s hm hi st x k
    have il : i < n := by omega
    refine codeAny_builtin PyProof.Rows.F.entry_set_update_loop ?_
    rw [Around.under_plainId (PyProof.Rows.F.plain_set_update_loop) _]
    show wpAny _ A.in1 (pyNext (.ref I) >>= _) _ _ s
    refine wpAny_bind (W.item i s _ _ il st fun v z pv st1 mv => ?_)
    obtain ⟨t, y, rfl, hy⟩ := hv i v pv
    have x1 : SetTo2 prog w z.heap S xs i := x.moved fun o e => mv.heap S o nw e
    show wpAny _ _ (holding [Value.str y t] (setAdd S (.str y t)) >>= _) _ _ z
    refine wpAny_bind (wpAny_holding ?_)
    unfold setAdd
    refine wpAny_holding (wpAny_bind ((PySem.strKind prog w).pyHash (k := y) (strKind_is _ _ _ _) ?_))
    refine wpAny_setAddHashed_of (knd := PySem.strKind prog w) (s := { z with toks := z.toks + 1 }) (strKind_is _ _ _ _) rfl x1 (by have := dcnt_le (xs.take i); rw [List.length_take] at this; omega) fun h1 sb x2 => ?_
    have x3 : SetTo2 prog w h1 S xs (i + 1) := PyProof.Rows.SetOf_congr x2 (fun q => by
      rw [List.take_add_one, hy]
      simp [List.mem_append]) (by
      rw [List.take_add_one, hy, Option.toList_some, dcnt_add]
      by_cases no : y ∈ xs.take i <;> simp [no])
    refine wpAny_pure ⟨plainId_quiet (PyProof.Rows.F.plain_set_update_loop) _, ih (i + 1) _ (by omega) il (W.frame _ z _ _ st1 (Nat.le_succ _) fun c hc o e => ?_) x3 fun z2 mv2 x4 => ?_⟩
    · rw [sb.2 c fun q : c = S => ns (by rw [← q]; exact hc)]
      exact e
    · refine k z2 (Moved.trans W.gtrans ((mv.mono more).then_heap (Nat.le_succ _) fun c o hc e => ?_) mv2) x4
      rw [sb.2 c fun q : c = S => hc (by rw [q]; exact List.mem_cons_self)]
      exact e
end
section
variable {prog : Program} {w : World} {A : Around} {E : Value → Shared → Prop} {s : Shared}
set_option maxHeartbeats 8000000 in
/-- set(t), t a tuple of texts -/
theorem call_setT2 {l : Addr} {items : Array Value} {xs : List Str} {Q : Value → Shared → Prop} (hh : A.handled = none) (tup : s.heap.IsTuple l items) (tx : TxtAt items xs) (hbig : xs.length + 1 < scanBound)
    (k : ∀ (h1 : Heap) (tk : Nat), SetTo2 prog w h1 s.heap.objs.size xs xs.length → (∀ c o, c < s.heap.objs.size → s.heap.get? c = some o → h1.get? c = some o) → Q (.ref s.heap.objs.size) { s with heap := h1, toks := tk }) :
    wpAny (model prog w) A (call (.type "set") [.ref l]) Q E s := by
  obtain ⟨mc, mt, mro⟩ := PySem.F.called_set.mro
  have m1 := PySem.F.called_set.made
  have m2 := PySem.F.called_set.sub
  refine wpAny_call (codeAny_of_tree ?_)
  show wpAny _ _ (callAny (.type "set") ⟨[.ref l], []⟩) _ _ _
  refine wpAny_pure ⟨Code.quiet_builtin _ (by decide +kernel), codeAny_builtin (PySem.F.entry_type_call) ?_⟩
  rw [Around.under_plain (weight_type_call_type "set" [.ref l] ([] : List (Str × Value))) rfl]
  have m3 := PySem.F.called_set.notType
  have m4 := PySem.F.called_set.canCreate
  have m5 := PySem.F.typeCall_set_1 (.ref l)
  repeat (any_goals (first | assumption | wp_step))

  refine codeAny_mono (code_set_new_1 (.ref l) (E := E) (Q₁ := fun u z => ∃ led : Bool, u = .ref s.heap.objs.size ∧ z = { s with heap := s.heap.push { cls := .type "set", dict := none, data := .set #[] 0 (.fresh 0 0 led) } }) fun led => ⟨led, rfl, rfl⟩) fun r z hr => ?_
  cases r with
  | error e => exact hr
  | ok fl =>
    cases fl with
    | ret u =>
      obtain ⟨led, rfl, rfl⟩ := hr
      have at0 : (s.heap.push { cls := .type "set", dict := none, data := .set #[] 0 (.fresh 0 0 led) }).get? s.heap.objs.size = some { cls := .type "set", dict := none, data := .set #[] 0 (.fresh 0 0 led) } := Heap.get?_push_size _ rfl
      have ty0 : Shared.TypeIs { s with heap := s.heap.push { cls := .type "set", dict := none, data := .set #[] 0 (.fresh 0 0 led) } } (.ref s.heap.objs.size) "set" := ⟨_, at0, rfl⟩
      have m6 := PySem.F.called_set.init.lookup
      have m7 := PySem.F.called_set.init.bind (.ref s.heap.objs.size)
      repeat (any_goals (first | assumption | wp_step))

      refine codeAny_mono (codeAny_call_builtin (R := wants (fun r z => r = .none ∧ ∃ h1 tk, z = { s with heap := h1, toks := tk } ∧ SetTo2 prog w h1 s.heap.objs.size xs xs.length ∧ ∀ c o, c < s.heap.objs.size → s.heap.get? c = some o → h1.get? c = some o) E)
        (PySem.F.called_set.init.plain) (PySem.F.entry_set_init) (check_set_init_1 ty0 ?_)) fun r2 z2 hr2 => ?_
      · obtain ⟨⟨tc, td, tda, ts⟩, to, tcl, tn, tdt⟩ := tup
        simp only at tcl tdt
        subst tcl
        subst tdt
        have to' : (s.heap.push { cls := .type "set", dict := none, data := .set #[] 0 (.fresh 0 0 led) }).get? l = some { cls := .type "tuple", dict := td, data := .seq items tn, slots := ts } := Heap.get?_push_of_some _ to
        have b1 := PySem.F.sub_tuple_set
        have b2 := PySem.F.sub_tuple_frozenset
        have b3 : (Value.type "tuple" == .type "dict") = false := by decide
        have tup1 : (s.heap.push { cls := .type "set", dict := none, data := .set #[] 0 (.fresh 0 0 led) }).IsTuple l items := ⟨_, to', rfl, tn, rfl⟩
        unfold Builtin.«set.__init__» noKeywords Builtin.Frozenset.updateFrom
        generalize eIt : pyIter = It
        wp_walk
        subst eIt

        refine wpAny_pyIter_tuple tup1 ?_
        refine wpAny_bind (wpAny_runValue ?_)
        have lt : l < s.heap.objs.size := Heap.lt_size to
        have hh3 : A.in1.in1.in1.handled = none := by simp [hh]
        have z1 : (s.heap.push { cls := .type "set", dict := none, data := .set #[] 0 (.fresh 0 0 led) }).objs.size = s.heap.objs.size + 1 := Heap.size_push ..
        have d1 : l ≠ (s.heap.push { cls := .type "set", dict := none, data := .set #[] 0 (.fresh 0 0 led) }).objs.size := by
          rw [z1]
          exact Nat.ne_of_lt (Nat.lt_succ_of_lt lt)
        have d2 : s.heap.objs.size ∉ [(s.heap.push { cls := .type "set", dict := none, data := .set #[] 0 (.fresh 0 0 led) }).objs.size, l] := by
          rw [z1]
          intro q
          rcases List.mem_cons.mp q with q | q
          · exact Nat.ne_of_lt (Nat.lt_succ_self _) q
          · exact Nat.ne_of_gt lt (List.mem_singleton.mp q)
        have tx2 : ∀ (i : Nat) (v : Value), items[i]? = some v → ∃ t x, v = .str x t ∧ xs[i]? = some x := tx.2
        have z2 : items.size = xs.length := tx.1
        refine setLoop2 ((Walks.tuple hh3 _ l d1 items).toS) s.heap.objs.size d2 xs z2.symm (by omega) tx2 (items.size - 0) 0 _ (by omega) (Nat.zero_le _) ⟨⟨_, Heap.get?_push_size _ rfl, rfl, rfl⟩, tup1.push _⟩ ?_ ?_
        · have at1 : ((s.heap.push { cls := .type "set", dict := none, data := .set #[] 0 (.fresh 0 0 led) }).push { cls := .type "tuple_iterator", data := .fields #[.ref l, .int 0 0] }).get? s.heap.objs.size
              = some { cls := .type "set", dict := none, data := .set #[] 0 (.fresh 0 0 led) } := Heap.get?_push_of_some _ at0
          exact PyProof.Rows.SetOf_congr ((PyProof.Rows.setObjOf_fresh (knd := PySem.strKind prog w) led).setOf at1 (by unfold scanBound; omega)) (fun q => by simp) rfl
        · intro z mv x
          obtain ⟨h1, g1, d3, tk1, os1⟩ := z
          obtain rfl : g1 = s.gens := mv.gens
          obtain rfl : d3 = s.drawn := mv.drawn
          obtain rfl : os1 = s.os := mv.os
          show wpAny _ _ _ _ _ _
          apply wpAny_pure
          show wpAny _ _ (ret .none) _ _ _
          rw [z2] at x
          refine wpAny_pure ⟨rfl, h1, tk1, rfl, x, fun c o hc e => ?_⟩
          refine mv.heap c o (fun q => ?_) (Heap.get?_push_of_some _ (Heap.get?_push_of_some _ e))
          rcases List.mem_cons.mp q with q | q
          · exact Nat.ne_of_lt hc q
          · have q1 := List.mem_singleton.mp q
            rw [z1] at q1
            exact Nat.ne_of_lt (Nat.lt_succ_of_lt hc) q1
      · cases r2 with
        | error e => exact hr2
        | ok fl2 =>
          cases fl2 with
          | ret r =>
            obtain ⟨rfl, h1, tk, rfl, x, kp⟩ := hr2
            repeat (any_goals (first | assumption | wp_step))
            exact k _ _ x kp
          | _ => exact hr2.elim
    | _ => exact hr.elim
end
/-- len(set(t)), t a tuple of texts -/
def tLenSetU (K : PySem.W.Frag) (ta : TE) : TE := fun σ H Q => ta σ H fun x H1 => ∃ (l : Addr) (xs : List Str), x = .ref l ∧ SqT K H1 l (xs.map V.str) ∧ xs.length ≤ 4000 ∧ Q (.int (dcnt xs : Nat)) H1
theorem pe_lenSetU {X : Cx} {a : Expr} {ta : TE} {p p2 q pos : Pos} (hc : X.calm = true) (hg : Gl X "len") (hm : X.mg "len" = none) (hg2 : Gl X "set") (hm2 : X.mg "set" = none) (ha : PE X a ta)
    (na : starEach [a] X.env = (false, eval a X.env) :: starEach [] X.env := by rfl) : PE X (.Call (.Name "len" p) [.Call (.Name "set" p2) [a] [] q] [] pos) (tLenSetU X.K ta) := by
  refine ⟨fun pins s σ H Q I h => ?_⟩
  refine PyProof.Rows.Call_ (ld_blt I hg hm (PySem.boot_len) ?_)
  refine PyProof.Rows.callWith_builtin1 (PyProof.Rows.args_cons ?_ rfl) rfl rfl
  refine PyProof.Rows.Call_ (ld_blt I hg2 hm2 (u := .type "set") (by decide +kernel) ?_)
  refine PyProof.Rows.callWith_type1 (PyProof.Rows.args_cons (thn (ha.run pins s σ H _ I h) fun v s1 ⟨x, H1, I1, r1, q1⟩ => PyProof.Rows.args_nil ?_) na) na rfl
  obtain ⟨l, xs, rfl, hq, hl, q1⟩ := q1
  obtain rfl : v = Value.ref l := r1
  obtain ⟨us, r, tup, hz⟩ := I1.tuple hq
  refine call_setT2 (I1.ok.hd hc) tup (txtAt_of r) (by unfold scanBound; omega) fun h1 tk x kp => ?_
  refine PyProof.Rows.args_nil ?_
  obtain ⟨o, es, ep, tb, ho, hex, hd, _, _, _, hf, hn⟩ := x
  have I2 : Inv X pins σ H1 { s1 with heap := h1, toks := tk } := I1.kept fun c o e => kp c o (Heap.lt_size e) e
  exact call_len_set ho hex hd hf (by rw [hn, List.take_length]; have := dcnt_le xs; omega) ⟨.int (dcnt xs : Nat), H1, I2.tok _, ⟨_, by rw [hn, List.take_length]⟩, q1⟩
end My
namespace Nd
set_option autoImplicit false
open PySem PySem.Spec PySem.W PyProof.Rows L2 My Evl LamX
/-! ### a row beside an empty one, whatever it holds -/
def rNeNil (K : PySem.W.Frag) : R2 := fun x y H Q => ∃ a b xs, x = .ref a ∧ y = .ref b ∧ SqL K H a xs ∧ SqL K H b [] ∧ Q (.bl (!xs.isEmpty)) H
section
variable {X : Cx}
theorem op_neNil (hu : X.A.units + 64 < cLine) : OpR X (compareOp .NotEq) (rNeNil X.K) := by
  intro pins s σ H x y v u Q I rx ry h
  obtain ⟨a, b, xs, rfl, rfl, ha, hb, q⟩ := h
  cases (show v = Value.ref a from rx)
  cases (show u = Value.ref b from ry)
  obtain ⟨us, r1, p1, _⟩ := I.list ha
  obtain ⟨ws, r2, p2, _⟩ := I.list hb
  cases r2
  cases xs with
  | nil =>
    cases r1
    exact (SeqAt.RcNeAt.lists (e := fun _ => true) p1.isList p2.isList rfl (by omega) (fun j h1 => absurd h1 (Nat.not_lt_zero j))) _ _ _ _ ⟨.bl _, H, I, rfl, q⟩
  | cons x xs =>
    have : us.toArray.size ≠ 0 := by
      rw [List.size_toArray, ← r1.length, List.length_cons]
      omega
    exact (SeqAt.RcNeAt.lists_lengths p1.isList p2.isList (by simpa using this) (by omega)) _ _ _ _ ⟨.bl _, H, I, rfl, q⟩
end
section
variable {K : PySem.W.Frag} {ta tb : TE} {σ : L2.St} {B : Hp} {ps : List Pr}
theorem ev_neNil (ha : EvP ta σ B (LqP K ps)) (hb : EvP tb σ B (LqP K [])) : Ev (tOp (rNeNil K) ta tb) σ B (.bl (!ps.isEmpty)) := fun H1 a Q k =>
  ha H1 a _ fun v B2 H2 g b => hb H2 (g.b.trans g.c) _ fun w B3 H3 g3 b3 => by
    obtain ⟨l, xs, rfl, hl, al⟩ := b
    obtain ⟨l2, ys, rfl, hl2, al2⟩ := b3
    have e2 : ys = [] := List.length_eq_zero_iff.mp al2.len
    subst e2
    have e : xs.isEmpty = ps.isEmpty := by
      have := al.len
      cases xs <;> cases ps <;> first | rfl | cases this
    refine ⟨l, l2, xs, rfl, rfl, ex_l (g.c.trans g3.a) hl, ex_l g3.c hl2, ?_⟩
    rw [e]
    exact k H3 (g.a.trans g3.a)
end
end Nd
namespace L2
set_option autoImplicit false
open PySem PySem.Spec PySem.W PyProof.Rows
/-! ### {t: v}, one pair, the key a flat tuple -/
def tDisp1T (tk tv : TE) : TE := fun σ H Q => ∀ p, H p = none → tk σ (upd H p (.dT [])) fun x H1 => tv σ H1 fun y H2 => H2 p = some (.dT []) ∧ ∃ (b : Addr) (ks : List Key), x = .ref b ∧ H2 b = some (.tup (ks.map kV)) ∧ Q (.ref p) (upd H2 p (.dT (putK [] ks y)))
theorem pe_disp1T {X : Cx} {k v : Expr} {tk tv : TE} {pos : Pos} (hu : X.A.units + 1 < cLine) (hk : PE X k tk) (hv : PE X v tv) : PE X (.Dict [some k] [v] pos) (tDisp1T tk tv) := by
  refine ⟨fun pins s σ H Q I q => ?_⟩
  have hn := I.hok.fresh (Nat.le_refl s.heap.objs.size)
  have I1 := I.laid (a := s.heap.objs.size) (o := .dT []) (h' := s.heap.push { cls := .type "dict", data := .dict #[] }) (t' := s.toks) (fun _ _ q => Heap.get?_push_of_some _ q) (Nat.le_refl _) (dt_empty s.heap I.big)
  refine wpAny_Dict_any rfl rfl (by simp) (by show 1 ≤ 15; decide) (pairTrees_cons_walk (thn (hk.run pins _ σ _ _ I1 (q _ hn)) fun kv s1 ⟨x, H1, I2, rx, q1⟩ => thn (hv.run pins s1 σ H1 _ I2 q1) fun vv s2 ⟨y, H2, I3, ry, e, b, ks, ex, eb, q2⟩ => pairTrees_nil_walk ?_))
  subst ex
  cases (show kv = Value.ref b from rx)
  obtain ⟨z, hd, xs, rel, dd⟩ := dt_of I3.hok e
  have hxs : xs = [] := by
    cases rel
    rfl
  subst hxs
  refine wpAny_storeAllH (knd := tupleKind (mixKind X.prog X.w)) (by first | exact hu | (show X.A.units < cLine; omega)) [(.ref b, vv)] [(ks, b, vv)] [] s2 _ ⟨rfl, rfl, key_of I3.hok eb, trivial⟩ dd (by show 0 + 1 ≤ sizeLine; decide) fun h' tk dd' hs => ?_
  obtain ⟨q0, es, ep, hq, h2, h3, h4, _, h5⟩ := dd'
  have hl : (putK ([] : List (List Key × V)) ks y).length ≤ sizeLine := by
    have := length_putK ([] : List (List Key × V)) ks y
    rw [List.length_nil] at this
    exact Nat.le_trans this (by decide)
  have new : ObjOk X.prog X.w (upd H2 s.heap.objs.size (.dT (putK [] ks y))) h' s.heap.objs.size (.dT (putK [] ks y)) := ⟨hl, hd, _, (rel.put ks eb ry).keeps fun c ys ec => by
    rw [upd_ne (ne_of ec e (fun z => nomatch z))]
    exact ec, q0, es, ep, hq, h2, h3, h4, h5⟩
  exact ⟨.ref s.heap.objs.size, _, d_write I3 (by rw [e]; exact True.intro) hs ⟨q0, hq⟩ new, rfl, q2⟩
end L2
namespace Nd
set_option autoImplicit false
open scoped Rat
/-! ### fractions are the rationals -/
def fr (r : Rat) : Int × Int := (r.num, (r.den : Int))
end Nd
namespace Nd
set_option autoImplicit false
set_option linter.unusedSectionVars false
/-! ### sums by keys, in order -/
class Od (κ : Type) [DecidableEq κ] where
  lt : κ → κ → Bool
  irr : ∀ a, lt a a = false
  tr : ∀ {a b c}, lt a b = true → lt b c = true → lt a c = true
  tri : ∀ {a b}, a ≠ b → lt a b = true ∨ lt b a = true
open Lean.Grind
section
variable {κ : Type} [DecidableEq κ] {β : Type} [CommRing β]
theorem z_add (a : β) : 0 + a = a := by grind
theorem a_zero (a : β) : a + 0 = a := by grind
/-- what all pairs of a key come to -/
def co : List (κ × β) → κ → β
  | [], _ => 0
  | z :: l, k => (if z.1 = k then z.2 else 0) + co l k
@[simp] theorem co_nil (k : κ) : co ([] : List (κ × β)) k = 0 := rfl
theorem co_cons (z : κ × β) (l : List (κ × β)) (k : κ) : co (z :: l) k = (if z.1 = k then z.2 else 0) + co l k := rfl
theorem co_none {k : κ} : ∀ {l : List (κ × β)}, (∀ z ∈ l, z.1 ≠ k) → co l k = 0
  | [], _ => rfl
  | z :: l, h => by
    rw [co_cons, if_neg (h z List.mem_cons_self), co_none fun y hy => h y (List.mem_cons_of_mem _ hy), z_add]
theorem co_one {l : List (κ × β)} (nd : (l.map (·.1)).Nodup) {z : κ × β} (h : z ∈ l) : co l z.1 = z.2 := by
  induction l with
  | nil => cases h
  | cons y l ih =>
    rw [List.map_cons, List.nodup_cons] at nd
    rw [co_cons]
    rcases List.mem_cons.mp h with rfl | h
    · rw [if_pos rfl, co_none (fun x hx e => nd.1 (List.mem_map.mpr ⟨x, hx, e⟩)), a_zero]
    · rw [ih nd.2 h, if_neg (fun e => nd.1 (List.mem_map.mpr ⟨z, h, e.symm⟩)), z_add]
/-- a sum over all pairs of what is additive -/
def lin {γ : Type} [CommRing γ] (f : κ → β → γ) : List (κ × β) → γ
  | [] => 0
  | z :: l => f z.1 z.2 + lin f l
variable [Od κ]
/-- rising, and nothing is nought -/
structure Cn (l : List (κ × β)) : Prop where
  up : l.Pairwise fun a b => Od.lt a.1 b.1 = true
  nz : ∀ z ∈ l, z.2 ≠ 0
theorem Cn.tl {z : κ × β} {l : List (κ × β)} (h : Cn (z :: l)) : Cn l := ⟨(List.pairwise_cons.mp h.up).2, fun y hy => h.nz y (List.mem_cons_of_mem _ hy)⟩
theorem lt_ne {a b : κ} (h : Od.lt a b = true) : a ≠ b := fun e => by
  subst e
  rw [Od.irr] at h
  cases h
theorem Cn.nd {l : List (κ × β)} (h : Cn l) : (l.map (·.1)).Nodup := List.pairwise_map.mpr (h.up.imp fun k => lt_ne k)
theorem Cn.hd {z : κ × β} {l : List (κ × β)} (h : Cn (z :: l)) : co (z :: l) z.1 = z.2 := co_one h.nd List.mem_cons_self
theorem Cn.tl0 {z : κ × β} {l : List (κ × β)} (h : Cn (z :: l)) : co l z.1 = 0 := co_none fun y hy => (lt_ne ((List.pairwise_cons.mp h.up).1 y hy)).symm
theorem Cn.low {y : κ × β} {l : List (κ × β)} {k : κ} (h : Cn (y :: l)) (e : Od.lt k y.1 = true) : co (y :: l) k = 0 := co_none fun x hx => by
  rcases List.mem_cons.mp hx with rfl | hx
  · exact (lt_ne e).symm
  · exact (lt_ne (Od.tr e ((List.pairwise_cons.mp h.up).1 x hx))).symm
theorem cn_ext : ∀ {l m : List (κ × β)}, Cn l → Cn m → (∀ k, co l k = co m k) → l = m
  | [], [], _, _, _ => rfl
  | [], y :: m, _, b, h => absurd ((h y.1).trans b.hd).symm (b.nz y List.mem_cons_self)
  | z :: l, [], a, _, h => absurd (a.hd.symm.trans (h z.1)) (a.nz z List.mem_cons_self)
  | z :: l, y :: m, a, b, h => by
    by_cases e : z.1 = y.1
    · have h2 : z.2 = y.2 := by rw [← a.hd, ← b.hd, h z.1, e]
      have ez : z = y := Prod.ext e h2
      subst ez
      rw [cn_ext a.tl b.tl fun k => ?_]
      by_cases ek : z.1 = k
      · subst ek
        rw [a.tl0, b.tl0]
      · have := h k
        rw [co_cons, co_cons, if_neg ek, z_add, z_add] at this
        exact this
    · rcases Od.tri e with k | k
      · exact absurd (a.hd.symm.trans ((h z.1).trans (b.low k))) (a.nz z List.mem_cons_self)
      · exact absurd (b.hd.symm.trans ((h y.1).symm.trans (a.low k))) (b.nz y List.mem_cons_self)
def ins [DecidableEq β] (k : κ) (v : β) : List (κ × β) → List (κ × β)
  | [] => if v = 0 then [] else [(k, v)]
  | z :: l => if z.1 = k then (if z.2 + v = 0 then l else (k, z.2 + v) :: l) else if Od.lt k z.1 = true then (if v = 0 then z :: l else (k, v) :: z :: l) else z :: ins k v l
variable [DecidableEq β]
/-- the sums by keys: rising, none of them nought -/
def cf (l : List (κ × β)) : List (κ × β) := l.foldr (fun z a => ins z.1 z.2 a) []
theorem ins_mem {k : κ} {v : β} {x : κ × β} : ∀ {l : List (κ × β)}, x ∈ ins k v l → x.1 = k ∨ x ∈ l
  | [], h => by
    unfold ins at h
    split at h
    · cases h
    · exact .inl (by rw [List.mem_singleton.mp h])
  | z :: l, h => by
    unfold ins at h
    split at h
    · split at h
      · exact .inr (List.mem_cons_of_mem _ h)
      · rcases List.mem_cons.mp h with rfl | h
        · exact .inl rfl
        · exact .inr (List.mem_cons_of_mem _ h)
    · split at h
      · split at h
        · exact .inr h
        · rcases List.mem_cons.mp h with rfl | h
          · exact .inl rfl
          · exact .inr h
      · rcases List.mem_cons.mp h with rfl | h
        · exact .inr List.mem_cons_self
        · exact (ins_mem h).imp_right (List.mem_cons_of_mem _)
theorem cn_ins {k : κ} {v : β} : ∀ {l : List (κ × β)}, Cn l → Cn (ins k v l)
  | [], _ => by
    unfold ins
    split
    · exact ⟨.nil, fun _ h => by cases h⟩
    · rename_i e
      exact ⟨List.pairwise_singleton _ _, fun z h => by rw [List.mem_singleton.mp h]; exact e⟩
  | z :: l, h => by
    have hp := List.pairwise_cons.mp h.up
    unfold ins
    split
    · rename_i e
      split
      · exact h.tl
      · rename_i n
        exact ⟨List.pairwise_cons.mpr ⟨fun y hy => e ▸ hp.1 y hy, hp.2⟩, fun y hy => by
          rcases List.mem_cons.mp hy with rfl | hy
          · exact n
          · exact h.nz y (List.mem_cons_of_mem _ hy)⟩
    · rename_i e
      split
      · rename_i lt
        split
        · exact h
        · rename_i n
          exact ⟨List.pairwise_cons.mpr ⟨fun y hy => by
            rcases List.mem_cons.mp hy with rfl | hy
            · exact lt
            · exact Od.tr lt (hp.1 y hy), h.up⟩, fun y hy => by
            rcases List.mem_cons.mp hy with rfl | hy
            · exact n
            · exact h.nz y hy⟩
      · rename_i nl
        have ih := cn_ins (k := k) (v := v) h.tl
        refine ⟨List.pairwise_cons.mpr ⟨fun y hy => ?_, ih.up⟩, fun y hy => ?_⟩
        · rcases ins_mem hy with a | a
          · rw [a]
            rcases Od.tri e with b | b
            · exact b
            · exact absurd b nl
          · exact hp.1 y a
        · rcases List.mem_cons.mp hy with rfl | hy
          · exact h.nz _ List.mem_cons_self
          · exact ih.nz y hy
theorem lin_ins {γ : Type} [CommRing γ] {f : κ → β → γ} (f0 : ∀ k, f k 0 = 0) (fa : ∀ k a b, f k (a + b) = f k a + f k b) {k : κ} {v : β} : ∀ l : List (κ × β), lin f (ins k v l) = lin f l + f k v
  | [] => by
    unfold ins
    split
    · rename_i e
      rw [e, f0]
      exact (a_zero _).symm
    · show f k v + 0 = 0 + f k v
      grind
  | z :: l => by
    unfold ins
    split
    · rename_i e
      split
      · rename_i n
        show lin f l = f z.1 z.2 + lin f l + f k v
        have : f k (z.2 + v) = 0 := by rw [n, f0]
        rw [fa] at this
        rw [e]
        have h2 : f k z.2 + lin f l + f k v = (f k z.2 + f k v) + lin f l := by grind
        rw [h2, this, z_add]
      · show f k (z.2 + v) + lin f l = f z.1 z.2 + lin f l + f k v
        rw [fa, e]
        grind
    · split
      · split
        · rename_i n
          rw [n, f0, a_zero]
        · show f k v + (f z.1 z.2 + lin f l) = f z.1 z.2 + lin f l + f k v
          grind
      · show f z.1 z.2 + lin f (ins k v l) = f z.1 z.2 + lin f l + f k v
        rw [lin_ins f0 fa l]
        grind
theorem cn_cf : ∀ l : List (κ × β), Cn (cf l)
  | [] => ⟨.nil, fun _ h => by cases h⟩
  | z :: l => cn_ins (cn_cf l)
theorem lin_cf {γ : Type} [CommRing γ] {f : κ → β → γ} (f0 : ∀ k, f k 0 = 0) (fa : ∀ k a b, f k (a + b) = f k a + f k b) : ∀ l : List (κ × β), lin f (cf l) = lin f l
  | [] => rfl
  | z :: l => by
    show lin f (ins z.1 z.2 (cf l)) = f z.1 z.2 + lin f l
    rw [lin_ins f0 fa, lin_cf f0 fa l]
    grind
theorem co_lin (k : κ) : ∀ l : List (κ × β), co l k = lin (fun k' (v : β) => if k' = k then v else 0) l
  | [] => rfl
  | z :: l => by
    rw [co_cons, co_lin k l]
    rfl
theorem co_cf (l : List (κ × β)) (k : κ) : co (cf l) k = co l k := by
  rw [co_lin, co_lin, lin_cf]
  · intro k'
    split <;> rfl
  · intro k' a b
    split
    · rfl
    · exact (z_add _).symm
theorem cf_cn {l : List (κ × β)} (h : Cn l) : cf l = l := cn_ext (cn_cf l) h fun k => co_cf l k
end
end Nd
namespace Nd
set_option autoImplicit false
set_option linter.unusedSectionVars false
open scoped Rat
/-! ### how great the numbers are -/
/-- r times D is whole -/
def Wh (D : Nat) (r : Rat) : Prop := ∃ z : Int, r * ((D : Int) : Rat) = (z : Rat)
def ab (D : Nat) (r : Rat) : Nat := (r * ((D : Int) : Rat)).num.natAbs
theorem ab_of {D : Nat} {r : Rat} {z : Int} (h : r * ((D : Int) : Rat) = (z : Rat)) : ab D r = z.natAbs := by
  unfold ab
  rw [h, Rat.num_intCast]
theorem wh_nul {D : Nat} : Wh D 0 := ⟨0, by rw [Rat.zero_mul]; rfl⟩
theorem ab_nul {D : Nat} : ab D 0 = 0 := by rw [ab_of (z := 0) (by rw [Rat.zero_mul]; rfl)]; rfl
theorem wh_add {D : Nat} {r s : Rat} (h : Wh D r) (k : Wh D s) : Wh D (r + s) ∧ ab D (r + s) ≤ ab D r + ab D s := by
  obtain ⟨a, ha⟩ := h
  obtain ⟨b, hb⟩ := k
  have e : (r + s) * ((D : Int) : Rat) = ((a + b : Int) : Rat) := by rw [Rat.add_mul, ha, hb, Rat.intCast_add]
  refine ⟨⟨_, e⟩, ?_⟩
  rw [ab_of e, ab_of ha, ab_of hb]
  exact Int.natAbs_add_le a b
theorem wh_mul {D E : Nat} {r s : Rat} (h : Wh D r) (k : Wh E s) : Wh (D * E) (r * s) ∧ ab (D * E) (r * s) = ab D r * ab E s := by
  obtain ⟨a, ha⟩ := h
  obtain ⟨b, hb⟩ := k
  have e : (r * s) * (((D * E : Nat) : Int) : Rat) = ((a * b : Int) : Rat) := by
    rw [Rat.intCast_mul, ← ha, ← hb, Int.natCast_mul, Rat.intCast_mul]
    grind
  refine ⟨⟨_, e⟩, ?_⟩
  rw [ab_of e, ab_of ha, ab_of hb, Int.natAbs_mul]
theorem wh_c {c : Nat} : Wh c 1 ∧ ab c 1 = c := by
  have e : (1 : Rat) * ((c : Int) : Rat) = ((c : Int) : Rat) := Rat.one_mul _
  exact ⟨⟨_, e⟩, by rw [ab_of e]; rfl⟩
theorem wh_up {D : Nat} (c : Nat) {r : Rat} (h : Wh D r) : Wh (D * c) r ∧ ab (D * c) r = ab D r * c := by
  have := wh_mul h (wh_c (c := c)).1
  rw [Rat.mul_one, wh_c.2] at this
  exact this
section
variable {κ : Type} [DecidableEq κ]
def wt (D : Nat) (p : List (κ × Rat)) : Nat := (p.map fun t => ab D t.2).sum
structure Lim (D N : Nat) (p : List (κ × Rat)) : Prop where
  w : ∀ t ∈ p, Wh D t.2
  s : wt D p ≤ N
variable {D E N M : Nat} {p q : List (κ × Rat)}
theorem wt_cons (t : κ × Rat) : wt D (t :: p) = ab D t.2 + wt D p := by unfold wt; rw [List.map_cons, List.sum_cons]
theorem wt_app : wt D (p ++ q) = wt D p + wt D q := by unfold wt; rw [List.map_append, List.sum_append]
theorem Lim.le (h : Lim D N p) (k : N ≤ M) : Lim D M p := ⟨h.w, Nat.le_trans h.s k⟩
theorem Lim.nil : Lim D N ([] : List (κ × Rat)) := ⟨fun _ h => (by cases h), Nat.zero_le _⟩
theorem Lim.app (h : Lim D N p) (k : Lim D M q) : Lim D (N + M) (p ++ q) := ⟨fun t ht => by
  rcases List.mem_append.mp ht with a | a
  · exact h.w t a
  · exact k.w t a, by rw [wt_app]; exact Nat.add_le_add h.s k.s⟩
theorem Lim.l (h : Lim D N (p ++ q)) : Lim D N p := ⟨fun t ht => h.w t (List.mem_append_left _ ht), by have := h.s; rw [wt_app] at this; omega⟩
theorem Lim.r (h : Lim D N (p ++ q)) : Lim D N q := ⟨fun t ht => h.w t (List.mem_append_right _ ht), by have := h.s; rw [wt_app] at this; omega⟩
theorem Lim.at (h : Lim D N p) {t : κ × Rat} (ht : t ∈ p) : Wh D t.2 ∧ ab D t.2 ≤ N := by
  refine ⟨h.w t ht, Nat.le_trans ?_ h.s⟩
  obtain ⟨a, b, rfl⟩ := List.append_of_mem ht
  rw [wt_app, wt_cons]
  omega
theorem Lim.co (h : Lim D N p) (k : κ) : Wh D (co p k) ∧ ab D (co p k) ≤ N := by
  suffices ∀ p : List (κ × Rat), (∀ t ∈ p, Wh D t.2) → Wh D (Nd.co p k) ∧ ab D (Nd.co p k) ≤ wt D p by
    obtain ⟨a, b⟩ := this p h.w
    exact ⟨a, Nat.le_trans b h.s⟩
  intro p hp
  induction p with
  | nil => exact ⟨wh_nul, by rw [co_nil, ab_nul]; exact Nat.zero_le _⟩
  | cons t p ih =>
    obtain ⟨i1, i2⟩ := ih fun x hx => hp x (List.mem_cons_of_mem _ hx)
    have h1 := hp t List.mem_cons_self
    rw [co_cons, wt_cons]
    by_cases e : t.1 = k
    · rw [if_pos e]
      obtain ⟨j1, j2⟩ := wh_add h1 i1
      exact ⟨j1, by omega⟩
    · rw [if_neg e]
      obtain ⟨j1, j2⟩ := wh_add (wh_nul (D := D)) i1
      rw [ab_nul] at j2
      exact ⟨j1, by omega⟩
theorem Lim.up (h : Lim D N p) (c : Nat) : Lim (D * c) (N * c) p := by
  refine ⟨fun t ht => (wh_up c (h.w t ht)).1, Nat.le_trans (Nat.le_of_eq ?_) (Nat.mul_le_mul_right c h.s)⟩
  have hw := h.w
  clear h
  induction p with
  | nil => unfold wt; simp
  | cons t p ih =>
    rw [wt_cons, wt_cons, (wh_up c (hw t List.mem_cons_self)).2, ih fun x hx => hw x (List.mem_cons_of_mem _ hx), Nat.add_mul]
theorem Lim.map {ι : Type} [DecidableEq ι] {f : κ × Rat → ι × Rat} {c : Nat} (h : Lim D N p) (hf : ∀ t ∈ p, Wh D t.2 → Wh E (f t).2 ∧ ab E (f t).2 ≤ ab D t.2 * c) : Lim E (N * c) (p.map f) := by
  refine ⟨fun x hx => ?_, Nat.le_trans ?_ (Nat.mul_le_mul_right c h.s)⟩
  · obtain ⟨t, ht, rfl⟩ := List.mem_map.mp hx
    exact (hf t ht (h.w t ht)).1
  · have hw := h.w
    clear h
    induction p with
    | nil => unfold wt; simp
    | cons t p ih =>
      rw [List.map_cons, wt_cons, wt_cons, Nat.add_mul]
      exact Nat.add_le_add (hf t List.mem_cons_self (hw t List.mem_cons_self)).2 (ih (fun x hx => hf x (List.mem_cons_of_mem _ hx)) fun x hx => hw x (List.mem_cons_of_mem _ hx))
theorem Lim.flat {ι : Type} [DecidableEq ι] {f : κ × Rat → List (ι × Rat)} {c : Nat} (h : Lim D N p) (hf : ∀ t ∈ p, Wh D t.2 → Lim E (ab D t.2 * c) (f t)) : Lim E (N * c) (p.flatMap f) := by
  refine ⟨fun x hx => ?_, Nat.le_trans ?_ (Nat.mul_le_mul_right c h.s)⟩
  · obtain ⟨t, ht, hx⟩ := List.mem_flatMap.mp hx
    exact (hf t ht (h.w t ht)).w x hx
  · have hw := h.w
    clear h
    induction p with
    | nil => unfold wt; simp
    | cons t p ih =>
      rw [List.flatMap_cons, wt_app, wt_cons, Nat.add_mul]
      exact Nat.add_le_add (hf t List.mem_cons_self (hw t List.mem_cons_self)).s (ih (fun x hx => hf x (List.mem_cons_of_mem _ hx)) fun x hx => hw x (List.mem_cons_of_mem _ hx))
theorem Lim.filter (h : Lim D N p) (f : κ × Rat → Bool) : Lim D N (p.filter f) := by
  refine ⟨fun t ht => h.w t (List.mem_filter.mp ht).1, Nat.le_trans ?_ h.s⟩
  clear h
  induction p with
  | nil => exact Nat.le_refl _
  | cons t p ih =>
    rw [List.filter_cons, wt_cons]
    split
    · rw [wt_cons]
      omega
    · omega
variable [Od κ]
theorem lim_ins {k : κ} {v : Rat} (hv : Wh D v) (hw : ∀ t ∈ p, Wh D t.2) : (∀ t ∈ ins k v p, Wh D t.2) ∧ wt D (ins k v p) ≤ ab D v + wt D p := by
  induction p with
  | nil =>
    unfold ins
    split
    · exact ⟨fun _ h => (by cases h), Nat.zero_le _⟩
    · exact ⟨fun t h => by rw [List.mem_singleton.mp h]; exact hv, by rw [wt_cons]; exact Nat.le_refl _⟩
  | cons t p ih =>
    obtain ⟨i1, i2⟩ := ih fun x hx => hw x (List.mem_cons_of_mem _ hx)
    have h0 := hw t List.mem_cons_self
    have h1 : ∀ x ∈ p, Wh D x.2 := fun x hx => hw x (List.mem_cons_of_mem _ hx)
    obtain ⟨j1, j2⟩ := wh_add h0 hv
    unfold ins
    rw [wt_cons]
    split
    · split
      · exact ⟨h1, by omega⟩
      · refine ⟨fun x hx => ?_, by rw [wt_cons]; dsimp only; omega⟩
        rcases List.mem_cons.mp hx with rfl | hx
        · exact j1
        · exact h1 x hx
    · split
      · split
        · exact ⟨hw, by rw [wt_cons]; omega⟩
        · refine ⟨fun x hx => ?_, by rw [wt_cons, wt_cons]; exact Nat.le_refl _⟩
          rcases List.mem_cons.mp hx with rfl | hx
          · exact hv
          · exact hw x hx
      · refine ⟨fun x hx => ?_, by rw [wt_cons]; omega⟩
        rcases List.mem_cons.mp hx with rfl | hx
        · exact h0
        · exact i1 x hx
theorem Lim.cf (h : Lim D N p) : Lim D N (cf p) := by
  suffices ∀ p : List (κ × Rat), (∀ t ∈ p, Wh D t.2) → (∀ t ∈ Nd.cf p, Wh D t.2) ∧ wt D (Nd.cf p) ≤ wt D p by
    obtain ⟨a, b⟩ := this p h.w
    exact ⟨a, Nat.le_trans b h.s⟩
  intro p hp
  induction p with
  | nil => exact ⟨hp, Nat.le_refl _⟩
  | cons t p ih =>
    obtain ⟨i1, i2⟩ := ih fun x hx => hp x (List.mem_cons_of_mem _ hx)
    obtain ⟨j1, j2⟩ := lim_ins (k := t.1) (hp t List.mem_cons_self) i1
    refine ⟨j1, Nat.le_trans j2 ?_⟩
    rw [wt_cons]
    omega
end
/-- limits under which all is done -/
structure LimB (D N : Nat) : Prop where
  p : 0 < D
  d : D < 2 ^ 4000
  n : N < 2 ^ 4000
end Nd
namespace Nd
set_option autoImplicit false
open PySem PySem.W L2 My Evl PyProof.Rows Lean.Grind
/-! ### derivatives and monomials in order -/
instance : Od Dv where
  lt u v := dataLt u.D v.D
  irr u := lex_irrefl _
  tr h k := lex_trans _ _ _ h k
  tri {u v} h := dlt_ne (alike_dv u v) (by rw [eqv_dv0, decide_eq_false h])
instance : Od Mo where
  lt m n := dataLt (moD m) (moD n)
  irr m := lex_irrefl _
  tr h k := lex_trans _ _ _ h k
  tri {m n} h := dlt_ne (alike_mo m n) (by rw [eqv_mo, decide_eq_false h])
abbrev Pq := List (Mo × Rat)
/-- a monomial as it should be -/
structure MoC (m : Mo) : Prop where
  c : Cn m
  p : ∀ x ∈ m, 0 < x.2
structure PoC (p : Pq) : Prop where
  c : Cn p
  m : ∀ t ∈ p, MoC t.1
def tq (t : Mo × Rat) : Mo × Fr := (t.1, fr t.2)
/-- monomials together -/
def mm (m n : Mo) : Mo := cf (m ++ n)
theorem mm_nil {m : Mo} (h : MoC m) : mm [] m = m := cf_cn h.c
/-- all terms of a product, one by one -/
def rowP (t : Mo × Rat) (q : Pq) : Pq := q.map fun s => (mm t.1 s.1, t.2 * s.2)
def mulR (p q : Pq) : Pq := p.flatMap fun t => rowP t q
def mulP (p q : Pq) : Pq := cf (mulR p q)
theorem mem_row {t : Mo × Rat} {q : Pq} {z : Mo × Rat} (h : z ∈ rowP t q) : ∃ s ∈ q, z.1 = mm t.1 s.1 := by
  obtain ⟨s, hs, rfl⟩ := List.mem_map.mp h
  exact ⟨s, hs, rfl⟩
theorem one_mul {p : Pq} (h : PoC p) : mulP [([], 1)] p = p := by
  unfold mulP
  have : mulR [([], 1)] p = p := by
    show rowP ([], 1) p ++ [] = p
    rw [List.append_nil]
    unfold rowP
    conv => rhs; rw [← List.map_id p]
    refine List.map_congr_left fun s hs => ?_
    show (mm [] s.1, (1 : Rat) * s.2) = s
    rw [mm_nil (h.m s hs), Rat.one_mul]
  rw [this]
  exact cf_cn h.c
/-! ### deriving -/
end Nd
namespace Nd
set_option autoImplicit false
open PySem PySem.Spec PySem.W PySem.Calls PyProof.Rows L2 My Evl
/-! ### dicts by nested keys: read -/
section
variable {X : Cx} {o i f : Expr} {pos apos cpos : Pos} {td ty tx : TE}
end
end Nd
namespace Nd
set_option autoImplicit false
open PySem PySem.Spec PySem.W PySem.Calls PyProof.Rows L2 My Evl
/-! ### dicts by nested keys: comprehensions -/
section
variable {X : Cx}
end
end Nd
namespace Nd
set_option autoImplicit false
open PySem PySem.W L2 My Evl Lean.Grind
/-! ### what a dict by nested keys holds -/
structure Ky (K : PySem.W.Frag) (κ : Type) where
  kp : κ → Pr
  kd : κ → PyData
  to : ∀ k, To K (kp k) (kd k)
  rf : ∀ {k : κ} {v : V} {H : Hp}, (kp k).P v H → ∃ a, v = .ref a
  ks : ∀ k, keyish (kd k) = true
  inj : ∀ {a b : κ}, nk (kd a) = nk (kd b) → a = b
  dp : ∀ k, (nk (kd k)).depth ≤ 8
section
variable {κ β : Type} [DecidableEq κ]
def KG {K : PySem.W.Frag} (ky : Ky K κ) (vp : β → Pr) : List (κ × β) → List NV → Hp → Prop
  | [], [], _ => True
  | z :: zs, x :: xs, B => (x.1 = nk (ky.kd z.1) ∧ (ky.kp z.1).P (.ref x.2.1) B ∧ (vp z.2).P x.2.2 B) ∧ KG ky vp zs xs B
  | [], _ :: _, _ => False
  | _ :: _, [], _ => False
def hasG (zs : List (κ × β)) (k : κ) : Bool := zs.any fun z => decide (z.1 = k)
def putG (zs : List (κ × β)) (k : κ) (v : β) : List (κ × β) := if hasG zs k = true then zs.map fun z => if z.1 = k then (z.1, v) else z else zs ++ [(k, v)]
def valG (zs : List (κ × β)) (k : κ) : Option β := (zs.find? fun z => decide (z.1 = k)).map (·.2)
variable {K : PySem.W.Frag} {ky : Ky K κ} {vp : β → Pr} {B B' H : Hp}
theorem KG.m (e : Ex B B') : ∀ {zs : List (κ × β)} {xs : List NV}, KG ky vp zs xs B → KG ky vp zs xs B'
  | [], [], _ => trivial
  | _ :: _, _ :: _, h => ⟨⟨h.1.1, (ky.kp _).m e h.1.2.1, (vp _).m e h.1.2.2⟩, KG.m e h.2⟩
theorem KG.len : ∀ {zs : List (κ × β)} {xs : List NV}, KG ky vp zs xs B → xs.length = zs.length
  | [], [], _ => rfl
  | _ :: _, _ :: _, h => congrArg Nat.succ (KG.len h.2)
theorem KG.at : ∀ {zs : List (κ × β)} {xs : List NV} {i : Nat} {x : NV}, KG ky vp zs xs B → xs[i]? = some x → ∃ z, zs[i]? = some z ∧ x.1 = nk (ky.kd z.1) ∧ (ky.kp z.1).P (.ref x.2.1) B ∧ (vp z.2).P x.2.2 B
  | [], [], i, x, _, h => by simp at h
  | z :: _, y :: _, 0, x, h, e => by
    obtain rfl := Option.some.inj e
    exact ⟨z, rfl, h.1⟩
  | _ :: _, _ :: _, i + 1, x, h, e => KG.at (i := i) h.2 e
theorem KG.has (k : κ) : ∀ {zs : List (κ × β)} {xs : List NV}, KG ky vp zs xs B → hasN xs (nk (ky.kd k)) = hasG zs k
  | [], [], _ => rfl
  | z :: zs, x :: xs, h => by
    have ih := KG.has k h.2
    unfold hasN hasG at *
    rw [List.any_cons, List.any_cons, ih, h.1.1]
    congr 1
    rw [Bool.eq_iff_iff, decide_eq_true_eq, decide_eq_true_eq]
    exact ⟨ky.inj, fun e => by rw [e]⟩
theorem KG.app : ∀ {zs ys : List (κ × β)} {xs us : List NV}, KG ky vp zs xs B → KG ky vp ys us B → KG ky vp (zs ++ ys) (xs ++ us) B
  | [], _, [], _, _, h => h
  | _ :: _, _, _ :: _, _, a, h => ⟨a.1, KG.app a.2 h⟩
theorem KG.set {k : κ} {f : β} {v : V} (hf : (vp f).P v B) : ∀ {zs : List (κ × β)} {xs : List NV}, KG ky vp zs xs B → KG ky vp (zs.map fun z => if z.1 = k then (z.1, f) else z) (xs.map fun x => if x.1 = nk (ky.kd k) then (x.1, x.2.1, v) else x) B
  | [], [], _ => trivial
  | z :: zs, x :: xs, h => by
    refine ⟨?_, KG.set hf h.2⟩
    dsimp only
    by_cases e : z.1 = k
    · rw [if_pos e, if_pos (by rw [h.1.1, e])]
      exact ⟨h.1.1, h.1.2.1, hf⟩
    · rw [if_neg e, if_neg (fun q => e (ky.inj (h.1.1.symm.trans q)))]
      exact h.1
theorem KG.put {k : κ} {f : β} {a : Addr} {v : V} {zs : List (κ × β)} {xs : List NV} (h : KG ky vp zs xs B) (ha : (ky.kp k).P (.ref a) B) (hf : (vp f).P v B) : KG ky vp (putG zs k f) (putN xs (nk (ky.kd k)) a v) B := by
  unfold putG putN
  rw [h.has k]
  cases hasG zs k with
  | true => exact h.set hf
  | false => exact h.app ⟨⟨rfl, ha, hf⟩, trivial⟩
theorem Ky.at_ {k : κ} {a : Addr} (ky : Ky K κ) (h : (ky.kp k).P (.ref a) H) : KeyAt K H a (nk (ky.kd k)) := ⟨ky.kd k, ky.to k _ _ h, ky.ks k, rfl, ky.dp k⟩
theorem KG.ok {zs : List (κ × β)} {xs : List NV} (h : KG ky vp zs xs B) (e : Ex B H) : KeysOk K H xs := fun x hx => by
  obtain ⟨i, hi⟩ := List.mem_iff_getElem?.mp hx
  obtain ⟨z, _, h1, h2, _⟩ := (h.m e).at hi
  rw [h1]
  exact ky.at_ h2
theorem KG.look (k : κ) : ∀ {zs : List (κ × β)} {xs : List NV}, KG ky vp zs xs B → (valG zs k = none ∧ look xs (nk (ky.kd k)) = none) ∨ ∃ f v, valG zs k = some f ∧ look xs (nk (ky.kd k)) = some v ∧ (vp f).P v B
  | [], [], _ => .inl ⟨rfl, rfl⟩
  | z :: zs, x :: xs, h => by
    have ih := KG.look k h.2
    unfold valG Nd.look at *
    rw [List.find?_cons, List.find?_cons]
    by_cases e : z.1 = k
    · rw [_root_.decide_eq_true e, _root_.decide_eq_true (by rw [h.1.1, e])]
      exact .inr ⟨_, _, rfl, rfl, h.1.2.2⟩
    · rw [decide_eq_false e, decide_eq_false (fun q => e (ky.inj (h.1.1.symm.trans q)))]
      exact ih
variable [CommRing β]
end
end Nd
namespace Nd
set_option autoImplicit false
open PySem PySem.Spec PySem.W PySem.Calls PyProof.Rows L2 My Evl
/-! ### d.items() walked, d a dict by nested keys that is locked -/
end Nd
namespace Nd
set_option autoImplicit false
open PySem PySem.W L2 My Evl
/-! ### a dict under way: made at H0, at d -/
section
variable {κ β : Type} [DecidableEq κ] {P : Program} {w : World} {K : PySem.W.Frag} {ky : Ky K κ} {vp : β → Pr}
structure DcAt (P : Program) (w : World) {K : PySem.W.Frag} (ky : Ky K κ) (vp : β → Pr) (B H0 : Hp) (d : Addr) (zs : List (κ × β)) (Bi H : Hp) : Prop where
  g : Gr B H0 Bi (wo d H)
  at_ : ∃ xs, H d = some (DN P w d xs) ∧ KG ky vp zs xs Bi
/-- a dict that holds this, as it is known -/
def DcP (P : Program) (w : World) {K : PySem.W.Frag} (ky : Ky K κ) (vp : β → Pr) (zs : List (κ × β)) : Pr :=
  ⟨fun v B => ∃ (d : Addr) (xs : List NV) (B0 : Hp), v = .ref d ∧ B d = some (DN P w d xs) ∧ B0 d = none ∧ Ex B0 B ∧ KG ky vp zs xs B0, fun e h => by
    obtain ⟨d, xs, B0, h1, h2, h3, h4, h5⟩ := h
    exact ⟨d, xs, B0, h1, e _ _ h2, h3, h4.trans e, h5⟩⟩
variable {B H0 Bi B2 H H2 : Hp} {d : Addr} {zs : List (κ × β)} {k : κ} {f f0 : β} {σ : L2.St} {D : Ends} {te ta tb ty tx tv : TE} {t tr : TA} {i : Nat} {p q : Pr} {ps qs : List Pr} {v : V}
theorem DcAt.ex (A : DcAt P w ky vp B H0 d zs Bi H) : Ex Bi H := A.g.c.trans wo_ex
theorem DcAt.no (A : DcAt P w ky vp B H0 d zs Bi H) : Bi d = none := wo_none A.g.c
theorem DcAt.on (A : DcAt P w ky vp B H0 d zs Bi H) : H d ≠ none := by
  obtain ⟨xs, h, _⟩ := A.at_
  rw [h]
  exact fun z => nomatch z
theorem DcAt.step (A : DcAt P w ky vp B H0 d zs Bi H) (k : Gr Bi H B2 H2) : DcAt P w ky vp B H0 d zs B2 H2 := by
  obtain ⟨xs, h, al⟩ := A.at_
  exact ⟨A.g.side A.on k, xs, k.a _ _ h, al.m k.b⟩
theorem DcAt.new (e : Ex B H) (hd : H d = none) : DcAt P w ky vp B H d [] B (upd H d (DN P w d [])) := ⟨by rw [wo_new hd]; exact Gr.refl e, [], upd_same, trivial⟩
theorem DcAt.put {xs : List NV} {a : Addr} (A : DcAt P w ky vp B H0 d zs Bi H) (h : H d = some (DN P w d xs)) (hx : KG ky vp zs xs Bi) (hk : (ky.kp k).P (.ref a) Bi) (hf : (vp f).P v Bi) :
    DcAt P w ky vp B H0 d (putG zs k f) Bi (upd H d (DN P w d (putN xs (nk (ky.kd k)) a v))) := ⟨by rw [wo_upd]; exact A.g, _, upd_same, hx.put hk hf⟩
theorem DcAt.fin (A : DcAt P w ky vp B H0 d zs Bi H) (h0 : H0 d = none) : ∃ B', Gr B H0 B' H ∧ (DcP P w ky vp zs).P (.ref d) B' := by
  obtain ⟨xs, hd, al⟩ := A.at_
  have hB := A.no
  refine ⟨upd Bi d (DN P w d xs), ⟨A.g.a.trans wo_ex, A.g.b.trans (Ex.new hB), fun b o e => ?_, fun x hb hh => ?_, fun z b qs q => ?_⟩, d, xs, Bi, rfl, upd_same, hB, Ex.new hB, al⟩
  · by_cases n : b = d
    · subst n
      rw [upd_same] at e
      rw [hd]
      exact e
    · rw [upd_ne n] at e
      exact A.ex _ _ e
  · have n : x ≠ d := fun z => hh (by rw [z]; exact h0)
    rw [upd_ne n]
    exact A.g.d x hb hh
  · by_cases n : b = d
    · subst n
      rw [upd_same] at q
      cases q
    · rw [upd_ne n] at q
      exact A.g.e z b qs q
end
end Nd
namespace Nd
set_option autoImplicit false
open PySem PySem.W L2 My Evl
section
variable {κ β : Type} [DecidableEq κ] {P : Program} {w : World} {K : PySem.W.Frag} {ky : Ky K κ} {vp : β → Pr}
variable {B H : Hp} {σ : L2.St} {te tk tv : TE} {g : TG} {tt : TT} {vs : List Nat} {ps : List Pr} {Q : VK}
end
end Nd
namespace Nd
set_option autoImplicit false
open PySem PySem.Spec PySem.W PySem.Calls PyProof.Rows L2 My Evl
/-! ### sorted of a list, by data -/
section
variable {X : Cx}
end
end Nd
namespace Nd
set_option autoImplicit false
open PySem PySem.W L2 My Evl PyProof.Rows
section
variable {te : TE} {σ : L2.St} {B H : Hp} {K : PySem.W.Frag} {ps : List Pr}
end
/-! ### sorting by data, any things -/
section
variable {α : Type}
end
section
variable {κ β : Type} [DecidableEq κ] [Od κ] [Lean.Grind.CommRing β] [DecidableEq β]
end
open Classical in
section
variable {C H : Hp}
end
end Nd
namespace My
set_option autoImplicit false
open PySem PySem.Spec PySem.W PySem.Calls PyProof.Rows L2 Evl NdefX LamX
section
variable {X : Cx} {pins : List (Addr × Obj)} {σ : L2.St} {A : Around} {f S I l : Addr} {fo : Obj} {R : Result → Shared → Prop} {xs : List V} {ks : List PyData} {H0 : Hp}
end
end My
namespace My
set_option autoImplicit false
open PySem PySem.Spec PySem.W PySem.Calls PyProof.Rows L2 Evl NdefX LamX
end My
namespace Nd
set_option autoImplicit false
open PySem PySem.Spec PySem.W PySem.Calls PyProof.Rows L2 My Evl
section
variable {X : Cx}
end
/-! ### a tuple, its object known as it stands -/
section
variable {κ β : Type} [DecidableEq κ] {P : Program} {w : World} {K : PySem.W.Frag} {ky : Ky K κ} {vp : β → Pr}
end
end Nd
namespace PySem.W
set_option autoImplicit false
open PySem PySem.Calls PyProof.Rows PySem.SeqAt
theorem keyLt'_general (x y : Value) : keyLt' general' x y = oneLt' false x y := rfl
section
variable {prog : Program} {w : World} {A : Around} {E : Value → Shared → Prop} {s : Shared}
/-- the call of tuple's own __lt__, as sorting makes it -/
theorem call_tuple_lt {Q : Value → Shared → Prop} {l b : Addr} {items items2 : Array Value} {e r : Nat → Bool} (hl : s.heap.IsTuple l items) (hb : s.heap.IsTuple b items2)
    (he : ∀ j (h1 : j < items.size) (h2 : j < items2.size), EqAt A.in1 s items[j] items2[j] (e j)) (hr : ∀ j (h1 : j < items.size) (h2 : j < items2.size), e j = false → RcLt A.in1 s items[j] items2[j] (r j))
    (h : Q (.bool (firstLt e r (decide (items.size < items2.size)) (List.range (min items.size items2.size)))) s) : wpAny (model prog w) A (call (.builtin "tuple.__lt__") [.ref l, .ref b]) Q E s := by
  obtain ⟨⟨cls, dd, data, sl⟩, ho, hc, n, hd⟩ := id hl
  obtain ⟨⟨cls2, dd2, data2, sl2⟩, ho2, hc2, n2, hd2⟩ := id hb
  simp only at hc hd hc2 hd2
  subst hc hd hc2 hd2
  exact call_meets F.slot_tuple_lt ⟨_, ho, rfl⟩ F.entry_tuple_lt (F.args_tuple_lt_2 _ _) (tuple_ltAt l b items items2 n n2 dd dd2 sl sl2 e r) ⟨ho, ho2, he, hr, h⟩
theorem oneLt_tup {xs ys : List PyData} {a b : Value} {as bs : List Addr} {Q : Bool → Shared → Prop} (ra : Reads s.heap a (.tuple xs) as) (rb : Reads s.heap b (.tuple ys) bs) (h : alike (.tuple xs) (.tuple ys) = true)
    (hu : A.units + min (PyData.tuple xs).depth (PyData.tuple ys).depth < cLine) (hq : Q (dataLt (.tuple xs) (.tuple ys)) s) : wpAny (model prog w) A (oneLt' true a b) Q E s := by
  have hal : alikeAll xs ys = true := by simpa [alike] using h
  cases ra with
  | @tuple l o vs n _ as₁ h1 h2 h3 h4 =>
    cases rb with
    | @tuple l' o' vs' n' _ bs₁ k1 k2 k3 k4 =>
      have n1 : vs.size = xs.length := by simpa using SeqAt.ReadsAll.length _ _ _ h4
      have n2 : vs'.size = ys.length := by simpa using SeqAt.ReadsAll.length _ _ _ k4
      rw [dataLt_tuple, ← firstLt_toks xs ys hal, ← n1, ← n2] at hq
      rw [oneLt'_eq]
      simp only [if_true]
      refine wpAny_bind (wpAny_cRoomFor (room_here hu) ?_)
      refine wpAny_bind (wpAny_callSpecialIfBound?_slot (T := "tuple") ⟨_, h1, h2⟩ F.slot_tuple_lt (call_tuple_lt (e := pairEq xs ys) (r := fun j => dataLt (xs.getD j .none) (ys.getD j .none)) ⟨_, h1, h2, _, h3⟩ ⟨_, k1, k2, _, k3⟩ (fun j j1 j2 => ?_) (fun j j1 j2 hj => ?_) ?_))
      · have := eqAt_alikeAll xs ys A.in1 s vs.toList vs'.toList _ _ h4 k4 hal (room_in hu) j (by simpa using j1) (by simpa using j2)
        simpa using this
      · have := rcLt_alikeAll xs ys A.in1 s vs.toList vs'.toList _ _ h4 k4 hal (room_in hu) j (by simpa using j1) (by simpa using j2) hj
        simpa using this
      · exact wpAny_truthy_bool hq
theorem each_right {α β : Type} {R : α → β → Prop} : ∀ {as : List α} {bs : List β}, EachIs R as bs → ∀ b ∈ bs, ∃ a ∈ as, R a b
  | _, _, .nil, b, h => absurd h (by simp)
  | _, _, .cons (a := x) h t, b, hb => by
    rcases List.mem_cons.mp hb with rfl | hb
    · exact ⟨x, List.mem_cons_self .., h⟩
    · obtain ⟨a, ha, r⟩ := each_right t b hb
      exact ⟨a, List.mem_cons_of_mem _ ha, r⟩
theorem tup_first {h : Heap} {xs : List PyData} {v : Value} {as : List Addr} (r : Reads h v (.tuple xs) as) : ∃ a o vs n, v = .ref a ∧ h.get? a = some o ∧ o.cls = .type "tuple" ∧ o.data = .seq vs n ∧ (vs[0]?.isSome = true ↔ xs ≠ []) := by
  cases r with
  | @tuple l o vs n _ as₁ h1 h2 h3 h4 =>
    have n1 : vs.size = xs.length := by simpa using SeqAt.ReadsAll.length _ _ _ h4
    refine ⟨l, o, vs, n, rfl, h1, h2, h3, ?_⟩
    cases xs with
    | nil =>
      have : vs[0]? = none := Array.getElem?_eq_none (by rw [n1]; exact Nat.le_refl _)
      rw [this]
      simp
    | cons x r =>
      have : vs[0]? = some (vs[0]'(by rw [n1]; exact Nat.succ_pos _)) := Array.getElem?_eq_getElem _
      rw [this]
      simp
theorem each_firsts {M : Model} : ∀ {vs : List Value} {ds : List PyData}, EachIs (fun v d => ∃ as, Reads s.heap v d as) vs ds → (∀ d ∈ ds, ∃ xs, d = .tuple xs) →
    ∃ fs : List (Option Value), (∀ (Q : List (Option Value) → Shared → Prop), Q fs s → wpAny M A (vs.mapM firstOfTuple') Q E s) ∧ EachIs (fun f d => f.isSome = true ↔ d ≠ .tuple []) fs ds
  | _, _, .nil, _ => ⟨[], fun Q q => by rw [List.mapM_nil]; exact wpAny_pure q, .nil⟩
  | _, _, .cons (b := d) ⟨as, r⟩ t, ht => by
    obtain ⟨fs, h1, h2⟩ := each_firsts (M := M) t fun d hd => ht d (List.mem_cons_of_mem _ hd)
    obtain ⟨xs, rfl⟩ := ht d (List.mem_cons_self ..)
    obtain ⟨a, o, vs, n, rfl, ho, hc, hd, hf⟩ := tup_first r
    refine ⟨vs[0]? :: fs, fun Q q => ?_, .cons ?_ h2⟩
    · rw [List.mapM_cons]
      refine wpAny_bind ?_
      rw [kas_first_eq]
      refine wpAny_bind (Looks.here (show Looks M s.heap (typeOf (.ref a)) o.cls from (Looks.ld ho).andThen .now) ?_)
      rw [hc, if_neg (by first | decide | simp)]
      refine wpAny_bind (listItems_at ho hd (wpAny_pure ?_))
      exact wpAny_bind (h1 (fun bs s' => wpAny M A (pure (vs[0]? :: bs)) Q E s') (wpAny_pure q))
    · rw [hf]
      constructor
      · intro h e
        injection e with e
        exact h e
      · intro h e
        exact h (by rw [e])
/-- tuples, some of them empty, can be sorted -/
theorem SortsAt.tups {vs : List Value} {ds : List PyData} (e : EachIs (fun v d => ∃ as, Reads s.heap v d as) vs ds) (hal : AllAlike ds) (hk : ∀ d ∈ ds, ∃ xs, d = PyData.tuple xs) (hu : ∀ d, d ∈ ds → A.units + d.depth < cLine) : SortsAt prog w A s (dataKind s.heap ds) vs := by
  by_cases hne : ∀ d ∈ ds, d ≠ PyData.tuple []
  · refine SortsAt.data e hal (.inl fun d hd => ?_) hu
    obtain ⟨xs, rfl⟩ := hk d hd
    cases xs with
    | nil => exact absurd rfl (hne _ hd)
    | cons x r => exact ⟨x, r, rfl⟩
  · have room : ∀ {d d' : PyData}, d ∈ ds → A.units + min d.depth d'.depth < cLine := fun {d d'} hd => Nat.lt_of_le_of_lt (Nat.add_le_add_left (Nat.min_le_left _ _) _) (hu d hd)
    have hsome : ∃ d ∈ ds, d = PyData.tuple [] := Classical.byContradiction fun hn => hne fun d hd he => hn ⟨d, hd, he⟩
    have kind : ∃ f : Bool, ∀ (E : Value → Shared → Prop) {Q : SortKind → Shared → Prop}, Q (cond f general' oneType') s → wpAny (model prog w) A (keyKind' vs.toArray) Q E s := by
      obtain ⟨fs, -, h2⟩ := each_firsts (A := A) (E := fun _ _ => True) (M := model prog w) e hk
      have hnall : (fs.toArray.all fun x => x.isSome) = false := by
        rw [List.all_toArray, List.all_eq_false]
        obtain ⟨d, hd, he⟩ := hsome
        obtain ⟨f, hf, hfd⟩ := each_right h2 d hd
        exact ⟨f, hf, fun q => hfd.mp q he⟩
      refine ⟨(fs.toArray[0]?.bind id).isSome, fun E Q hq => ?_⟩
      obtain ⟨fs', h1, h2'⟩ := each_firsts (A := A) (E := E) (M := model prog w) e hk
      rw [keyKind'_eq, List.mapM_toArray, map_eq_pure_bind]
      refine wpAny_bind (wpAny_bind (h1 _ (wpAny_pure ?_)))
      have hnall' : (fs'.toArray.all fun x => x.isSome) = false := by
        rw [List.all_toArray, List.all_eq_false]
        obtain ⟨d, hd, he⟩ := hsome
        obtain ⟨f, hf, hfd⟩ := each_right h2' d hd
        exact ⟨f, hf, fun q => hfd.mp q he⟩
      rw [hnall']
      rw [if_neg Bool.false_ne_true]
      have hsame : (fs'.toArray[0]?.bind id).isSome = (fs.toArray[0]?.bind id).isSome := by
        cases h2 with
        | nil =>
          cases h2'
          rfl
        | cons a b =>
          cases h2' with
          | cons a' b' =>
            simp only [List.getElem?_toArray, List.getElem?_cons_zero, Option.bind_some, id]
            rw [Bool.eq_iff_iff]
            exact a'.trans a.symm
      rw [hsame]
      cases hb : (fs.toArray[0]?.bind id).isSome with
      | true =>
        rw [hb] at hq
        rw [if_pos rfl]
        exact wpAny_pure hq
      | false =>
        rw [hb] at hq
        rw [if_neg Bool.false_ne_true]
        have looks : ∀ v ∈ vs, Looks (model prog w) s.heap (typeOf v) (Value.type "tuple") := fun v hv => by
          obtain ⟨d, hd, as, r⟩ := e.left v hv
          obtain ⟨xs, rfl⟩ := hk d hd
          exact looks_reads r
        have hpos : 0 < vs.length := by
          obtain ⟨d, hd, he⟩ := hsome
          obtain ⟨v, hv, -⟩ := each_right e d hd
          exact List.length_pos_of_mem hv
        rw [oneTypeOnly'_eq, List.mapM_toArray, map_eq_pure_bind]
        refine wpAny_bind (wpAny_bind (wpAny_bind (kas_mapM (r := Value.type "tuple") _ (fun v hv Q' hq => (looks v hv).here hq) (wpAny_pure ?_))))
        have hall : ((List.map (fun _ => Value.type "tuple") vs).toArray.all fun x => x == Value.type "tuple") = true := by
          simp only [List.all_toArray, List.all_map, List.all_eq_true]
          intro _ _
          rfl
        have h0 : (List.map (fun _ => Value.type "tuple") vs).toArray[0]? = some (Value.type "tuple") := by
          cases vs with
          | nil => exact absurd hpos (Nat.lt_irrefl _)
          | cons v vs => simp
        rw [h0]
        simp only [hall, if_true]
        exact wpAny_pure (wpAny_pure hq)
    obtain ⟨f, hkind⟩ := kind
    refine ⟨fun v hv => ?_, cond f general' oneType', ?_, fun _ E Q hq => hkind E hq⟩
    · obtain ⟨d, hd, as, r⟩ := e.left v hv
      exact ⟨_, dataKind_some hal hd r⟩
    · intro E x y a b Q ha hb hq
      obtain ⟨d, as, hd, ra, rfl⟩ := dataKind_inv ha
      obtain ⟨d', as', hd', rb, rfl⟩ := dataKind_inv hb
      obtain ⟨xs, rfl⟩ := hk d hd
      obtain ⟨ys, rfl⟩ := hk d' hd'
      cases f with
      | true =>
        show wpAny (model prog w) A (keyLt' general' x y) Q E s
        rw [keyLt'_general]
        exact oneLt_alike (fun h => absurd h Bool.false_ne_true) ra rb (hal _ hd _ hd') (fun h => nomatch h) (room hd) hq
      | false =>
        show wpAny (model prog w) A (keyLt' oneType' x y) Q E s
        rw [keyLt'_oneType]
        exact oneLt_tup ra rb (hal _ hd _ hd') (room hd) hq
end
end PySem.W
-- PART2
namespace Nd
set_option autoImplicit false
open PySem PySem.Spec PySem.W PySem.Calls PyProof.Rows L2 My Evl
section
variable {X : Cx} {pins : List (Addr × Obj)} {σ : L2.St} {H : Hp} {s : Shared} {A : Around} {E : Value → Shared → Prop}
end
section
variable {X : Cx} {pins : List (Addr × Obj)} {σ : L2.St} {H : Hp} {s : Shared}
end
end Nd
local macro_rules | `(tactic| walk_at "cond") => `(tactic| (refine My.isP ?_; first
  | decide
  | omega
  | (dsimp only; first | omega | decide)
  | exact ⟨by decide, by decide, by decide⟩
  | exact ⟨by decide, by decide⟩
  | exact ⟨by omega, by omega⟩
  | exact Or.inl ⟨by omega, by omega⟩
  | exact Or.inr ⟨by omega, by omega⟩))
local macro_rules | `(tactic| walk_at "go") => `(tactic| repeat (first
  | refine ⟨_, _, rfl, rfl, (by (walk_at "cond"); done), ?_⟩
  | refine ⟨_, _, rfl, rfl, ?_⟩
  | refine ⟨_, rfl, ?_⟩
  | refine ⟨rfl, ?_⟩
  | refine ⟨⟨_, rfl⟩, ?_⟩))
namespace Nd
set_option autoImplicit false
open PySem PySem.Spec PySem.W PyProof.Rows L2 My Evl
def strOf : PyData → Str
  | .str x => x
  | _ => Str.empty
def isStB : PyData → Bool
  | .str _ => true
  | _ => false
def axB : PyData → Bool
  | .str x => decide (x ∈ [("x" : Str), "y"])
  | _ => false
theorem axB_eq (d : PyData) : axB d = (isStB d && decide (strOf d ∈ [("x" : Str), "y"])) := by
  cases d <;> rfl
theorem isSt_ex {d : PyData} (h : isStB d = true) : d = .str (strOf d) := by
  cases d <;> first | rfl | exact absurd h (by simp [isStB])
def amgB (l m : Int) (d : PyData) : Bool := wholeB d && (decide (l ≤ intOf d) && decide (intOf d ≤ m))
def RamgE (K : PySem.W.Frag) : List Pr → Pr → Prop := fun ps p => ∃ (q : Pr) (d : PyData) (l m : Int), ToE K q d ∧ smB d = true ∧ ps = [q, IsV (.int l), IsV (.int m)] ∧ p = IsV (.bl (amgB l m d))
section
variable {K : PySem.W.Frag} {te ta tb : TE} {σ : L2.St} {B H : Hp} {d : PyData} {ds : List PyData} {v : V}
theorem ev_isStE (h : EvP te σ B (IsE K d)) : Ev (tCB (rIsi K) (tCons te (tCons (tC (.ty "str")) tNil))) σ B (.bl (isStB d)) := ev_isiE h (by cases d <;> (dsimp only [tyS, isStB]; decide +kernel))
theorem ev_strE (h : EvP te σ B (IsE K d)) (e : isStB d = true) : Ev te σ B (.str (strOf d)) := ev_p (h.imp fun v B1 _ x => by
  have x : De K B1 v d := x
  rw [isSt_ex e] at x
  cases x
  rfl)
theorem des_strs : ∀ {ds : List PyData} {vs : List V}, DeAll K H vs ds → (∀ d ∈ ds, isStB d = true) → vs = (ds.map strOf).map V.str
  | [], _, .nil, _ => rfl
  | d :: ds, _, .cons (v := v) a b, h => by
    rw [List.map_cons, List.map_cons, des_strs b fun x hx => h x (List.mem_cons_of_mem _ hx)]
    have e := h d List.mem_cons_self
    rw [isSt_ex e] at a
    cases a
    rfl
/-- len(set(t)), all of t texts -/
theorem ev_lenSetU (h : EvP te σ B (IsE K (.tuple ds))) (a : ∀ d ∈ ds, isStB d = true) (hl : ds.length ≤ 4000) : Ev (tLenSetU K te) σ B (.int ((dcnt (ds.map strOf) : Nat) : Int)) := fun H1 e Q k =>
  h H1 e _ fun v B2 H2 g x => by
    have x : De K B2 v (.tuple ds) := x
    cases x with
    | tup y z =>
      have e := des_strs z a
      subst e
      exact ⟨_, ds.map strOf, rfl, ex_t g.c y, by rw [List.length_map]; exact hl, k H2 g.a⟩
theorem range_map {α β : Type} (l : List α) (f : α → β) (x0 : α) : ((List.range l.length).map fun i => f (l.getD i x0)) = l.map f := by
  apply List.ext_getElem?
  intro i
  rw [List.getElem?_map, List.getElem?_map]
  by_cases h : i < l.length
  · rw [List.getElem?_range h, List.getElem?_eq_getElem h]
    simp [List.getD_eq_getElem?_getD, List.getElem?_eq_getElem h]
  · rw [List.getElem?_eq_none (by rw [List.length_range]; omega), List.getElem?_eq_none (by omega)]
    rfl
end
end Nd
namespace K12
set_option autoImplicit false
open PySem PySem.W L2 Evl My Nd
def topS (i : Nat) : Stmt := PySem.Challenge.pw_rankedchains_k10_rankings_looked_at.main.body.getD i (.Pass ⟨0, 0, 0, 0⟩)
def Rrd (K : PySem.W.Frag) (q : Rk → Dv → Pr) : List Pr → Pr → Prop := fun ps p => ∃ (r : Rk) (u : Dv), r.Ok ∧ u.Of r ∧ ps = [RkP K r, DvP u] ∧ p = q r u
def Rcmp (K : PySem.W.Frag) : List Pr → Pr → Prop := fun ps p => ∃ a b : List Int, a.length = 3 ∧ b.length = 3 ∧ ps = [IsD K (.tuple (a.map .int)), IsD K (.tuple (b.map .int))] ∧ p = IsV (.int (cmpL a b))
theorem all1 {p : Pr} {vs : List V} {H : Hp} (h : AllP [p] vs H) : ∃ v, vs = [v] ∧ p.P v H := by
  match vs, h with
  | [v], h => exact ⟨v, rfl, h.1⟩
theorem all2 {p q : Pr} {vs : List V} {H : Hp} (h : AllP [p, q] vs H) : ∃ v u, vs = [v, u] ∧ p.P v H ∧ q.P u H := by
  match vs, h with
  | [v, u], h => exact ⟨v, u, rfl, h.1, h.2.1⟩
theorem all3 {p q r : Pr} {vs : List V} {H : Hp} (h : AllP [p, q, r] vs H) : ∃ v u t, vs = [v, u, t] ∧ p.P v H ∧ q.P u H ∧ r.P t H := by
  match vs, h with
  | [v, u, t], h => exact ⟨v, u, t, rfl, h.1, h.2.1, h.2.2.1⟩
section
variable {P : Program} {w : World} {K : PySem.W.Frag} {mg : Str → Option Value} {base : Heap}

/-- is_whole -/
abbrev s_is_whole : Stmt := topS 25
abbrev N_is_whole : List Str := ["thing"]
theorem sc_is_whole : FnScope N_is_whole ["thing"] (defScope s_is_whole) := ⟨rfl, rfl, rfl, by decide +kernel, rfl, by decide +kernel, by decide +kernel⟩
theorem ok_is_whole {f : Addr} {fd : FuncData} (F : Fun K "is_whole" "is_whole" s_is_whole f fd)   (n_isinstance : mg "isinstance" = none) (n_int : mg "int" = none) (n_bool : mg "bool" = none)  :
    FnOk P w K mg base CX0 2 f fd ["thing"] (spP (RBE K wholeB)) := by
  refine F.ok sc_is_whole (spP_len (by rintro _ _ ⟨_, _, _, _, rfl, rfl⟩; rfl)) (fun cdv A outer s H vs Q E hr h => ?_)
  obtain ⟨B, ps, p, eB, hv, ⟨qd, d, tq, hs, rfl, rfl⟩, q⟩ := h
  obtain ⟨v, rfl, h1⟩ := all1 hv
  have hu := hu_of hr
  refine ⟨_, (pss_one (ps_ret (pe_and (pe_callB call_isi (by rfl) n_isinstance (by decide +kernel) (pa_cons (pv 0) (pa_cons (pe_bltn (v := .ty "int") (u := .type "int") (by rfl) n_int (by decide +kernel) rfl) pa_nil))) (pe_one (pe_not (pe_callB call_isi (by rfl) n_isinstance (by decide +kernel) (pa_cons (pv 0) (pa_cons (pe_bltn (v := .ty "bool") (u := .type "bool") (by rfl) n_bool (by decide +kernel) rfl) pa_nil)))))))), ?_⟩
  have hd : EvP (tVar 0) [some v] B (IsE K d) := p_toE (p_var rfl h1) tq
  refine My.ps_ret eB (p_ev (v := .bl (wholeB d)) (ev_is (ev_andV (a := (match d with | .int _ => true | .bool _ => true | _ => false)) (b := (match d with | .bool _ => false | _ => true)) (ev_isiE (K := K) hd ?_) fun _ => ev_is (ev_notV (a := (match d with | .bool _ => true | _ => false)) (ev_isiE (K := K) hd ?_)) ?_) ?_)) fun v B1 H1 g hp => q v B1 H1 g hp
  · cases d <;> (dsimp only [tyS]; decide +kernel)
  · cases d <;> (dsimp only [tyS]; decide +kernel)
  · cases d <;> rfl
  · cases d <;> rfl

/-- is_name -/
abbrev s_is_name : Stmt := topS 27
abbrev N_is_name : List Str := ["thing", "sign"]
theorem sc_is_name : FnScope N_is_name ["thing"] (defScope s_is_name) := ⟨rfl, rfl, rfl, by decide +kernel, rfl, by decide +kernel, by decide +kernel⟩
theorem ok_is_name {f : Addr} {fd : FuncData} (F : Fun K "is_name" "is_name" s_is_name f fd)   (n_isinstance : mg "isinstance" = none) (n_str : mg "str" = none) (n_len : mg "len" = none) (n_all : mg "all" = none) {tk1 tk2 : Nat} (g_MOST_LETTERS : mg "MOST_LETTERS" = some (.int 8 tk1)) (g_LETTERS : mg "LETTERS" = some (.str "abcdefghijklmnopqrstuvwxyz" tk2)) :
    FnOk P w K mg base CX0 2 f fd ["thing"] (spP (RBE K nameB)) := by
  refine F.ok sc_is_name (spP_len (by rintro _ _ ⟨_, _, _, _, rfl, rfl⟩; rfl)) (fun cdv A outer s H vs Q E hr h => ?_)
  obtain ⟨B, ps, p, eB, hv, ⟨qd, d, tq, hs, rfl, rfl⟩, q⟩ := h
  obtain ⟨v, rfl, h1⟩ := all1 hv
  have hu := hu_of hr
  refine ⟨_, (pss_cons (ps_if (PW.pt (pw_or (pt_not (pt_val (pe_callB call_isi (by rfl) n_isinstance (by decide +kernel) (pa_cons (pv 0) (pa_cons (pe_bltn (v := .ty "str") (u := .type "str") (by rfl) n_str (by decide +kernel) rfl) pa_nil))))) (pw_or1 (pt_not (pt_chain op_le op_le pe_int (pe_callB call_len_str (by rfl) n_len (by decide +kernel) (pa_cons (pv 0) pa_nil)) (pe_glob (by rfl) (v := .int 8) g_MOST_LETTERS ⟨_, rfl⟩)))))) (pss_one (ps_ret pe_bl)) pss_nil)
    (pss_one (ps_ret (pe_callB (cr_all rfl) (by rfl) n_all (by decide +kernel) (pa_cons (pe_lc (own := [("sign", 1)]) rfl sc_is_name.nd (pi_str (pv 0)) (blkOk_by (N := N_is_name) (sc := defScope s_is_name) (by decide +kernel)) (fun _ _ _ _ _ => (pg_name (i := 1) sc_is_name.nd rfl (Or.inl rfl))) (fun _ _ _ _ _ => pts_nil) (fun _ _ _ _ _ => (pe_cmpR op_in_sign (pv 1) (pe_glob (by rfl) (v := .str "abcdefghijklmnopqrstuvwxyz") g_LETTERS ⟨_, rfl⟩) (by rfl)))) pa_nil))))), ?_⟩
  have hd : De K B v d := tq _ _ h1
  have isS : Ev (tCB (rIsi K) (tCons (tVar 0) (tCons (tC (.ty "str")) tNil))) [some v] B (.bl (match d with | .str _ => true | _ => false)) := ev_isiE (K := K) (p_var (p := IsE K d) rfl hd) (by cases d <;> (dsimp only [tyS]; decide +kernel))
  by_cases hx : ∃ x, d = .str x
  · obtain ⟨x, rfl⟩ := hx
    obtain rfl : v = .str x := by cases hd; rfl
    have hl : x.length ≤ 100000 := by
      have := hs
      unfold smB at this
      exact of_decide_eq_true this
    cases hb : decide ((1 : Int) ≤ (x.length : Int)) && decide ((x.length : Int) ≤ 8) with
    | false =>
      refine ps_ifT eB (et_is (et_or (a := false) (b := true) (et_is (et_not (et_test isS)) rfl) fun _ => et_is (et_not (et_test (ev_chain (r1 := fun i j => decide (i ≤ j)) (r2 := fun i j => decide (i ≤ j)) ev_c (ev_lenS (x := x) (ev_var rfl) hl) ev_c))) (by rw [hb]; rfl)) rfl) fun H1 e1 => ?_
      refine My.ps_ret (eB.trans e1) (p_c (v := .bl false)) fun v B1 H2 g hp => q v B1 H2 ((Gr.wide eB e1).trans g) ?_
      have : nameB (.str x) = false := by
        show (decide (1 ≤ x.length) && decide (x.length ≤ 8) && _) = false
        have e1 : (decide (1 ≤ x.length) && decide (x.length ≤ 8)) = false := by
          rw [← hb]
          congr 1 <;> (apply decide_eq_decide.mpr; omega)
        rw [e1]
        rfl
      rw [this]
      exact hp
    | true =>
      refine ps_ifN eB (et_is (et_or (a := false) (b := false) (et_is (et_not (et_test isS)) rfl) fun _ => et_is (et_not (et_test (ev_chain (r1 := fun i j => decide (i ≤ j)) (r2 := fun i j => decide (i ≤ j)) ev_c (ev_lenS (x := x) (ev_var rfl) hl) ev_c))) (by rw [hb]; rfl)) rfl) fun H1 e1 => ?_
      dsimp only
      simp only [Bool.and_eq_true, decide_eq_true_eq] at hb
      refine My.ps_ret (eB.trans e1) (p_ev (v := .bl (nameB (.str x))) (ev_is (ev_allL (K := K) (bs := (List.range x.cps.size).map fun i => decide (x.cps.getD i 0 ∈ (Str.ofString "abcdefghijklmnopqrstuvwxyz").cps.toList)) ?_) ?_)) fun v B1 H2 g hp => q v B1 H2 ((Gr.wide eB e1).trans g) hp
      rotate_left
      · rw [all_cps x fun c => decide (c ∈ (Str.ofString "abcdefghijklmnopqrstuvwxyz").cps.toList)]
        refine congrArg V.bl ?_
        show _ = isNmB x
        unfold isNmB
        rw [decide_eq_true (show 1 ≤ x.length by omega), decide_eq_true (show x.length ≤ 8 by omega)]
        exact congrArg (x.cps.toList.all) (funext fun c => low_let)
      rw [List.map_map]
      refine p_lcA (K := K) (src_str (x := x) (ev_var rfl)) (by show x.length ≤ _; omega) (fun i => .bool (decide (x.cps.getD i 0 ∈ (Str.ofString "abcdefghijklmnopqrstuvwxyz").cps.toList))) fun i v B1 hi e pv => ?_
      obtain rfl : v = .str (oneS x i) := pv
      exact ⟨[some (.str x), some (.str (oneS x i))], rfl, fun H2 Q e q => q, ed_bl (ev_sign (c := x.cps.getD i 0) (z := "abcdefghijklmnopqrstuvwxyz") (ev_var rfl) ev_c)⟩
  · have hn : nameB d = false := by cases d <;> first | rfl | exact absurd ⟨_, rfl⟩ hx
    refine ps_ifT eB (et_is (et_or (a := true) (b := true) (et_is (et_not (et_test isS)) (by cases d <;> first | rfl | exact absurd ⟨_, rfl⟩ hx)) fun z => nomatch z) rfl) fun H1 e1 => ?_
    refine My.ps_ret (eB.trans e1) (p_c (v := .bl false)) fun v B1 H2 g hp => q v B1 H2 ((Gr.wide eB e1).trans g) ?_
    rw [hn]
    exact hp

/-- is_axis -/
abbrev s_is_axis : Stmt := topS 28
abbrev N_is_axis : List Str := ["thing"]
theorem sc_is_axis : FnScope N_is_axis ["thing"] (defScope s_is_axis) := ⟨rfl, rfl, rfl, by decide +kernel, rfl, by decide +kernel, by decide +kernel⟩
theorem ok_is_axis {f : Addr} {fd : FuncData} (F : Fun K "is_axis" "is_axis" s_is_axis f fd)   (n_isinstance : mg "isinstance" = none) (n_str : mg "str" = none) {aA : Addr} (g_AXES : mg "AXES" = some (.ref aA)) (v_AXES : ∀ H, Dp K H (.ref aA) (.tuple ([("x" : Str), "y"].map .str))) :
    FnOk P w K mg base CX0 1 f fd ["thing"] (spP (RBE K axB)) := by
  refine F.ok sc_is_axis (spP_len (by rintro _ _ ⟨_, _, _, _, rfl, rfl⟩; rfl)) (fun cdv A outer s H vs Q E hr h => ?_)
  obtain ⟨B, ps, p, eB, hv, ⟨qd, d, tq, hs, rfl, rfl⟩, q⟩ := h
  obtain ⟨v, rfl, h1⟩ := all1 hv
  have hd : De K B v d := tq _ _ h1
  have hu := hu_of hr
  refine ⟨_, (pss_one (ps_ret (pe_and (pe_callB call_isi (by rfl) n_isinstance (by decide +kernel) (pa_cons (pv 0) (pa_cons (pe_bltn (v := .ty "str") (u := .type "str") (by rfl) n_str (by decide +kernel) rfl) pa_nil))) (pe_one (pe_cmpR op_in_seq (pv 0) (pe_glob (by rfl) (v := .ref aA) g_AXES rfl) (by rfl)))))), ?_⟩
  refine ps_ret eB (p_ev (v := .bl (axB d)) (ev_is (ev_andV (a := isStB d) (b := decide (strOf d ∈ [("x" : Str), "y"])) (ev_isStE (p_var (p := IsE K d) rfl hd)) fun e => ev_is (ev_inT (neg := false) (x := strOf d) (ys := ["x", "y"]) (ev_strE (p_var (p := IsE K d) rfl hd) e) (ed_ref (v_AXES B))) ?_) (by rw [axB_eq]))) fun v B1 H1 g hp => q v B1 H1 g hp
  simp only [Bool.false_eq_true, if_false]

/-- is_among -/
abbrev s_is_among : Stmt := topS 26
abbrev N_is_among : List Str := ["thing", "least", "most"]
theorem sc_is_among : FnScope N_is_among ["thing", "least", "most"] (defScope s_is_among) := ⟨rfl, rfl, rfl, by decide +kernel, rfl, by decide +kernel, by decide +kernel⟩
theorem ok_is_among {f : Addr} {fd : FuncData} (F : Fun K "is_among" "is_among" s_is_among f fd)  {f_is_whole : Addr} {d_is_whole : FuncData} (c_is_whole : Cal P w K mg base "is_whole" 2 ["thing"] (spP (RBE K wholeB)) f_is_whole d_is_whole)   :
    FnOk P w K mg base CX0 3 f fd ["thing", "least", "most"] (spP (RamgE K)) := by
  refine F.ok sc_is_among (spP_len (by rintro _ _ ⟨_, _, _, _, _, _, rfl, rfl⟩; rfl)) (fun cdv A outer s H vs Q E hr h => ?_)
  obtain ⟨B, ps, p, eB, hv, ⟨qd, d, l, m, tq, hs, rfl, rfl⟩, q⟩ := h
  obtain ⟨v1, v2, v3, rfl, h1, h2, h3⟩ := all3 hv
  obtain rfl : v2 = .int l := h2
  obtain rfl : v3 = .int m := h3
  have hd : De K B v1 d := tq _ _ h1
  have hu := hu_of hr
  refine ⟨_, (pss_one (ps_ret (pe_and (pe_call c_is_whole.G (hr.mono (by decide)) (by rfl) c_is_whole.m c_is_whole.k c_is_whole.b .nil pass0 (pa_cons (pv 0) pa_nil)) (pe_and (pe_call c_is_whole.G (hr.mono (by decide)) (by rfl) c_is_whole.m c_is_whole.k c_is_whole.b .nil pass0 (pa_cons (pv 1) pa_nil)) (pe_and (pe_call c_is_whole.G (hr.mono (by decide)) (by rfl) c_is_whole.m c_is_whole.k c_is_whole.b .nil pass0 (pa_cons (pv 2) pa_nil)) (pe_one (pe_chain op_le op_le (pv 1) (pv 0) (pv 2)))))))), ?_⟩
  have wh : ∀ (i : Nat) (j : Int), ([some v1, some (.int l), some (.int m)] : L2.St)[i]? = some (some (.int j)) → Ev (tCall (spP (RBE K wholeB)) [] E0 (tCons (tVar i) tNil)) [some v1, some (.int l), some (.int m)] B (.bl true) :=
    fun i j hi => ev_p (p_callP (ps := [IsV (.int j)]) (q_cons (p_varV hi) q_nil) ⟨_, .int j, toE_of to_int, smd_int, rfl, rfl⟩)
  refine ps_ret eB (p_ev (v := .bl (amgB l m d)) (ev_is (ev_andV (a := wholeB d) (b := true && (true && (decide (l ≤ intOf d) && decide (intOf d ≤ m)))) (ev_p (p_callP (ps := [IsE K d]) (q_cons (p_var rfl hd) q_nil) ⟨_, _, to_idE, hs, rfl, rfl⟩)) fun e => ev_andV (wh 1 l rfl) fun _ => ev_andV (wh 2 m rfl) fun _ => ?_) (by simp [amgB]))) fun v B1 H1 g hp => q v B1 H1 g hp
  exact ev_chain (r1 := fun i j => decide (i ≤ j)) (r2 := fun i j => decide (i ≤ j)) (ev_var rfl) (ev_inE (K := K) (p_var (p := IsE K (.int (intOf d))) rfl (by rw [← wholeB_ex e]; exact hd))) (ev_var rfl)

end
end K12
namespace Nd
set_option autoImplicit false
open PySem PySem.Spec PySem.W PyProof.Rows L2 My Evl LamX NdefX
/-! ### which data are rankings -/
def srtB : PyData → Bool
  | .str x => decide (x ∈ [("total" : Str), "names"])
  | _ => false
def nmsB : PyData → Bool
  | .tuple xs => (decide (1 ≤ xs.length) && decide (xs.length ≤ 3)) && (xs.all nameB && decide (xs.map strOf).Nodup)
  | _ => false
def axs3 : List (List Str) := [["x"], ["x", "y"], ["y", "x"]]
def axsB : PyData → Bool
  | .tuple xs => xs.all isStB && decide (xs.map strOf ∈ axs3)
  | _ => false
def onTu (f : List PyData → Bool) : PyData → Bool
  | .tuple xs => f xs
  | _ => false
/-- the first part that can't be -/
def rkDue (d : PyData) : Option (Option Str) := if tupN 3 d = false then some none else if srtB (it 0 d) = false then some (some "sort") else if nmsB (it 1 d) = false then some (some "names") else if axsB (it 2 d) = false then some (some "axes") else none
def wordP : Option Str → Pr
  | none => IsV .non
  | some x => IsV (.str x)
def rkO (C : Addr) : Option (Option Str) → Out
  | none => .ret (IsV .non)
  | some w => .exc C [("place", wordP w)]
def RrkG (K : PySem.W.Frag) (C : Addr) : List Pr → Out → Prop := fun ps o => ∃ (qd : Pr) (d : PyData), ToE K qd d ∧ smB d = true ∧ (∀ xs, it 2 d = .tuple xs → xs.length ≤ 100000) ∧ ps = [qd] ∧ o = rkO C (rkDue d)
def RBL (K : PySem.W.Frag) (f : PyData → Bool) : List Pr → Pr → Prop := fun ps p => ∃ (q : Pr) (d : PyData), ToE K q d ∧ smB d = true ∧ (∀ xs, d = .tuple xs → xs.length ≤ 100000) ∧ ps = [q] ∧ p = IsV (.bl (f d))
def RB2E (K : PySem.W.Frag) (f : Rk → PyData → Bool) : List Pr → Pr → Prop := fun ps p => ∃ (r : Rk) (q : Pr) (d : PyData), r.Ok ∧ ToE K q d ∧ smB d = true ∧ ps = [RkP K r, q] ∧ p = IsV (.bl (f r d))
theorem nm_st {d : PyData} (h : nameB d = true) : isStB d = true := by
  cases d <;> first | rfl | exact absurd h (by simp [nameB])
theorem strs_back : ∀ {xs : List PyData}, (∀ x ∈ xs, isStB x = true) → xs = (xs.map strOf).map .str
  | [], _ => rfl
  | x :: r, h => by
    rw [List.map_cons, List.map_cons, ← isSt_ex (h x List.mem_cons_self), ← strs_back fun y hy => h y (List.mem_cons_of_mem _ hy)]
theorem eqvAll_strs : ∀ a b : List Str, PyData.eqvAll (a.map .str) (b.map .str) = decide (a = b)
  | [], [] => by simp [PyData.eqvAll]
  | [], _ :: _ => by simp [PyData.eqvAll]
  | _ :: _, [] => by simp [PyData.eqvAll]
  | x :: a, y :: b => by
    rw [List.map_cons, List.map_cons, PyData.eqvAll, eqvAll_strs a b]
    by_cases h : x = y
    · subst h
      simp [PyData.eqv]
    · simp [PyData.eqv, h]
theorem eqv_strs (a b : List Str) : PyData.eqv (.tuple (a.map .str)) (.tuple (b.map .str)) = decide (a = b) := by
  rw [PyData.eqv]
  exact eqvAll_strs a b
theorem any_axs (ss : List Str) : ([PyData.tuple [.str "x"], .tuple [.str "x", .str "y"], .tuple [.str "y", .str "x"]].any fun z => PyData.eqv z (.tuple (ss.map .str))) = decide (ss ∈ axs3) := by
  have e : ∀ l : List Str, PyData.eqv (.tuple (l.map .str)) (.tuple (ss.map .str)) = decide (l = ss) := fun l => eqv_strs l ss
  have e1 := e ["x"]
  have e2 := e ["x", "y"]
  have e3 := e ["y", "x"]
  simp only [List.map_cons, List.map_nil] at e1 e2 e3
  simp only [List.any_cons, List.any_nil, e1, e2, e3, axs3, Bool.or_false]
  rw [Bool.eq_iff_iff]
  simp only [Bool.or_eq_true, decide_eq_true_eq, List.mem_cons, List.not_mem_nil, or_false]
  exact ⟨fun h => by rcases h with h | h | h <;> simp [← h], fun h => by rcases h with h | h | h <;> simp [h]⟩
theorem nd_strs (ss : List Str) : (PyData.tuple (ss.map .str)).hasDict = false := by
  simp only [PyData.hasDict]
  induction ss with
  | nil => rw [List.map_nil, PyData.hasDictAll]
  | cons x r ih =>
    rw [List.map_cons, PyData.hasDictAll, ih]
    simp [PyData.hasDict]
/-- texts of plain signs -/
theorem sh_strs {ss : List Str} (h : ∀ x ∈ ss, PyData.canLay0 (.str x) = true) : SeqAt.shaped (.tuple (ss.map .str)) = true := by
  have c : PyData.canLayAll0 (ss.map PyData.str) = true ∧ PyData.depthAll (ss.map PyData.str) = 0 := by
    induction ss with
    | nil => exact ⟨rfl, rfl⟩
    | cons x r ih =>
      obtain ⟨i1, i2⟩ := ih fun y hy => h y (List.mem_cons_of_mem _ hy)
      refine ⟨?_, ?_⟩
      · rw [List.map_cons, PyData.canLayAll0, h x List.mem_cons_self, i1]
        rfl
      · rw [List.map_cons, PyData.depthAll, i2]
        simp [PyData.depth]
  unfold SeqAt.shaped
  rw [PyData.canLay0, c.1, Bool.true_and]
  refine _root_.decide_eq_true ?_
  rw [PyData.depth, c.2]
  decide
theorem xy_ok : ∀ x ∈ ([("x" : Str), "y"] : List Str), PyData.canLay0 (.str x) = true := by decide +kernel
/-- a good one, as it is known -/
theorem toE_rk {K : PySem.W.Frag} (r : Rk) : ToE K (RkP K r) r.D := fun v H h => dp_de (rk_d h)
theorem due_rk {r : Rk} (h : r.Ok) : rkDue r.D = none := by
  have e0 : srtB (it 0 r.D) = true := by
    show decide (r.srt ∈ [("total" : Str), "names"]) = true
    unfold Rk.srt
    cases r.tot <;> simp
  have es : ∀ l : List Str, (l.map PyData.str).map strOf = l := fun l => by
    rw [List.map_map]
    exact List.map_id l
  have e1 : nmsB (it 1 r.D) = true := by
    show ((decide (1 ≤ (r.ns.map PyData.str).length) && decide ((r.ns.map PyData.str).length ≤ 3)) && ((r.ns.map PyData.str).all nameB && decide ((r.ns.map PyData.str).map strOf).Nodup)) = true
    rw [es, List.length_map, decide_eq_true h.ne, decide_eq_true h.le, decide_eq_true h.nd, Bool.and_true, Bool.and_true, Bool.true_and, List.all_map, List.all_eq_true]
    exact fun x hx => h.nm x hx
  have e2 : axsB (it 2 r.D) = true := by
    show ((r.axs.map PyData.str).all isStB && decide ((r.axs.map PyData.str).map strOf ∈ axs3)) = true
    rw [es, List.all_map]
    have : ∀ a : Fin 3, ((axsOf a).all (isStB ∘ PyData.str) && decide (axsOf a ∈ axs3)) = true := by decide +kernel
    exact this r.ax
  unfold rkDue
  rw [e0, e1, e2]
  rfl
theorem sm_rk {r : Rk} (h : r.Ok) : smB r.D = true := smd_of fun x hx => by
  simp only [List.mem_cons, List.not_mem_nil, or_false] at hx
  rcases hx with rfl | rfl | rfl
  · refine smd_str ?_
    unfold Rk.srt
    cases r.tot <;> decide +kernel
  · refine smd_of fun x hx => ?_
    obtain ⟨y, hy, rfl⟩ := List.mem_map.mp hx
    exact smd_str (by have := (nm_facts (h.nm y hy)).2.1; omega)
  · refine smd_of fun x hx => ?_
    obtain ⟨y, hy, rfl⟩ := List.mem_map.mp hx
    have : ∀ a : Fin 3, ∀ y ∈ axsOf a, y.length ≤ 100000 := by decide +kernel
    exact smd_str (this r.ax y hy)
end Nd
namespace K12
set_option autoImplicit false
open PySem PySem.W L2 Evl My Nd
section
variable {P : Program} {w : World} {K : PySem.W.Frag} {mg : Str → Option Value} {base : Heap}
/-- is_derivative -/
abbrev s_is_derivative : Stmt := topS 32
abbrev N_is_derivative : List Str := ["thing", "name", "by_x", "by_y"]
theorem sc_is_derivative : FnScope N_is_derivative ["thing"] (defScope s_is_derivative) := ⟨rfl, rfl, rfl, by decide +kernel, rfl, by decide +kernel, by decide +kernel⟩
theorem ok_is_derivative {f : Addr} {fd : FuncData} (F : Fun K "is_derivative" "is_derivative" s_is_derivative f fd)  {f_is_name : Addr} {d_is_name : FuncData} (c_is_name : Cal P w K mg base "is_name" 2 ["thing"] (spP (RBE K nameB)) f_is_name d_is_name) {f_is_whole : Addr} {d_is_whole : FuncData} (c_is_whole : Cal P w K mg base "is_whole" 2 ["thing"] (spP (RBE K wholeB)) f_is_whole d_is_whole) (n_isinstance : mg "isinstance" = none) (n_tuple : mg "tuple" = none) (n_len : mg "len" = none)  :
    FnOk P w K mg base CX0 3 f fd ["thing"] (spP (RBE K dvB)) := by
  refine F.ok sc_is_derivative (spP_len (by rintro _ _ ⟨_, _, _, _, rfl, rfl⟩; rfl)) (fun cdv A outer s H vs Q E hr h => ?_)
  obtain ⟨B, ps, p, eB, hv, ⟨qd, d, tq, hs, rfl, rfl⟩, q⟩ := h
  obtain ⟨v, rfl, h1⟩ := all1 hv
  have hu := hu_of hr
  refine ⟨_, (pss_cons (ps_if (PW.pt (pw_or (pt_not (pt_val (pe_callB call_isi (by rfl) n_isinstance (by decide +kernel) (pa_cons (pv 0) (pa_cons (pe_bltn (v := .ty "tuple") (u := .type "tuple") (by rfl) n_tuple (by decide +kernel) rfl) pa_nil))))) (pw_or1 (pt_cmpR op_ne (pe_callB call_len_seq (by rfl) n_len (by decide +kernel) (pa_cons (pv 0) pa_nil)) pe_int (nomark _))))) (pss_one (ps_ret pe_bl)) pss_nil)
    (pss_cons (ps_asg (pv 0) (pg_tup (by rfl) (pgs_cons (pg_name (i := 1) sc_is_derivative.nd rfl (by first | exact .inl rfl | exact .inr rfl)) (pgs_cons (pg_name (i := 2) sc_is_derivative.nd rfl (by first | exact .inl rfl | exact .inr rfl)) (pgs_cons (pg_name (i := 3) sc_is_derivative.nd rfl (by first | exact .inl rfl | exact .inr rfl)) pgs_nil)))))
    (pss_one (ps_ret (pe_and (pe_call c_is_name.G (hr.mono (by decide)) (by rfl) c_is_name.m c_is_name.k c_is_name.b .nil pass0 (pa_cons (pv 1) pa_nil)) (pe_and (pe_call c_is_whole.G (hr.mono (by decide)) (by rfl) c_is_whole.m c_is_whole.k c_is_whole.b .nil pass0 (pa_cons (pv 2) pa_nil)) (pe_and (pe_call c_is_whole.G (hr.mono (by decide)) (by rfl) c_is_whole.m c_is_whole.k c_is_whole.b .nil pass0 (pa_cons (pv 3) pa_nil)) (pe_and (pe_cmpR op_ge (pv 2) pe_int (nomark _)) (pe_one (pe_cmpR op_ge (pv 3) pe_int (nomark _))))))))))), ?_⟩
  have hd : De K B v d := tq _ _ h1
  cases ht : tupN 3 d with
  | false =>
    refine ps_ifT eB (et_is (et_tupNE (n := 3) (p_var (p := IsE K d) rfl hd)) (by rw [ht]; rfl)) fun H1 e1 => ?_
    refine My.ps_ret (eB.trans e1) (p_c (v := .bl false)) fun v B1 H2 g hp => q v B1 H2 ((Gr.wide eB e1).trans g) ?_
    rw [show dvB d = false from by unfold dvB; rw [ht]; rfl]
    exact hp
  | true =>
    refine ps_ifN eB (et_is (et_tupNE (n := 3) (p_var (p := IsE K d) rfl hd)) (by rw [ht]; rfl)) fun H1 e1 => ?_
    dsimp only
    have s0 := smd_it hs 0
    have s1 := smd_it hs 1
    have s2 := smd_it hs 2
    have ed : dvB d = (nameB (it 0 d) && (wholeB (it 1 d) && (wholeB (it 2 d) && (decide (0 ≤ intOf (it 1 d)) && decide (0 ≤ intOf (it 2 d)))))) := by unfold dvB; rw [ht]; rfl
    refine ps_un3E (K := K) (eB.trans e1) (p_var (p := IsE K (.tuple [it 0 d, it 1 d, it 2 d])) rfl (by rw [← tpl3 ht]; exact hd)) fun w1 w2 w3 B2 H2 g2 n1 n2 n3 => ?_
    dsimp only
    refine My.ps_ret g2.c (p_ev (v := .bl (dvB d)) (ev_is (ev_andV (a := nameB (it 0 d)) (b := (wholeB (it 1 d) && (wholeB (it 2 d) && (decide (0 ≤ intOf (it 1 d)) && decide (0 ≤ intOf (it 2 d)))))) (ev_p (p_callP (ps := [IsE K (it 0 d)]) (q_cons (p_var rfl n1) q_nil) ⟨_, _, to_idE, s0, rfl, rfl⟩)) fun _ =>
      ev_andV (ev_p (p_callP (ps := [IsE K (it 1 d)]) (q_cons (p_var rfl n2) q_nil) ⟨_, _, to_idE, s1, rfl, rfl⟩)) fun k1 => ev_andV (ev_p (p_callP (ps := [IsE K (it 2 d)]) (q_cons (p_var rfl n3) q_nil) ⟨_, _, to_idE, s2, rfl, rfl⟩)) fun k2 =>
      ev_andV (ev_op (ev_inE (K := K) (p_var (p := IsE K (.int (intOf (it 1 d)))) rfl (by rw [← wholeB_ex k1]; exact n2))) ev_c rv_I0) fun _ => ev_op (ev_inE (K := K) (p_var (p := IsE K (.int (intOf (it 2 d)))) rfl (by rw [← wholeB_ex k2]; exact n3))) ev_c rv_I0) (by rw [ed]))) fun v B3 H3 g hp => q v B3 H3 (((Gr.wide eB e1).trans g2).trans g) hp

/-- _are_names -/
abbrev s__are_names : Stmt := topS 45
abbrev N__are_names : List Str := ["thing", "name"]
theorem sc__are_names : FnScope N__are_names ["thing"] (defScope s__are_names) := ⟨rfl, rfl, rfl, by decide +kernel, rfl, by decide +kernel, by decide +kernel⟩
theorem ok__are_names {f : Addr} {fd : FuncData} (F : Fun K "_are_names" "_are_names" s__are_names f fd)  {f_is_name : Addr} {d_is_name : FuncData} (c_is_name : Cal P w K mg base "is_name" 2 ["thing"] (spP (RBE K nameB)) f_is_name d_is_name) (n_isinstance : mg "isinstance" = none) (n_tuple : mg "tuple" = none) (n_len : mg "len" = none) (n_all : mg "all" = none) (n_set : mg "set" = none) {tk1 : Nat} (g_MOST_NAMES : mg "MOST_NAMES" = some (.int 3 tk1)) :
    FnOk P w K mg base CX0 3 f fd ["thing"] (spP (RBE K nmsB)) := by
  refine F.ok sc__are_names (spP_len (by rintro _ _ ⟨_, _, _, _, rfl, rfl⟩; rfl)) (fun cdv A outer s H vs Q E hr h => ?_)
  obtain ⟨B, ps, p, eB, hv, ⟨qd, d, tq, hs, rfl, rfl⟩, q⟩ := h
  obtain ⟨v, rfl, h1⟩ := all1 hv
  have hd : De K B v d := tq _ _ h1
  have hu := hu_of hr
  refine ⟨_, (pss_cons (ps_if (PW.pt (pw_or (pt_not (pt_val (pe_callB call_isi (by rfl) n_isinstance (by decide +kernel) (pa_cons (pv 0) (pa_cons (pe_bltn (v := .ty "tuple") (u := .type "tuple") (by rfl) n_tuple (by decide +kernel) rfl) pa_nil))))) (pw_or1 (pt_not (pt_chain op_le op_le pe_int (pe_callB call_len_seq (by rfl) n_len (by decide +kernel) (pa_cons (pv 0) pa_nil)) (pe_glob (by rfl) (v := .int 3) g_MOST_NAMES ⟨_, rfl⟩)))))) (pss_one (ps_ret pe_bl)) pss_nil)
    (pss_one (ps_ret (pe_and (pe_callB (cr_all rfl) (by rfl) n_all (by decide +kernel) (pa_cons (pe_lc (own := [("name", 1)]) rfl sc__are_names.nd (pi_tup (pv 0)) (blkOk_by (N := N__are_names) (sc := defScope s__are_names) (by decide +kernel)) (fun _ _ _ _ _ => (pg_name (i := 1) sc__are_names.nd rfl (Or.inl rfl))) (fun _ _ _ _ _ => pts_nil) (fun _ _ _ _ _ => (pe_call c_is_name.G (hr.mono (by decide)) (by rfl) c_is_name.m c_is_name.k c_is_name.b .nil pass0 (pa_cons (pv 1) pa_nil)))) pa_nil)) (pe_one (pe_cmpR op_eq (pe_lenSetU rfl (by rfl) n_len (by rfl) n_set (pv 0)) (pe_callB call_len_seq (by rfl) n_len (by decide +kernel) (pa_cons (pv 0) pa_nil)) (nomark _))))))), ?_⟩
  by_cases hx : ∃ xs, d = .tuple xs
  rotate_left
  · have hn : isTu d = false ∧ nmsB d = false := by cases d <;> first | exact ⟨rfl, rfl⟩ | exact absurd ⟨_, rfl⟩ hx
    refine My.ps_ifT eB (et_is (et_or (a := true) (b := true) (et_is (et_not (et_test (ev_isTuE (p_var (p := IsE K d) rfl hd)))) (by rw [hn.1]; rfl)) fun z => nomatch z) rfl) fun H1 e1 => ?_
    refine My.ps_ret (eB.trans e1) (p_c (v := .bl false)) fun v B1 H2 g hp => q v B1 H2 ((Gr.wide eB e1).trans g) ?_
    rw [hn.2]
    exact hp
  obtain ⟨xs, rfl⟩ := hx
  have hl : EvP (tVar 0) [some v, none] B (IsE K (.tuple xs)) := p_var rfl hd
  have t1 := et_or (a := false) (b := !(decide ((1 : Int) ≤ (xs.length : Int)) && decide ((xs.length : Int) ≤ 3))) (et_is (et_not (et_test (ev_isTuE hl))) rfl) fun _ => et_not (et_test (ev_chain (r1 := fun i j => decide (i ≤ j)) (r2 := fun i j => decide (i ≤ j)) (ev_c (v := .int 1)) (ev_lenE hl (.inl rfl)) (ev_c (v := .int 3))))
  have e1 : (decide ((1 : Int) ≤ (xs.length : Int)) && decide ((xs.length : Int) ≤ 3)) = (decide (1 ≤ xs.length) && decide (xs.length ≤ 3)) := by
    congr 1 <;> (apply decide_eq_decide.mpr; omega)
  rw [e1] at t1
  have en : nmsB (.tuple xs) = ((decide (1 ≤ xs.length) && decide (xs.length ≤ 3)) && (xs.all nameB && decide (xs.map strOf).Nodup)) := rfl
  cases c1 : (decide (1 ≤ xs.length) && decide (xs.length ≤ 3)) with
  | false =>
    refine My.ps_ifT eB (et_is t1 (by rw [c1]; rfl)) fun H1 e1 => ?_
    refine My.ps_ret (eB.trans e1) (p_c (v := .bl false)) fun v B1 H2 g hp => q v B1 H2 ((Gr.wide eB e1).trans g) ?_
    rw [en, c1]
    exact hp
  | true =>
    refine ps_ifN eB (et_is t1 (by rw [c1]; rfl)) fun H1 e1 => ?_
    dsimp only
    simp only [Bool.and_eq_true, decide_eq_true_eq] at c1
    refine My.ps_ret (eB.trans e1) (p_ev (v := .bl (nmsB (.tuple xs))) (ev_is (ev_andV (a := xs.all nameB) (b := decide (xs.map strOf).Nodup) (ev_is (ev_allL (K := K) (bs := xs.map nameB) ?_) ?_) fun ha => ev_is (ev_op (ev_lenSetU hl (fun x hx => nm_st (List.all_eq_true.mp ha x hx)) (by omega)) (ev_lenE hl (.inl rfl)) (rv_eq rfl)) ?_) ?_)) fun v B1 H2 g hp => q v B1 H2 ((Gr.wide eB e1).trans g) hp
    · rw [← range_map xs nameB .none, List.map_map]
      have hn : (xs.map (IsE K)).length = xs.length := List.length_map _
      rw [← hn]
      refine p_lcA (K := K) (src_tu (K := K) (ps := xs.map (IsE K)) (hl.imp fun v B1 _ x => tu_e x)) (by omega) (fun i => .bool (nameB (xs.getD i .none))) fun i v1 B1 hi e pv => ?_
      rw [List.length_map] at hi
      rw [getD_map hi] at pv
      rw [List.getD_eq_getElem?_getD, List.getElem?_eq_getElem hi, Option.getD_some]
      exact ⟨[some v, some v1], rfl, fun H2 Q e q => q, ed_bl (ev_p (p_callP (ps := [IsE K xs[i]]) (q_cons (p_var rfl pv) q_nil) ⟨_, _, to_idE, smd_tu hs _ (List.getElem_mem hi), rfl, rfl⟩))⟩
    · rw [List.all_map]
      rfl
    · refine congrArg V.bl (decide_eq_decide.mpr ?_)
      have := dcnt_nd _ (xs.map strOf) rfl
      rw [List.length_map] at this
      rw [← this]
      exact ⟨fun z => by have := V.int.inj z; omega, fun z => by rw [z]⟩
    · rw [en, decide_eq_true c1.1, decide_eq_true c1.2]
      rfl

/-- _are_axes -/
abbrev s__are_axes : Stmt := topS 46
abbrev N__are_axes : List Str := ["thing", "axis"]
theorem sc__are_axes : FnScope N__are_axes ["thing"] (defScope s__are_axes) := ⟨rfl, rfl, rfl, by decide +kernel, rfl, by decide +kernel, by decide +kernel⟩
theorem ok__are_axes {f : Addr} {fd : FuncData} (F : Fun K "_are_axes" "_are_axes" s__are_axes f fd)  {f_is_axis : Addr} {d_is_axis : FuncData} (c_is_axis : Cal P w K mg base "is_axis" 1 ["thing"] (spP (RBE K axB)) f_is_axis d_is_axis) (n_isinstance : mg "isinstance" = none) (n_tuple : mg "tuple" = none) (n_all : mg "all" = none) {aL : Addr} (g_ALL : mg "AXES_ALL" = some (.ref aL)) (v_ALL : ∀ H, Dp K H (.ref aL) (.tuple [PyData.tuple [.str "x"], .tuple [.str "x", .str "y"], .tuple [.str "y", .str "x"]])) :
    FnOk P w K mg base CX0 2 f fd ["thing"] (spP (RBL K axsB)) := by
  refine F.ok sc__are_axes (spP_len (by rintro _ _ ⟨_, _, _, _, _, rfl, rfl⟩; rfl)) (fun cdv A outer s H vs Q E hr h => ?_)
  obtain ⟨B, ps, p, eB, hv, ⟨qd, d, tq, hs, hxl, rfl, rfl⟩, q⟩ := h
  obtain ⟨v, rfl, h1⟩ := all1 hv
  have hd : De K B v d := tq _ _ h1
  have hu := hu_of hr
  refine ⟨_, (pss_one (ps_ret (pe_and (pe_callB call_isi (by rfl) n_isinstance (by decide +kernel) (pa_cons (pv 0) (pa_cons (pe_bltn (v := .ty "tuple") (u := .type "tuple") (by rfl) n_tuple (by decide +kernel) rfl) pa_nil))) (pe_and (pe_callB (cr_all rfl) (by rfl) n_all (by decide +kernel) (pa_cons (pe_lc (own := [("axis", 1)]) rfl sc__are_axes.nd (pi_tup (pv 0)) (blkOk_by (N := N__are_axes) (sc := defScope s__are_axes) (by decide +kernel)) (fun _ _ _ _ _ => (pg_name (i := 1) sc__are_axes.nd rfl (Or.inl rfl))) (fun _ _ _ _ _ => pts_nil) (fun _ _ _ _ _ => (pe_call c_is_axis.G (hr.mono (by decide)) (by rfl) c_is_axis.m c_is_axis.k c_is_axis.b .nil pass0 (pa_cons (pv 1) pa_nil)))) pa_nil)) (pe_one (pe_cmpR (op_inT (by have h := hr.un; show (A.deeper _).units + 65 < cLine; omega)) (pv 0) (pe_glob (by rfl) (v := .ref aL) g_ALL rfl) (by rfl))))))), ?_⟩
  have ev : ∀ x, EvP (tVar 0) [some v, x] B (IsE K d) := fun _ => p_var rfl hd
  have en : axsB d = (isTu d && (onTu (fun xs => xs.all axB) d && onTu (fun xs => decide (xs.map strOf ∈ axs3)) d)) := by
    cases d with
    | tuple xs =>
      show (xs.all isStB && decide (xs.map strOf ∈ axs3)) = (true && (xs.all axB && decide (xs.map strOf ∈ axs3)))
      rw [Bool.true_and, Bool.eq_iff_iff, Bool.and_eq_true, Bool.and_eq_true, List.all_eq_true, List.all_eq_true, decide_eq_true_iff]
      refine and_congr_left fun hm => ⟨fun h x hx => ?_, fun h x hx => ?_⟩
      · rw [axB_eq, h x hx, Bool.true_and]
        have : ∀ l ∈ axs3, ∀ y ∈ l, y ∈ [("x" : Str), "y"] := by decide +kernel
        exact _root_.decide_eq_true (this _ hm _ (List.mem_map.mpr ⟨x, hx, rfl⟩))
      · have := h x hx
        rw [axB_eq, Bool.and_eq_true] at this
        exact this.1
    | _ => rfl
  refine My.ps_ret eB (p_ev (v := .bl (axsB d)) (ev_is (ev_andV (a := isTu d) (b := (onTu (fun xs => xs.all axB) d && onTu (fun xs => decide (xs.map strOf ∈ axs3)) d)) (ev_isTuE (ev none)) fun et => ?_) (by rw [en]))) fun v B1 H1 g hp => q v B1 H1 g hp
  obtain ⟨xs, rfl⟩ : ∃ xs, d = .tuple xs := by
    cases d <;> first | exact ⟨_, rfl⟩ | exact absurd et (by simp [isTu])
  have xl : xs.length ≤ 100000 := hxl xs rfl
  refine ev_andV (a := xs.all axB) (b := decide (xs.map strOf ∈ axs3)) (ev_is (ev_allL (K := K) (bs := xs.map axB) ?_) (by rw [List.all_map]; rfl)) fun ha => ?_
  · rw [← range_map xs axB .none, List.map_map]
    have hn : (xs.map (IsE K)).length = xs.length := List.length_map _
    rw [← hn]
    refine p_lcA (K := K) (src_tu (K := K) (ps := xs.map (IsE K)) ((ev none).imp fun v B1 _ x => tu_e x)) (by omega) (fun i => .bool (axB (xs.getD i .none))) fun i v1 B1 hi e pv => ?_
    rw [List.length_map] at hi
    rw [getD_map hi] at pv
    rw [List.getD_eq_getElem?_getD, List.getElem?_eq_getElem hi, Option.getD_some]
    exact ⟨[some v, some v1], rfl, fun H2 Q e q => q, ed_bl (ev_p (p_callP (ps := [IsE K xs[i]]) (q_cons (p_var rfl pv) q_nil) ⟨_, _, to_idE, smd_tu hs _ (List.getElem_mem hi), rfl, rfl⟩))⟩
  · have hst : ∀ x ∈ xs, isStB x = true := fun x hx => by
      have := List.all_eq_true.mp ha x hx
      rw [axB_eq, Bool.and_eq_true] at this
      exact this.1
    have hxy : ∀ y ∈ xs.map strOf, y ∈ [("x" : Str), "y"] := fun y hy => by
      obtain ⟨x, hx, rfl⟩ := List.mem_map.mp hy
      have := List.all_eq_true.mp ha x hx
      rw [axB_eq, Bool.and_eq_true] at this
      exact of_decide_eq_true this.2
    have h2 := ev none
    rw [strs_back hst] at h2
    refine ev_is (ev_inDT (p_eD h2 (nd_strs _)) (ed_ref (v_ALL B)) (sh_strs fun x hx => xy_ok x (hxy x hx)) (by decide +kernel)) ?_
    rw [any_axs]

/-- need_ranking -/
abbrev s_need_ranking : Stmt := topS 44
abbrev N_need_ranking : List Str := ["ranking", "sort", "names", "axes"]
theorem sc_need_ranking : FnScope N_need_ranking ["ranking"] (defScope s_need_ranking) := ⟨rfl, rfl, rfl, by decide +kernel, rfl, by decide +kernel, by decide +kernel⟩
theorem ok_need_ranking {f : Addr} {fd : FuncData} (F : Fun K "need_ranking" "need_ranking" s_need_ranking f fd)  {f__are_names : Addr} {d__are_names : FuncData} (c__are_names : Cal P w K mg base "_are_names" 3 ["thing"] (spP (RBE K nmsB)) f__are_names d__are_names) {f__are_axes : Addr} {d__are_axes : FuncData} (c__are_axes : Cal P w K mg base "_are_axes" 2 ["thing"] (spP (RBL K axsB)) f__are_axes d__are_axes) (n_isinstance : mg "isinstance" = none) (n_tuple : mg "tuple" = none) (n_len : mg "len" = none) (n_str : mg "str" = none) {aS : Addr} (g_SORTS : mg "SORTS" = some (.ref aS)) (v_SORTS : ∀ H, Dp K H (.ref aS) (.tuple ([("total" : Str), "names"].map .str))) {aBR i_BR : Addr} {d_BR : FuncData} {gZ_BR : List Value → List Value → List Value} (R_BR : RP P w K mg base "BadRanking" aBR "place" i_BR d_BR gZ_BR) :
    FnOk P w K mg base (L2.CX P w) 4 f fd ["ranking"] (spO (RrkG K aBR)) := by
  refine F.okX sc_need_ranking (spO_len (by rintro _ _ ⟨_, _, _, _, _, rfl, rfl⟩; rfl)) (fun cdv A outer s H vs Q E hr h => ?_)
  obtain ⟨B, ps, o, eB, hv, ⟨qd, d, tq, hs, hxl, rfl, rfl⟩, q⟩ := h
  obtain ⟨v, rfl, h1⟩ := all1 hv
  have hd : De K B v d := tq _ _ h1
  have hu := hu_of hr
  have tk : Takes (cxOf (L2.CX P w) P w K mg base N_need_ranking "need_ranking" (defScope s_need_ranking) f cdv A outer s H E) (fun cls d _ H => E cls d H) := L2.takes_of rfl rfl rfl rfl
  refine ⟨_, (pss_cons (ps_if (PW.pt (pw_or (pt_not (pt_val (pe_callB call_isi (by rfl) n_isinstance (by decide +kernel) (pa_cons (pv 0) (pa_cons (pe_bltn (v := .ty "tuple") (u := .type "tuple") (by rfl) n_tuple (by decide +kernel) rfl) pa_nil))))) (pw_or1 (pt_cmpR op_ne (pe_callB call_len_seq (by rfl) n_len (by decide +kernel) (pa_cons (pv 0) pa_nil)) pe_int (nomark _))))) (pss_one (ps_raiseZ R_BR rfl rfl tk (hr.mono (by decide)) (by rfl))) pss_nil)
    (pss_cons (ps_asg (pv 0) (pg_tup (by rfl) (pgs_cons (pg_name (i := 1) sc_need_ranking.nd rfl (by first | exact .inl rfl | exact .inr rfl)) (pgs_cons (pg_name (i := 2) sc_need_ranking.nd rfl (by first | exact .inl rfl | exact .inr rfl)) (pgs_cons (pg_name (i := 3) sc_need_ranking.nd rfl (by first | exact .inl rfl | exact .inr rfl)) pgs_nil)))))
    (pss_cons (ps_if (PW.pt (pw_or (pt_not (pt_val (pe_callB call_isi (by rfl) n_isinstance (by decide +kernel) (pa_cons (pv 1) (pa_cons (pe_bltn (v := .ty "str") (u := .type "str") (by rfl) n_str (by decide +kernel) rfl) pa_nil))))) (pw_or1 (pt_cmpR op_notIn_seq (pv 1) (pe_glob (by rfl) (v := .ref aS) g_SORTS rfl) (by rfl))))) (pss_one (ps_raiseP R_BR rfl rfl tk (hr.mono (by decide)) (by rfl) (pa_cons pe_str pa_nil))) pss_nil)
    (pss_cons (ps_if (pt_not (pt_val (pe_call c__are_names.G (hr.mono (by decide)) (by rfl) c__are_names.m c__are_names.k c__are_names.b .nil pass0 (pa_cons (pv 2) pa_nil)))) (pss_one (ps_raiseP R_BR rfl rfl tk (hr.mono (by decide)) (by rfl) (pa_cons pe_str pa_nil))) pss_nil)
    (pss_one (ps_if (pt_not (pt_val (pe_call c__are_axes.G (hr.mono (by decide)) (by rfl) c__are_axes.m c__are_axes.k c__are_axes.b .nil pass0 (pa_cons (pv 3) pa_nil)))) (pss_one (ps_raiseP R_BR rfl rfl tk (hr.mono (by decide)) (by rfl) (pa_cons pe_str pa_nil))) pss_nil)))))), ?_⟩
  cases ht : tupN 3 d with
  | false =>
    rw [show rkDue d = some none from by unfold rkDue; rw [ht]; rfl] at q
    refine My.ps_ifT eB (et_is (et_tupNE (n := 3) (p_var (p := IsE K d) rfl hd)) (by rw [ht]; rfl)) fun H1 e1 => ?_
    exact x_rsZ (W := fun cls d _ H => E cls d H) R_BR.rc.r (eB.trans e1) e1 fun d2 B2 H2 g hd => q d2 B2 H2 ((Gr.wide eB e1).trans g) hd
  | true =>
  refine ps_ifN eB (et_is (et_tupNE (n := 3) (p_var (p := IsE K d) rfl hd)) (by rw [ht]; rfl)) fun H1 e1 => ?_
  dsimp only
  have s0 := smd_it hs 0
  have s1 := smd_it hs 1
  have s2 := smd_it hs 2
  refine ps_un3E (K := K) (eB.trans e1) (p_var (p := IsE K (.tuple [it 0 d, it 1 d, it 2 d])) rfl (by rw [← tpl3 ht]; exact hd)) fun z1 z2 z3 B2 H2 g2 n1 n2 n3 => ?_
  dsimp only
  have G2 := (Gr.wide eB e1).trans g2
  have t1 : EvT _ [some v, some z1, some z2, some z3] B2 (!srtB (it 0 d)) := et_is (et_or (a := !isStB (it 0 d)) (b := !decide (strOf (it 0 d) ∈ [("total" : Str), "names"])) (et_not (et_test (ev_isStE (p_var (i := 1) (p := IsE K (it 0 d)) rfl n1)))) fun e => et_is (et_test (ev_inT (neg := true) (x := strOf (it 0 d)) (ys := ["total", "names"]) (ev_strE (p_var (i := 1) (p := IsE K (it 0 d)) rfl n1) (by simpa using e)) (ed_ref (v_SORTS B2)))) (by rw [if_pos rfl])) (by
    cases it 0 d <;> first | rfl | simp [isStB, srtB, strOf])
  cases c1 : srtB (it 0 d) with
  | false =>
    rw [show rkDue d = some (some ("sort" : Str)) from by unfold rkDue; rw [ht, c1]; rfl] at q
    refine My.ps_ifT g2.c (et_is t1 (by rw [c1]; rfl)) fun H3 e3 => ?_
    have e03 := G2.trans (Gr.wide g2.c e3)
    exact x_rsP (W := fun cls d _ H => E cls d H) R_BR.rc.r e03.c (e1.trans (g2.a.trans e3)) (q_cons (p_c (v := .str "sort")) q_nil) fun d2 B5 H5 g hd => q d2 B5 H5 (e03.trans g) hd
  | true =>
  refine ps_ifN g2.c (et_is t1 (by rw [c1]; rfl)) fun H3 e3 => ?_
  dsimp only
  have t2 : EvT _ [some v, some z1, some z2, some z3] B2 _ := et_not (et_test (ev_p (p_callP (R := RBE K nmsB) (p := IsV (.bl (nmsB (it 1 d)))) (ps := [IsE K (it 1 d)]) (q_cons (p_var (i := 2) rfl n2) q_nil) ⟨_, _, to_idE, s1, rfl, rfl⟩)))
  cases c2 : nmsB (it 1 d) with
  | false =>
    rw [show rkDue d = some (some ("names" : Str)) from by unfold rkDue; rw [ht, c1, c2]; rfl] at q
    refine My.ps_ifT (g2.c.trans e3) (et_is t2 (by rw [c2]; rfl)) fun H4 e4 => ?_
    have e04 := G2.trans (Gr.wide g2.c (e3.trans e4))
    exact x_rsP (W := fun cls d _ H => E cls d H) R_BR.rc.r e04.c (e1.trans (g2.a.trans (e3.trans e4))) (q_cons (p_c (v := .str "names")) q_nil) fun d2 B5 H5 g hd => q d2 B5 H5 (e04.trans g) hd
  | true =>
  refine ps_ifN (g2.c.trans e3) (et_is t2 (by rw [c2]; rfl)) fun H4 e4 => ?_
  dsimp only
  have t3 : EvT _ [some v, some z1, some z2, some z3] B2 _ := et_not (et_test (ev_p (p_callP (R := RBL K axsB) (p := IsV (.bl (axsB (it 2 d)))) (ps := [IsE K (it 2 d)]) (q_cons (p_var (i := 3) rfl n3) q_nil) ⟨_, _, to_idE, s2, hxl, rfl, rfl⟩)))
  cases c3 : axsB (it 2 d) with
  | false =>
    rw [show rkDue d = some (some ("axes" : Str)) from by unfold rkDue; rw [ht, c1, c2, c3]; rfl] at q
    refine My.ps_ifT ((g2.c.trans e3).trans e4) (et_is t3 (by rw [c3]; rfl)) fun H5 e5 => ?_
    have e05 := G2.trans (Gr.wide g2.c ((e3.trans e4).trans e5))
    exact x_rsP (W := fun cls d _ H => E cls d H) R_BR.rc.r e05.c (e1.trans (g2.a.trans ((e3.trans e4).trans e5))) (q_cons (p_c (v := .str "axes")) q_nil) fun d2 B5 H5 g hd => q d2 B5 H5 (e05.trans g) hd
  | true =>
    rw [show rkDue d = none from by unfold rkDue; rw [ht, c1, c2, c3]; rfl] at q
    refine ps_ifN ((g2.c.trans e3).trans e4) (et_is t3 (by rw [c3]; rfl)) fun H5 e5 => ?_
    exact q .non B2 H5 (G2.trans (Gr.wide g2.c ((e3.trans e4).trans e5))) rfl

/-- _stands_there -/
abbrev s__stands_there : Stmt := topS 52
abbrev N__stands_there : List Str := ["ranking", "derivative", "_", "names", "axes", "name", "by_y"]
theorem sc__stands_there : FnScope N__stands_there ["ranking", "derivative"] (defScope s__stands_there) := ⟨rfl, rfl, rfl, by decide +kernel, rfl, by decide +kernel, by decide +kernel⟩
def Rst (K : PySem.W.Frag) : List Pr → Pr → Prop := fun ps p => ∃ (r : Rk) (qd : Pr) (u : Dv), ToE K qd u.D ∧ ps = [RkP K r, qd] ∧ p = IsV (.bl (Rk.stB r u))
theorem ok__stands_there {f : Addr} {fd : FuncData} (F : Fun K "_stands_there" "_stands_there" s__stands_there f fd)     :
    FnOk P w K mg base CX0 1 f fd ["ranking", "derivative"] (spP (Rst K)) := by
  refine F.ok sc__stands_there (spP_len (by rintro _ _ ⟨r, _, u, _, rfl, rfl⟩; rfl)) (fun cdv A outer s H vs Q E hr h => ?_)
  obtain ⟨B, ps, p, eB, hv, ⟨r, qd, u, tq, rfl, rfl⟩, q⟩ := h
  obtain ⟨v1, v2, rfl, h1, h2⟩ := all2 hv
  have hu := hu_of hr
  refine ⟨_, (pss_cons (ps_asg (pv 0) (pg_tup (by rfl) (pgs_cons (pg_name (i := 2) sc__stands_there.nd rfl (by first | exact .inl rfl | exact .inr rfl)) (pgs_cons (pg_name (i := 3) sc__stands_there.nd rfl (by first | exact .inl rfl | exact .inr rfl)) (pgs_cons (pg_name (i := 4) sc__stands_there.nd rfl (by first | exact .inl rfl | exact .inr rfl)) pgs_nil)))))
    (pss_cons (ps_asg (pv 1) (pg_tup (by rfl) (pgs_cons (pg_name (i := 5) sc__stands_there.nd rfl (by first | exact .inl rfl | exact .inr rfl)) (pgs_cons (pg_name (i := 2) sc__stands_there.nd rfl (by first | exact .inl rfl | exact .inr rfl)) (pgs_cons (pg_name (i := 6) sc__stands_there.nd rfl (by first | exact .inl rfl | exact .inr rfl)) pgs_nil)))))
    (pss_one (ps_ret (pe_and (pe_cmpR op_in_seq (pv 5) (pv 3) (by rfl)) (pe_one (pe_or (pe_cmpR op_eq (pv 6) pe_int (nomark _)) (pe_one (pe_cmpR op_in_seq pe_str (pv 4) (by rfl)))))))))), ?_⟩
  refine ps_unR (K := K) eB (p_var rfl h1) fun w2 w3 B2 H2 g2 n2 n3 => ?_
  dsimp only
  refine ps_un3E (K := K) g2.c (p_var (p := IsE K (.tuple [.str u.n, .int u.i, .int u.j])) rfl (de_m g2.b (tq _ _ h2))) fun z1 z2 z3 B3 H3 g3 k1 k2 k3 => ?_
  obtain rfl : z1 = .str u.n := by cases k1; rfl
  obtain rfl : z3 = .int u.j := by cases k3; rfl
  dsimp only
  have m2 := nm_d (K := K) ((NmP r.ns).m g3.b n2)
  have m3 := dp_m g3.b n3
  refine My.ps_ret g3.c (p_ev (v := .bl (Rk.stB r u)) (ev_is (ev_andV (a := decide (u.n ∈ r.ns)) (b := decide (u.j = 0) || decide ((Str.ofString "y") ∈ r.axs)) (ev_is (ev_inT (neg := false) (ys := r.ns) (ev_var rfl) (ed_var rfl m2)) ?_) fun _ => ev_orV (ev_is (ev_op (ev_var rfl) ev_c (rv_eq rfl)) ?_) fun _ => ev_is (ev_inT (neg := false) (ys := r.axs) ev_c (ed_var rfl m3)) ?_) ?_)) fun v B4 H4 g hp => q v B4 H4 ((g2.trans g3).trans g) hp
  · rw [if_neg Bool.false_ne_true]
  · by_cases e : u.j = 0 <;> simp [e]
  · rw [if_neg Bool.false_ne_true]
  · rfl

/-- derivative_fits -/
abbrev s_derivative_fits : Stmt := topS 50
abbrev N_derivative_fits : List Str := ["ranking", "thing"]
theorem sc_derivative_fits : FnScope N_derivative_fits ["ranking", "thing"] (defScope s_derivative_fits) := ⟨rfl, rfl, rfl, by decide +kernel, rfl, by decide +kernel, by decide +kernel⟩
theorem ok_derivative_fits {f : Addr} {fd : FuncData} (F : Fun K "derivative_fits" "derivative_fits" s_derivative_fits f fd)  {f_is_derivative : Addr} {d_is_derivative : FuncData} (c_is_derivative : Cal P w K mg base "is_derivative" 3 ["thing"] (spP (RBE K dvB)) f_is_derivative d_is_derivative) {f__stands_there : Addr} {d__stands_there : FuncData} (c__stands_there : Cal P w K mg base "_stands_there" 1 ["ranking", "derivative"] (spP (Rst K)) f__stands_there d__stands_there)   :
    FnOk P w K mg base CX0 4 f fd ["ranking", "thing"] (spP (RB2E K fitsB)) := by
  refine F.ok sc_derivative_fits (spP_len (by rintro _ _ ⟨r, _, _, _, _, _, rfl, rfl⟩; rfl)) (fun cdv A outer s H vs Q E hr h => ?_)
  obtain ⟨B, ps, p, eB, hv, ⟨r, qd, d, hr0, tq, hs, rfl, rfl⟩, q⟩ := h
  obtain ⟨v1, v2, rfl, h1, h2⟩ := all2 hv
  have hu := hu_of hr
  refine ⟨_, (pss_one (ps_ret (pe_and (pe_call c_is_derivative.G (hr.mono (by decide)) (by rfl) c_is_derivative.m c_is_derivative.k c_is_derivative.b .nil pass0 (pa_cons (pv 1) pa_nil)) (pe_one (pe_call c__stands_there.G (hr.mono (by decide)) (by rfl) c__stands_there.m c__stands_there.k c__stands_there.b .nil pass0 (pa_cons (pv 0) (pa_cons (pv 1) pa_nil))))))), ?_⟩
  refine My.ps_ret eB (p_ev (v := .bl (fitsB r d)) (ev_andV (a := dvB d) (b := Rk.stB r (dvOf d)) (ev_p (p_callP (ps := [qd]) (q_cons (p_var rfl h2) q_nil) ⟨_, _, tq, hs, rfl, rfl⟩)) fun k => ev_p (p_callP (ps := [RkP K r, qd]) (q_cons (p_var rfl h1) (q_cons (p_var rfl h2) q_nil)) ?_))) fun v B4 H4 g hp => q v B4 H4 g hp
  obtain ⟨u, rfl, _⟩ := dvB_ex k
  exact ⟨r, qd, u, tq, rfl, rfl⟩

/-- need_derivative -/
abbrev s_need_derivative : Stmt := topS 53
abbrev N_need_derivative : List Str := ["ranking", "thing"]
theorem sc_need_derivative : FnScope N_need_derivative ["ranking", "thing"] (defScope s_need_derivative) := ⟨rfl, rfl, rfl, by decide +kernel, rfl, by decide +kernel, by decide +kernel⟩
def outB (C : Addr) (b : Bool) : Out := if b = true then .ret (IsV .non) else .exc C []
def RndO (K : PySem.W.Frag) (C : Addr) : List Pr → Out → Prop := fun ps o => ∃ (r : Rk) (qd : Pr) (d : PyData), r.Ok ∧ ToE K qd d ∧ smB d = true ∧ ps = [RkP K r, qd] ∧ o = outB C (fitsB r d)
theorem ok_need_derivative {f : Addr} {fd : FuncData} (F : Fun K "need_derivative" "need_derivative" s_need_derivative f fd) {aOP : Addr} {f_derivative_fits : Addr} {d_derivative_fits : FuncData} (c_derivative_fits : Cal P w K mg base "derivative_fits" 4 ["ranking", "thing"] (spP (RB2E K fitsB)) f_derivative_fits d_derivative_fits)  (R_OP : RQ K mg "OutOfPlace" aOP) :
    FnOk P w K mg base (L2.CX P w) 5 f fd ["ranking", "thing"] (spO (RndO K aOP)) := by
  refine F.okX sc_need_derivative (spO_len (by rintro _ _ ⟨_, _, _, _, _, _, rfl, rfl⟩; rfl)) (fun cdv A outer s H vs Q E hr h => ?_)
  obtain ⟨B, ps, o, eB, hv, ⟨r, qd, d, hr0, tq, hs, rfl, rfl⟩, q⟩ := h
  obtain ⟨v1, v2, rfl, h1, h2⟩ := all2 hv
  have hu := hu_of hr
  have tk : Takes (cxOf (L2.CX P w) P w K mg base N_need_derivative "need_derivative" (defScope s_need_derivative) f cdv A outer s H E) (fun cls d _ H => E cls d H) := L2.takes_of rfl rfl rfl rfl
  refine ⟨_, (pss_one (ps_if (pt_not (pt_val (pe_call c_derivative_fits.G (hr.mono (by decide)) (by rfl) c_derivative_fits.m c_derivative_fits.k c_derivative_fits.b .nil pass0 (pa_cons (pv 0) (pa_cons (pv 1) pa_nil))))) (pss_one (ps_raiseQ R_OP rfl tk (by rfl))) pss_nil)), ?_⟩
  have tst := et_not (et_test (ev_p (p_callP (R := RB2E K fitsB) (p := IsV (.bl (fitsB r d))) (σ := [some v1, some v2]) (ps := [RkP K r, qd]) (q_cons (p_var (i := 0) rfl h1) (q_cons (p_var (i := 1) rfl h2) q_nil)) ⟨r, qd, d, hr0, tq, hs, rfl, rfl⟩)))
  cases e : fitsB r d with
  | true =>
    rw [e] at tst q
    refine ps_ifN eB (et_is tst rfl) fun H1 e1 => ?_
    exact q .non B H1 (Gr.wide eB e1) rfl
  | false =>
    rw [e] at tst q
    refine My.ps_ifT eB (et_is tst rfl) fun H1 e1 => ?_
    exact q none B H1 (Gr.wide eB e1) rfl

/-- rank_key -/
abbrev s_rank_key : Stmt := topS 54
abbrev N_rank_key : List Str := ["ranking", "derivative", "sort", "names", "axes", "name", "by_x", "by_y", "ahead", "first"]
theorem sc_rank_key : FnScope N_rank_key ["ranking", "derivative"] (defScope s_rank_key) := ⟨rfl, rfl, rfl, by decide +kernel, rfl, by decide +kernel, by decide +kernel⟩
theorem key_len (r : Rk) (u : Dv) : (r.key u).length = 3 := by
  unfold Rk.key
  cases r.tot <;> rfl
theorem ax_first (r : Rk) : atI (r.axs.map PyData.str) 0 = some (.str (r.axs.getD 0 "")) := by
  have : ∀ a : Fin 3, atI ((axsOf a).map PyData.str) 0 = some (.str ((axsOf a).getD 0 "")) := by
    intro a
    match a with
    | 0 => rfl
    | 1 => rfl
    | 2 => rfl
  exact this r.ax
theorem ax_dec (r : Rk) : decide (V.str (r.axs.getD 0 "") = V.str "x") = decide (r.ax ≠ 2) := by
  have : ∀ a : Fin 3, decide (V.str ((axsOf a).getD 0 "") = V.str "x") = decide (a ≠ 2) := by
    intro a
    match a with
    | 0 => simp [axsOf]
    | 1 => simp [axsOf]
    | 2 => simp [axsOf]; decide +kernel
  exact this r.ax
theorem ok_rank_key {f : Addr} {fd : FuncData} (F : Fun K "rank_key" "rank_key" s_rank_key f fd)     :
    FnOk P w K mg base CX0 1 f fd ["ranking", "derivative"] (spP (Rrd K fun r u => IsD K (.tuple ((r.key u).map .int)))) := by
  refine F.ok sc_rank_key (spP_len (by rintro _ _ ⟨r, u, _, _, rfl, rfl⟩; rfl)) (fun cdv A outer s H vs Q E hr h => ?_)
  obtain ⟨B, ps, p, eB, hv, ⟨r, u, hr0, hu0, rfl, rfl⟩, q⟩ := h
  obtain ⟨v1, v2, rfl, h1, h2⟩ := all2 hv
  have hu := hu_of hr
  refine ⟨_, (pss_cons (ps_asg (pv 0) (pg_tup (by rfl) (pgs_cons (pg_name (i := 2) sc_rank_key.nd rfl (by first | exact .inl rfl | exact .inr rfl)) (pgs_cons (pg_name (i := 3) sc_rank_key.nd rfl (by first | exact .inl rfl | exact .inr rfl)) (pgs_cons (pg_name (i := 4) sc_rank_key.nd rfl (by first | exact .inl rfl | exact .inr rfl)) pgs_nil)))))
    (pss_cons (ps_asg (pv 1) (pg_tup (by rfl) (pgs_cons (pg_name (i := 5) sc_rank_key.nd rfl (by first | exact .inl rfl | exact .inr rfl)) (pgs_cons (pg_name (i := 6) sc_rank_key.nd rfl (by first | exact .inl rfl | exact .inr rfl)) (pgs_cons (pg_name (i := 7) sc_rank_key.nd rfl (by first | exact .inl rfl | exact .inr rfl)) pgs_nil)))))
    (pss_cons (ps_set (i := 8) sc_rank_key.nd rfl (by first | exact .inl rfl | exact .inr rfl) (pe_un un_neg (pe_tupIndex (pv 3) (pv 5))))
    (pss_cons (ps_set (i := 9) sc_rank_key.nd rfl (by first | exact .inl rfl | exact .inr rfl) (pe_ifExp (pt_cmpR op_eq (pe_ix ix_tup (pv 4) pe_int (fun _ _ => rfl)) pe_str (nomark _)) (pv 6) (pv 7)))
    (pss_cons (ps_if (pt_cmpR op_eq (pv 2) pe_str (nomark _)) (pss_one (ps_ret (pe_tup (pa_cons (pe_op op_add (pv 6) (pv 7)) (pa_cons (pv 9) (pa_cons (pv 8) pa_nil)))))) pss_nil)
    (pss_one (ps_ret (pe_tup (pa_cons (pv 8) (pa_cons (pe_op op_add (pv 6) (pv 7)) (pa_cons (pv 9) pa_nil))))))))))), ?_⟩
  refine ps_unR (K := K) eB (p_var rfl h1) fun w2 w3 B2 H2 g2 n2 n3 => ?_
  dsimp only
  refine ps_unD (K := K) g2.c (p_var rfl ((DvP u).m g2.b h2)) fun B3 H3 g3 => ?_
  dsimp only
  have m2 := (NmP r.ns).m g3.b n2
  have m3 := dp_m g3.b n3
  refine ps_asgN (fun x => [some v1, some v2, some (.str r.srt), some w2, some w3, some (.str u.n), some (.int u.i), some (.int u.j), some x, none]) g3.c (p_ev (v := .int (r.ahead u)) (ev_un (ev_tupIx (p_var rfl m2) (ev_var rfl) hu0.n) ru_neg)) (fun x B4 H4 g4 hx => ?_) (fun _ => rfl)
  obtain rfl : x = .int (r.ahead u) := hx
  dsimp only
  refine ps_asgN (fun x => [some v1, some v2, some (.str r.srt), some w2, some w3, some (.str u.n), some (.int u.i), some (.int u.j), some (.int (r.ahead u)), some x]) g4.c (p_ev (v := .int (r.first u)) (ev_if (b := decide (r.ax ≠ 2)) (et_is (et_test (ev_op (ev_st (ed_ixT (ed_var rfl (dp_m g4.b m3)) ev_c (ax_first r))) ev_c (rv_eq rfl))) (ax_dec r)) (fun hb => ev_is (ev_var rfl) (by unfold Rk.first; rw [if_neg (of_decide_eq_true hb)])) fun hb => ev_is (ev_var rfl) (by unfold Rk.first; rw [if_pos (Decidable.not_not.mp (of_decide_eq_false hb))]))) (fun x B5 H5 g5 hx => ?_) (fun _ => rfl)
  obtain rfl : x = .int (r.first u) := hx
  dsimp only
  have gg := (g2.trans g3).trans (g4.trans g5)
  have srt : EvT (tTest (tOp rEq (tVar 2) (tC (.str "total")))) [some v1, some v2, some (.str r.srt), some w2, some w3, some (.str u.n), some (.int u.i), some (.int u.j), some (.int (r.ahead u)), some (.int (r.first u))] B5 r.tot :=
    et_is (et_test (ev_op (ev_var rfl) ev_c (rv_eq rfl))) (by unfold Rk.srt; cases r.tot <;> decide +kernel)
  cases ht : r.tot with
  | true =>
    rw [ht] at srt
    refine My.ps_ifT g5.c srt fun H6 e6 => ?_
    refine My.ps_ret (g5.c.trans e6) (ed_tup (ds := (r.key u).map .int) ?_ (by rw [List.length_map, key_len]; decide)) fun v B7 H7 g7 hp => q v B7 H7 ((gg.trans (Gr.wide g5.c e6)).trans g7) hp
    have : r.key u = [u.i + u.j, r.first u, r.ahead u] := by unfold Rk.key; rw [ht, if_pos rfl]
    rw [this]
    exact q_cons (ed_in (ev_op (ev_var rfl) (ev_var rfl) rv_I0)) (q_cons (ed_in (ev_var rfl)) (q_cons (ed_in (ev_var rfl)) q_nil))
  | false =>
    rw [ht] at srt
    refine ps_ifN g5.c srt fun H6 e6 => ?_
    dsimp only
    refine My.ps_ret (g5.c.trans e6) (ed_tup (ds := (r.key u).map .int) ?_ (by rw [List.length_map, key_len]; decide)) fun v B7 H7 g7 hp => q v B7 H7 ((gg.trans (Gr.wide g5.c e6)).trans g7) hp
    have : r.key u = [r.ahead u, u.i + u.j, r.first u] := by unfold Rk.key; rw [ht, if_neg Bool.false_ne_true]
    rw [this]
    exact q_cons (ed_in (ev_var rfl)) (q_cons (ed_in (ev_op (ev_var rfl) (ev_var rfl) rv_I0)) (q_cons (ed_in (ev_var rfl)) q_nil))

end
end K12
namespace K12
set_option autoImplicit false
open PySem PySem.W L2 Evl My Nd
section
variable {P : Program} {w : World} {K : PySem.W.Frag} {mg : Str → Option Value} {base : Heap}
theorem nd_all {α : Type} {g : α → PyData} (h : ∀ x, (g x).hasDict = false) : ∀ l : List α, PyData.hasDictAll (l.map g) = false
  | [] => by simp [PyData.hasDictAll]
  | x :: l => by simp only [List.map_cons, PyData.hasDictAll, h x, nd_all h l, Bool.or_self]
theorem nd_pw (z : Dv × Int) : (pwD z).hasDict = false := by simp [pwD, Dv.D, PyData.hasDict, PyData.hasDictAll]
theorem nd_mo (m : Mo) : (moD m).hasDict = false := by
  unfold moD
  simp only [PyData.hasDict]
  exact nd_all nd_pw m
theorem tu_1D {H : Hp} {v : V} {d e : PyData} (h : De K H v (.tuple [d, e])) (n : d.hasDict = false) : (TuP K [IsD K d, IsE K e]).P v H := by
  obtain ⟨a, xs, rfl, h1, h2⟩ := tu_e h
  obtain ⟨x, y, rfl, m1, m2⟩ := all2 h2
  exact ⟨a, _, rfl, h1, de_dp m1 n, m2, trivial⟩

/-- is_fraction -/
abbrev s_is_fraction : Stmt := topS 30
abbrev N_is_fraction : List Str := ["thing", "top", "bottom"]
theorem sc_is_fraction : FnScope N_is_fraction ["thing"] (defScope s_is_fraction) := ⟨rfl, rfl, rfl, by decide +kernel, rfl, by decide +kernel, by decide +kernel⟩
theorem ok_is_fraction {f : Addr} {fd : FuncData} (F : Fun K "is_fraction" "is_fraction" s_is_fraction f fd)  {f_is_whole : Addr} {d_is_whole : FuncData} (c_is_whole : Cal P w K mg base "is_whole" 2 ["thing"] (spP (RBE K wholeB)) f_is_whole d_is_whole) (n_isinstance : mg "isinstance" = none) (n_tuple : mg "tuple" = none) (n_len : mg "len" = none) (g_gcd : mg "gcd" = some (.builtin "math.gcd")) :
    FnOk P w K mg base CX0 3 f fd ["thing"] (spP (RBE K frB)) := by
  refine F.ok sc_is_fraction (spP_len (by rintro _ _ ⟨_, _, _, _, rfl, rfl⟩; rfl)) (fun cdv A outer s H vs Q E hr h => ?_)
  obtain ⟨B, ps, p, eB, hv, ⟨qd, d, tq, hs, rfl, rfl⟩, q⟩ := h
  obtain ⟨v, rfl, h1⟩ := all1 hv
  have hu := hu_of hr
  refine ⟨_, (pss_cons (ps_if (PW.pt (pw_or (pt_not (pt_val (pe_callB call_isi (by rfl) n_isinstance (by decide +kernel) (pa_cons (pv 0) (pa_cons (pe_bltn (v := .ty "tuple") (u := .type "tuple") (by rfl) n_tuple (by decide +kernel) rfl) pa_nil))))) (pw_or1 (pt_cmpR op_ne (pe_callB call_len_seq (by rfl) n_len (by decide +kernel) (pa_cons (pv 0) pa_nil)) pe_int (nomark _))))) (pss_one (ps_ret pe_bl)) pss_nil)
    (pss_cons (ps_asg (pv 0) (pg_tup (by rfl) (pgs_cons (pg_name (i := 1) sc_is_fraction.nd rfl (by first | exact .inl rfl | exact .inr rfl)) (pgs_cons (pg_name (i := 2) sc_is_fraction.nd rfl (by first | exact .inl rfl | exact .inr rfl)) pgs_nil))))
    (pss_one (ps_ret (pe_and (pe_call c_is_whole.G (hr.mono (by decide)) (by rfl) c_is_whole.m c_is_whole.k c_is_whole.b .nil pass0 (pa_cons (pv 1) pa_nil)) (pe_and (pe_call c_is_whole.G (hr.mono (by decide)) (by rfl) c_is_whole.m c_is_whole.k c_is_whole.b .nil pass0 (pa_cons (pv 2) pa_nil)) (pe_and (pe_cmpR op_gt (pv 2) pe_int (nomark _)) (pe_one (pe_cmpR op_eq (pe_callBfun cr_gcd (by rfl) g_gcd (pa_cons (pv 1) (pa_cons (pv 2) pa_nil))) pe_int (nomark _)))))))))), ?_⟩
  have hd : De K B v d := tq _ _ h1
  cases ht : tupN 2 d with
  | false =>
    refine ps_ifT eB (et_is (et_tupNE (n := 2) (p_var (p := IsE K d) rfl hd)) (by rw [ht]; rfl)) fun H1 e1 => ?_
    refine My.ps_ret (eB.trans e1) (p_c (v := .bl false)) fun v B1 H2 g hp => q v B1 H2 ((Gr.wide eB e1).trans g) ?_
    rw [show frB d = false from by unfold frB; rw [ht]; rfl]
    exact hp
  | true =>
    refine ps_ifN eB (et_is (et_tupNE (n := 2) (p_var (p := IsE K d) rfl hd)) (by rw [ht]; rfl)) fun H1 e1 => ?_
    dsimp only
    have s0 := smd_it hs 0
    have s1 := smd_it hs 1
    have ed : frB d = (wholeB (it 0 d) && (wholeB (it 1 d) && (decide (0 < intOf (it 1 d)) && decide (Nat.gcd (intOf (it 0 d)).natAbs (intOf (it 1 d)).natAbs = 1)))) := by unfold frB; rw [ht]; rfl
    refine ps_un2 (K := K) (p := IsE K (it 0 d)) (q := IsE K (it 1 d)) (eB.trans e1) (p_var (p := TuP K [IsE K (it 0 d), IsE K (it 1 d)]) rfl (by rw [tpl2 ht] at hd; exact tu_e hd)) fun w1 w2 B2 H2 g2 n1 n2 => ?_
    dsimp only
    refine My.ps_ret g2.c (p_ev (v := .bl (frB d)) (ev_is (ev_andV (a := wholeB (it 0 d)) (b := wholeB (it 1 d) && (decide (0 < intOf (it 1 d)) && decide (Nat.gcd (intOf (it 0 d)).natAbs (intOf (it 1 d)).natAbs = 1))) (ev_p (p_callP (ps := [IsE K (it 0 d)]) (q_cons (p_var rfl n1) q_nil) ⟨_, _, to_idE, s0, rfl, rfl⟩)) fun k0 =>
      ev_andV (ev_p (p_callP (ps := [IsE K (it 1 d)]) (q_cons (p_var rfl n2) q_nil) ⟨_, _, to_idE, s1, rfl, rfl⟩)) fun k1 => ev_andV (ev_op (ev_inE (K := K) (p_var (p := IsE K (.int (intOf (it 1 d)))) rfl (by rw [← wholeB_ex k1]; exact n2))) ev_c rv_I0) fun _ => ev_is (ev_op (ev_gcd (ev_inE (K := K) (p_var (p := IsE K (.int (intOf (it 0 d)))) rfl (by rw [← wholeB_ex k0]; exact n1))) (ev_inE (K := K) (p_var (p := IsE K (.int (intOf (it 1 d)))) rfl (by rw [← wholeB_ex k1]; exact n2)))) ev_c (rv_eq rfl)) ?_) (by rw [ed]))) fun v B3 H3 g hp => q v B3 H3 (((Gr.wide eB e1).trans g2).trans g) hp
    refine congrArg V.bl ?_
    apply decide_eq_decide.mpr
    constructor
    · intro z
      have := V.int.inj z
      omega
    · intro z
      rw [z]
      rfl

/-- _is_powered -/
abbrev s__is_powered : Stmt := topS 34
abbrev N__is_powered : List Str := ["thing", "derivative", "power"]
theorem sc__is_powered : FnScope N__is_powered ["thing"] (defScope s__is_powered) := ⟨rfl, rfl, rfl, by decide +kernel, rfl, by decide +kernel, by decide +kernel⟩
theorem ok__is_powered {f : Addr} {fd : FuncData} (F : Fun K "_is_powered" "_is_powered" s__is_powered f fd)  {f_is_derivative : Addr} {d_is_derivative : FuncData} (c_is_derivative : Cal P w K mg base "is_derivative" 3 ["thing"] (spP (RBE K dvB)) f_is_derivative d_is_derivative) {f_is_whole : Addr} {d_is_whole : FuncData} (c_is_whole : Cal P w K mg base "is_whole" 2 ["thing"] (spP (RBE K wholeB)) f_is_whole d_is_whole) (n_isinstance : mg "isinstance" = none) (n_tuple : mg "tuple" = none) (n_len : mg "len" = none)  :
    FnOk P w K mg base CX0 4 f fd ["thing"] (spP (RBE K pwB)) := by
  refine F.ok sc__is_powered (spP_len (by rintro _ _ ⟨_, _, _, _, rfl, rfl⟩; rfl)) (fun cdv A outer s H vs Q E hr h => ?_)
  obtain ⟨B, ps, p, eB, hv, ⟨qd, d, tq, hs, rfl, rfl⟩, q⟩ := h
  obtain ⟨v, rfl, h1⟩ := all1 hv
  have hu := hu_of hr
  refine ⟨_, (pss_cons (ps_if (PW.pt (pw_or (pt_not (pt_val (pe_callB call_isi (by rfl) n_isinstance (by decide +kernel) (pa_cons (pv 0) (pa_cons (pe_bltn (v := .ty "tuple") (u := .type "tuple") (by rfl) n_tuple (by decide +kernel) rfl) pa_nil))))) (pw_or1 (pt_cmpR op_ne (pe_callB call_len_seq (by rfl) n_len (by decide +kernel) (pa_cons (pv 0) pa_nil)) pe_int (nomark _))))) (pss_one (ps_ret pe_bl)) pss_nil)
    (pss_cons (ps_asg (pv 0) (pg_tup (by rfl) (pgs_cons (pg_name (i := 1) sc__is_powered.nd rfl (by first | exact .inl rfl | exact .inr rfl)) (pgs_cons (pg_name (i := 2) sc__is_powered.nd rfl (by first | exact .inl rfl | exact .inr rfl)) pgs_nil))))
    (pss_one (ps_ret (pe_and (pe_call c_is_derivative.G (hr.mono (by decide)) (by rfl) c_is_derivative.m c_is_derivative.k c_is_derivative.b .nil pass0 (pa_cons (pv 1) pa_nil)) (pe_and (pe_call c_is_whole.G (hr.mono (by decide)) (by rfl) c_is_whole.m c_is_whole.k c_is_whole.b .nil pass0 (pa_cons (pv 2) pa_nil)) (pe_one (pe_cmpR op_gt (pv 2) pe_int (nomark _))))))))), ?_⟩
  have hd : De K B v d := tq _ _ h1
  cases ht : tupN 2 d with
  | false =>
    refine ps_ifT eB (et_is (et_tupNE (n := 2) (p_var (p := IsE K d) rfl hd)) (by rw [ht]; rfl)) fun H1 e1 => ?_
    refine My.ps_ret (eB.trans e1) (p_c (v := .bl false)) fun v B1 H2 g hp => q v B1 H2 ((Gr.wide eB e1).trans g) ?_
    rw [show pwB d = false from by unfold pwB; rw [ht]; rfl]
    exact hp
  | true =>
    refine ps_ifN eB (et_is (et_tupNE (n := 2) (p_var (p := IsE K d) rfl hd)) (by rw [ht]; rfl)) fun H1 e1 => ?_
    dsimp only
    have s0 := smd_it hs 0
    have s1 := smd_it hs 1
    have ed : pwB d = (dvB (it 0 d) && (wholeB (it 1 d) && decide (0 < intOf (it 1 d)))) := by unfold pwB; rw [ht]; rfl
    refine ps_un2 (K := K) (p := IsE K (it 0 d)) (q := IsE K (it 1 d)) (eB.trans e1) (p_var (p := TuP K [IsE K (it 0 d), IsE K (it 1 d)]) rfl (by rw [tpl2 ht] at hd; exact tu_e hd)) fun w1 w2 B2 H2 g2 n1 n2 => ?_
    dsimp only
    refine My.ps_ret g2.c (p_ev (v := .bl (pwB d)) (ev_is (ev_andV (a := dvB (it 0 d)) (b := wholeB (it 1 d) && decide (0 < intOf (it 1 d))) (ev_p (p_callP (ps := [IsE K (it 0 d)]) (q_cons (p_var rfl n1) q_nil) ⟨_, _, to_idE, s0, rfl, rfl⟩)) fun k0 =>
      ev_andV (ev_p (p_callP (ps := [IsE K (it 1 d)]) (q_cons (p_var rfl n2) q_nil) ⟨_, _, to_idE, s1, rfl, rfl⟩)) fun k1 => ev_op (ev_inE (K := K) (p_var (p := IsE K (.int (intOf (it 1 d)))) rfl (by rw [← wholeB_ex k1]; exact n2))) ev_c rv_I0) (by rw [ed]))) fun v B3 H3 g hp => q v B3 H3 (((Gr.wide eB e1).trans g2).trans g) hp

/-- is_monomial -/
abbrev s_is_monomial : Stmt := topS 33
abbrev N_is_monomial : List Str := ["thing", "ahead", "pair"]
theorem sc_is_monomial : FnScope N_is_monomial ["thing"] (defScope s_is_monomial) := ⟨rfl, rfl, rfl, by decide +kernel, rfl, by decide +kernel, by decide +kernel⟩
theorem ok_is_monomial {f : Addr} {fd : FuncData} (F : Fun K "is_monomial" "is_monomial" s_is_monomial f fd)  {f__is_powered : Addr} {d__is_powered : FuncData} (c__is_powered : Cal P w K mg base "_is_powered" 4 ["thing"] (spP (RBE K pwB)) f__is_powered d__is_powered) (n_isinstance : mg "isinstance" = none) (n_tuple : mg "tuple" = none)  :
    FnOk P w K mg base CX0 5 f fd ["thing"] (spP (RBE K moB)) := by
  refine F.ok sc_is_monomial (spP_len (by rintro _ _ ⟨_, _, _, _, rfl, rfl⟩; rfl)) (fun cdv A outer s H vs Q E hr h => ?_)
  obtain ⟨B, ps, p, eB, hv, ⟨qd, d, tq, hs, rfl, rfl⟩, q⟩ := h
  obtain ⟨v, rfl, h1⟩ := all1 hv
  have hu := hu_of hr
  refine ⟨_, (pss_cons (ps_if (pt_not (pt_val (pe_callB call_isi (by rfl) n_isinstance (by decide +kernel) (pa_cons (pv 0) (pa_cons (pe_bltn (v := .ty "tuple") (u := .type "tuple") (by rfl) n_tuple (by decide +kernel) rfl) pa_nil))))) (pss_one (ps_ret pe_bl)) pss_nil)
    (pss_cons (ps_set (i := 1) sc_is_monomial.nd rfl (by first | exact .inl rfl | exact .inr rfl) pe_non)
    (pss_cons (ps_for PassesOwn.never rfl (pi_tup (pv 0)) (pg_name (i := 2) sc_is_monomial.nd rfl (by first | exact .inl rfl | exact .inr rfl))
      (pss_cons (ps_if (PW.pt (pw_or (pt_not (pt_val (pe_call c__is_powered.G (hr.mono (by decide)) (by rfl) c__is_powered.m c__is_powered.k c__is_powered.b .nil pass0 (pa_cons (pv 2) pa_nil)))) (pw_or1 (PW.pt (pw_and (pt_cmpR op_notN (pv 1) pe_non (nomark _)) (pw_and1 (pt_cmpR (op_leD (by have h := hr.un; show (A.deeper _).units + 65 < cLine; omega)) (pe_ix ix_tup (pv 2) pe_int (fun _ _ => rfl)) (pv 1) (nomark _)))))))) (pss_one (ps_ret pe_bl)) pss_nil)
    (pss_one (ps_set (i := 1) sc_is_monomial.nd rfl (by first | exact .inl rfl | exact .inr rfl) (pe_ix ix_tup (pv 2) pe_int (fun _ _ => rfl))))))
    (pss_one (ps_ret pe_bl))))), ?_⟩
  have hd : De K B v d := tq _ _ h1
  by_cases hx : ∃ xs, d = .tuple xs
  rotate_left
  · have hn : isTu d = false ∧ moB d = false := by cases d <;> first | exact ⟨rfl, rfl⟩ | exact absurd ⟨_, rfl⟩ hx
    refine ps_ifT eB (et_is (et_not (et_test (ev_isTuE (p_var (p := IsE K d) rfl hd)))) (by rw [hn.1]; rfl)) fun H1 e1 => ?_
    refine My.ps_ret (eB.trans e1) (p_c (v := .bl false)) fun v B1 H2 g hp => q v B1 H2 ((Gr.wide eB e1).trans g) ?_
    rw [hn.2]
    exact hp
  obtain ⟨xs, rfl⟩ := hx
  refine ps_ifN eB (et_is (et_not (et_test (ev_isTuE (p_var (p := IsE K (.tuple xs)) rfl hd)))) rfl) fun H1 e1 => ?_
  dsimp only
  refine ps_asgN (fun x => [some v, some x, none]) (eB.trans e1) (p_c (v := .non)) (fun x B2 H2 g2 hx => ?_) (fun _ => rfl)
  obtain rfl : x = .non := hx
  dsimp only
  refine ps_forS g2.c (src_tu (p_var rfl (tu_e (de_m g2.b hd)))) fun B3 H3 g3 => ?_
  refine ⟨fun i σ H4 => ∃ B4, Gr B3 H3 B4 H4 ∧ ∃ x y ah, σ = [some v, some y, x] ∧ AhP K ah y B4 ∧ (∀ a, ah = some a → ∃ u : Dv, a = u.D) ∧ chainB pwB none xs = chainB pwB ah (xs.drop i), ⟨B3, Gr.refl g3.c, none, .non, none, rfl, .inl ⟨rfl, rfl⟩, (fun _ z => nomatch z), rfl⟩, fun i σ H4 _ h => ?_, fun i v2 σ H4 hi pv px => ?_, fun σ H4 pv => ?_⟩
  · obtain ⟨B4, g4, _⟩ := h
    exact g4.b.trans g4.c
  · obtain ⟨B4, g4, x, y, ah, rfl, ha, hu, hc⟩ := pv
    rw [List.length_map] at hi
    rw [getD_map hi] at px
    have px4 := de_m g4.b (show De K B3 v2 xs[i] from px)
    have sx := smd_tu hs xs[i] (List.getElem_mem hi)
    rw [List.drop_eq_getElem_cons hi, chainB] at hc
    have one : Ev (tCall (spP (RBE K pwB)) [] E0 (tCons (tVar 2) tNil)) [some v, some y, some v2] B4 (.bl (pwB xs[i])) := ev_p (p_callP (ps := [IsE K xs[i]]) (q_cons (p_var rfl px4) q_nil) ⟨_, _, to_idE, sx, rfl, rfl⟩)
    cases hp : pwB xs[i] with
    | false =>
      refine ps_ifT g4.c (et_is (et_or (a := true) (b := true) (et_is (et_not (et_test one)) (by rw [hp]; rfl)) fun z => nomatch z) rfl) fun H5 e5 => ?_
      refine My.ps_ret (g4.c.trans e5) (p_c (v := .bl false)) fun v5 B5 H5 g5 hv5 => q v5 B5 H5 ((((Gr.wide eB e1).trans g2).trans (g3.trans (g4.trans (Gr.wide g4.c e5)))).trans g5) ?_
      rw [show moB (.tuple xs) = false from by show chainB pwB none xs = false; rw [hc, hp]; rfl]
      exact hv5
    | true =>
      obtain ⟨z, hz, hz1, hz2⟩ := pwB_ex hp
      have p0 : EvP (tVar 2) [some v, some y, some v2] B4 (TuP K [IsD K z.1.D, IsD K (.int z.2)]) := p_var rfl (tu_d (ds := [z.1.D, .int z.2]) (de_dp (by rw [hz] at px4; exact px4) (nd_pw z)))
      have test := et_ah (K := K) (d := z.1.D) (σ := [some v, some y, some v2]) (i := 1) rfl ha (p_ixT p0 (p_c (v := .int 0)) rfl) (fun a ea => by obtain ⟨u, rfl⟩ := hu a ea; exact alike_dv _ _) (fun z => nomatch z) (by rw [deep_dv]; omega)
      have ei : it 0 xs[i] = z.1.D := by rw [hz]; rfl
      cases hb : ah.all fun a => dataLt a z.1.D with
      | false =>
        refine ps_ifT g4.c (et_is (et_or (a := false) (b := true) (et_is (et_not (et_test one)) (by rw [hp]; rfl)) fun _ => et_is test (by rw [hb]; rfl)) rfl) fun H5 e5 => ?_
        refine My.ps_ret (g4.c.trans e5) (p_c (v := .bl false)) fun v5 B5 H5 g5 hv5 => q v5 B5 H5 ((((Gr.wide eB e1).trans g2).trans (g3.trans (g4.trans (Gr.wide g4.c e5)))).trans g5) ?_
        rw [show moB (.tuple xs) = false from by show chainB pwB none xs = false; rw [hc, hp, ei, hb]; rfl]
        exact hv5
      | true =>
        refine ps_ifN g4.c (et_is (et_or (a := false) (b := false) (et_is (et_not (et_test one)) (by rw [hp]; rfl)) fun _ => et_is test (by rw [hb]; rfl)) rfl) fun H5 e5 => ?_
        dsimp only
        refine ps_asgN (fun x => [some v, some x, some v2]) (g4.c.trans e5) (p_ixT (K := K) (p := IsD K z.1.D) p0 p_c rfl) (fun x6 B6 H6 g6 hx6 => ?_) (fun _ => rfl)
        refine ⟨B6, (g4.trans (Gr.wide g4.c e5)).trans g6, some v2, x6, some z.1.D, rfl, .inr ⟨_, rfl, hx6, _, rfl⟩, (fun a ea => by cases ea; exact ⟨_, rfl⟩), ?_⟩
        rw [hc, hp, ei, hb]
        rfl
  · obtain ⟨B4, g4, x, y, ah, rfl, ha, hu, hc⟩ := pv
    dsimp only
    refine My.ps_ret g4.c (p_c (v := .bl true)) fun v5 B5 H5 g5 hp => ?_
    refine q v5 B5 H5 ((((Gr.wide eB e1).trans g2).trans (g3.trans g4)).trans g5) ?_
    rw [show moB (.tuple xs) = true from by show chainB pwB none xs = true; rw [hc, List.drop_eq_nil_of_le (by rw [List.length_map]; exact Nat.le_refl _)]; rfl]
    exact hp

/-- _is_term -/
abbrev s__is_term : Stmt := topS 35
abbrev N__is_term : List Str := ["thing", "monomial", "number"]
theorem sc__is_term : FnScope N__is_term ["thing"] (defScope s__is_term) := ⟨rfl, rfl, rfl, by decide +kernel, rfl, by decide +kernel, by decide +kernel⟩
theorem ok__is_term {f : Addr} {fd : FuncData} (F : Fun K "_is_term" "_is_term" s__is_term f fd)  {f_is_monomial : Addr} {d_is_monomial : FuncData} (c_is_monomial : Cal P w K mg base "is_monomial" 5 ["thing"] (spP (RBE K moB)) f_is_monomial d_is_monomial) {f_is_fraction : Addr} {d_is_fraction : FuncData} (c_is_fraction : Cal P w K mg base "is_fraction" 3 ["thing"] (spP (RBE K frB)) f_is_fraction d_is_fraction) (n_isinstance : mg "isinstance" = none) (n_tuple : mg "tuple" = none) (n_len : mg "len" = none)  :
    FnOk P w K mg base CX0 6 f fd ["thing"] (spP (RBE K tmB)) := by
  refine F.ok sc__is_term (spP_len (by rintro _ _ ⟨_, _, _, _, rfl, rfl⟩; rfl)) (fun cdv A outer s H vs Q E hr h => ?_)
  obtain ⟨B, ps, p, eB, hv, ⟨qd, d, tq, hs, rfl, rfl⟩, q⟩ := h
  obtain ⟨v, rfl, h1⟩ := all1 hv
  have hu := hu_of hr
  refine ⟨_, (pss_cons (ps_if (PW.pt (pw_or (pt_not (pt_val (pe_callB call_isi (by rfl) n_isinstance (by decide +kernel) (pa_cons (pv 0) (pa_cons (pe_bltn (v := .ty "tuple") (u := .type "tuple") (by rfl) n_tuple (by decide +kernel) rfl) pa_nil))))) (pw_or1 (pt_cmpR op_ne (pe_callB call_len_seq (by rfl) n_len (by decide +kernel) (pa_cons (pv 0) pa_nil)) pe_int (nomark _))))) (pss_one (ps_ret pe_bl)) pss_nil)
    (pss_cons (ps_asg (pv 0) (pg_tup (by rfl) (pgs_cons (pg_name (i := 1) sc__is_term.nd rfl (by first | exact .inl rfl | exact .inr rfl)) (pgs_cons (pg_name (i := 2) sc__is_term.nd rfl (by first | exact .inl rfl | exact .inr rfl)) pgs_nil))))
    (pss_one (ps_ret (pe_and (pe_call c_is_monomial.G (hr.mono (by decide)) (by rfl) c_is_monomial.m c_is_monomial.k c_is_monomial.b .nil pass0 (pa_cons (pv 1) pa_nil)) (pe_and (pe_call c_is_fraction.G (hr.mono (by decide)) (by rfl) c_is_fraction.m c_is_fraction.k c_is_fraction.b .nil pass0 (pa_cons (pv 2) pa_nil)) (pe_one (pe_cmpR op_ne (pe_ix ix_tup (pv 2) pe_int (fun _ _ => rfl)) pe_int (nomark _))))))))), ?_⟩
  have hd : De K B v d := tq _ _ h1
  cases ht : tupN 2 d with
  | false =>
    refine ps_ifT eB (et_is (et_tupNE (n := 2) (p_var (p := IsE K d) rfl hd)) (by rw [ht]; rfl)) fun H1 e1 => ?_
    refine My.ps_ret (eB.trans e1) (p_c (v := .bl false)) fun v B1 H2 g hp => q v B1 H2 ((Gr.wide eB e1).trans g) ?_
    rw [show tmB d = false from by unfold tmB; rw [ht]; rfl]
    exact hp
  | true =>
    refine ps_ifN eB (et_is (et_tupNE (n := 2) (p_var (p := IsE K d) rfl hd)) (by rw [ht]; rfl)) fun H1 e1 => ?_
    dsimp only
    have s0 := smd_it hs 0
    have s1 := smd_it hs 1
    have ed : tmB d = (moB (it 0 d) && (frB (it 1 d) && !decide (intOf (it 0 (it 1 d)) = 0))) := by unfold tmB; rw [ht]; rfl
    refine ps_un2 (K := K) (p := IsE K (it 0 d)) (q := IsE K (it 1 d)) (eB.trans e1) (p_var (p := TuP K [IsE K (it 0 d), IsE K (it 1 d)]) rfl (by rw [tpl2 ht] at hd; exact tu_e hd)) fun w1 w2 B2 H2 g2 n1 n2 => ?_
    dsimp only
    refine My.ps_ret g2.c (p_ev (v := .bl (tmB d)) (ev_is (ev_andV (a := moB (it 0 d)) (b := frB (it 1 d) && !decide (intOf (it 0 (it 1 d)) = 0)) (ev_p (p_callP (ps := [IsE K (it 0 d)]) (q_cons (p_var rfl n1) q_nil) ⟨_, _, to_idE, s0, rfl, rfl⟩)) fun k0 =>
      ev_andV (ev_p (p_callP (ps := [IsE K (it 1 d)]) (q_cons (p_var rfl n2) q_nil) ⟨_, _, to_idE, s1, rfl, rfl⟩)) fun k1 => ?_) (by rw [ed]))) fun v B3 H3 g hp => q v B3 H3 (((Gr.wide eB e1).trans g2).trans g) hp
    obtain ⟨f, hf, _⟩ := frB_ex k1
    rw [hf] at n2 ⊢
    refine ev_is (ev_op (ev_inE (K := K) (p_ixT (K := K) (p := IsE K (.int f.1)) (p_var (p := TuP K [IsE K (.int f.1), IsE K (.int f.2)]) rfl (tu_e (ds := [.int f.1, .int f.2]) n2)) p_c rfl)) ev_c (rv_ne rfl)) ?_
    show V.bl (!decide (V.int f.1 = V.int 0)) = V.bl (!decide (f.1 = 0))
    by_cases z : f.1 = 0 <;> simp [z]

/-- need_polynomial -/
abbrev s_need_polynomial : Stmt := topS 36
abbrev N_need_polynomial : List Str := ["thing", "ahead", "number", "pair"]
theorem sc_need_polynomial : FnScope N_need_polynomial ["thing"] (defScope s_need_polynomial) := ⟨rfl, rfl, rfl, by decide +kernel, rfl, by decide +kernel, by decide +kernel⟩
def poO (C : Addr) : Option (Option Nat) → Out
  | none => .ret (IsV .non)
  | some none => .exc C [("number", IsV .non)]
  | some (some n) => .exc C [("number", IsV (.int (n : Nat)))]
def RpoO (K : PySem.W.Frag) (C : Addr) : List Pr → Out → Prop := fun ps o => ∃ (qd : Pr) (d : PyData), ToE K qd d ∧ smB d = true ∧ ps = [qd] ∧ o = poO C (poAt d)
theorem ok_need_polynomial {f : Addr} {fd : FuncData} (F : Fun K "need_polynomial" "need_polynomial" s_need_polynomial f fd)  {f__is_term : Addr} {d__is_term : FuncData} (c__is_term : Cal P w K mg base "_is_term" 6 ["thing"] (spP (RBE K tmB)) f__is_term d__is_term) (n_isinstance : mg "isinstance" = none) (n_tuple : mg "tuple" = none) (n_enumerate : mg "enumerate" = none) {aBP i_BP : Addr} {d_BP : FuncData} {gZ_BP : List Value → List Value → List Value} (R_BP : RP P w K mg base "BadPolynomial" aBP "number" i_BP d_BP gZ_BP) :
    FnOk P w K mg base (L2.CX P w) 7 f fd ["thing"] (spO (RpoO K aBP)) := by
  refine F.okX sc_need_polynomial (spO_len (by rintro _ _ ⟨_, _, _, _, rfl, rfl⟩; rfl)) (fun cdv A outer s H vs Q E hr h => ?_)
  obtain ⟨B, ps, o, eB, hv, ⟨qd, d, tq, hs, rfl, rfl⟩, q⟩ := h
  obtain ⟨v, rfl, h1⟩ := all1 hv
  have hu := hu_of hr
  have tk : Takes (cxOf (L2.CX P w) P w K mg base N_need_polynomial "need_polynomial" (defScope s_need_polynomial) f cdv A outer s H E) (fun cls d _ H => E cls d H) := L2.takes_of rfl rfl rfl rfl
  refine ⟨_, (pss_cons (ps_if (pt_not (pt_val (pe_callB call_isi (by rfl) n_isinstance (by decide +kernel) (pa_cons (pv 0) (pa_cons (pe_bltn (v := .ty "tuple") (u := .type "tuple") (by rfl) n_tuple (by decide +kernel) rfl) pa_nil))))) (pss_one (ps_raiseZ R_BP rfl rfl tk (hr.mono (by decide)) (by rfl))) pss_nil)
    (pss_cons (ps_set (i := 1) sc_need_polynomial.nd rfl (by first | exact .inl rfl | exact .inr rfl) pe_non)
    (pss_one (ps_for (L2.passes_of rfl) rfl (pi_enumT (by rfl) n_enumerate (pa_cons (pv 0) pa_nil)) (pg_tup (by rfl) (pgs_cons (pg_name (i := 2) sc_need_polynomial.nd rfl (by first | exact .inl rfl | exact .inr rfl)) (pgs_cons (pg_name (i := 3) sc_need_polynomial.nd rfl (by first | exact .inl rfl | exact .inr rfl)) pgs_nil)))
      (pss_cons (ps_if (PW.pt (pw_or (pt_not (pt_val (pe_call c__is_term.G (hr.mono (by decide)) (by rfl) c__is_term.m c__is_term.k c__is_term.b .nil pass0 (pa_cons (pv 3) pa_nil)))) (pw_or1 (PW.pt (pw_and (pt_cmpR op_notN (pv 1) pe_non (nomark _)) (pw_and1 (pt_cmpR (op_leD (by have h := hr.un; show (A.deeper _).units + 65 < cLine; omega)) (pe_ix ix_tup (pv 3) pe_int (fun _ _ => rfl)) (pv 1) (nomark _)))))))) (pss_one (ps_raiseP R_BP rfl rfl tk (hr.mono (by decide)) (by rfl) (pa_cons (pv 2) pa_nil))) pss_nil)
    (pss_one (ps_set (i := 1) sc_need_polynomial.nd rfl (by first | exact .inl rfl | exact .inr rfl) (pe_ix ix_tup (pv 3) pe_int (fun _ _ => rfl))))))))), ?_⟩
  have hd : De K B v d := tq _ _ h1
  by_cases hx : ∃ xs, d = .tuple xs
  rotate_left
  · have hn : isTu d = false ∧ poAt d = some none := by cases d <;> first | exact ⟨rfl, rfl⟩ | exact absurd ⟨_, rfl⟩ hx
    refine ps_ifT eB (et_is (et_not (et_test (ev_isTuE (p_var (p := IsE K d) rfl hd)))) (by rw [hn.1]; rfl)) fun H1 e1 => ?_
    rw [hn.2] at q
    exact x_rsZ (W := fun cls d _ H => E cls d H) R_BP.rc.r (eB.trans e1) e1 fun d2 B2 H2 g hd => q d2 B2 H2 ((Gr.wide eB e1).trans g) hd
  obtain ⟨xs, rfl⟩ := hx
  have q : OutOk (poO aBP ((chainAt tmB 0 none xs).map some)) B H Q E := q
  refine ps_ifN eB (et_is (et_not (et_test (ev_isTuE (p_var (p := IsE K (.tuple xs)) rfl hd)))) rfl) fun H1 e1 => ?_
  dsimp only
  refine ps_asgN (fun x => [some v, some x, none, none]) (eB.trans e1) (p_c (v := .non)) (fun x B2 H2 g2 hx => ?_) (fun _ => rfl)
  obtain rfl : x = .non := hx
  dsimp only
  refine ps_forE g2.c (src_enT (K := K) (ps := xs.map (IsE K)) (q_cons (p_var rfl (tu_e (de_m g2.b hd))) q_nil)) fun B3 H3 g3 => ?_
  refine ⟨fun i σ H4 => ∃ B4, Gr B3 H3 B4 H4 ∧ ∃ n x y ah, σ = [some v, some y, n, x] ∧ AhP K ah y B4 ∧ (∀ a, ah = some a → ∃ m : Mo, a = moD m) ∧ chainAt tmB 0 none xs = chainAt tmB i ah (xs.drop i), ⟨B3, Gr.refl g3.c, none, none, .non, none, rfl, .inl ⟨rfl, rfl⟩, (fun _ z => nomatch z), rfl⟩, fun i σ H4 _ h => ?_, fun i v2 T σ H4 hi pv px hT => ?_, fun σ H4 pv => ?_⟩
  · obtain ⟨B4, g4, _⟩ := h
    exact g4.b.trans g4.c
  · obtain ⟨B4, g4, n, x, y, ah, rfl, ha, hu, hc⟩ := pv
    rw [List.length_map] at hi
    rw [getD_map hi] at px
    have px4 := de_m g4.b (show De K B3 v2 xs[i] from px)
    have sx := smd_tu hs xs[i] (List.getElem_mem hi)
    rw [List.drop_eq_getElem_cons hi, chainAt] at hc
    refine ⟨T, _, rfl, st_of upd_same, rfl, _, _, rfl, _, _, rfl, rfl, ?_⟩
    have g5 := g4.trans (Gr.wide g4.c (Ex.new (o := .tup [.int (i : Nat), v2]) hT))
    have gs := ((Gr.wide eB e1).trans g2).trans (g3.trans g5)
    dsimp only
    have one : Ev (tCall (spP (RBE K tmB)) [] E0 (tCons (tVar 3) tNil)) [some v, some y, some (.int (i : Nat)), some v2] B4 (.bl (tmB xs[i])) := ev_p (p_callP (ps := [IsE K xs[i]]) (q_cons (p_var rfl px4) q_nil) ⟨_, _, to_idE, sx, rfl, rfl⟩)
    have bad : ∀ (X5 : Cx), Raises X5 (.ref aBP) → ∀ (H5 : Hp) (e5 : Ex _ H5), (tmB xs[i] && (ah.all fun a => dataLt a (it 0 xs[i]))) = false → _ := fun X5 r5 H5 e5 hf => x_rsP (X := X5) (C := aBP) (f := "number") (W := fun cls d _ H => E cls d H) (σ := [some v, some y, some (.int (i : Nat)), some v2]) (t := tCons (tVar 2) tNil) (p := IsV (.int (i : Nat))) r5 (g5.c.trans e5) (gs.a.trans e5) (q_cons (p_varV rfl) q_nil) fun d2 B2 H2 g hd => by
      rw [hc, if_neg (by rw [hf]; exact Bool.false_ne_true)] at q
      exact q d2 B2 H2 ((gs.trans (Gr.wide g5.c e5)).trans g) hd
    cases hp : tmB xs[i] with
    | false =>
      refine ps_ifT g5.c (et_is (et_or (a := true) (b := true) (et_is (et_not (et_test one)) (by rw [hp]; rfl)) fun z => nomatch z) rfl) fun H5 e5 => ?_
      exact bad _ R_BP.rc.r H5 e5 (by rw [hp]; rfl)
    | true =>
      obtain ⟨w1, w2, hz⟩ : ∃ w1 w2, xs[i] = .tuple [w1, w2] := ⟨_, _, tpl2 (by unfold tmB at hp; exact (Bool.and_eq_true_iff.mp hp).1)⟩
      have ei : it 0 xs[i] = w1 := by rw [hz]; rfl
      obtain ⟨m, hm⟩ : ∃ m : Mo, w1 = moD m := by
        rw [← ei]
        unfold tmB at hp
        simp only [Bool.and_eq_true] at hp
        exact moB_ex hp.2.1
      subst hm
      have p0 : EvP (tVar 3) [some v, some y, some (.int (i : Nat)), some v2] B4 (TuP K [IsD K (moD m), IsE K w2]) := p_var rfl (tu_1D (by rw [hz] at px4; exact px4) (nd_mo m))
      have test := et_ah (K := K) (d := moD m) (σ := [some v, some y, some (.int (i : Nat)), some v2]) (i := 1) rfl ha (p_ixT p0 (p_c (v := .int 0)) rfl) (fun a ea => by obtain ⟨u, rfl⟩ := hu a ea; exact alike_mo _ _) (fun z => nomatch z) (by have := deep_mo m; omega)
      cases hb : ah.all fun a => dataLt a (moD m) with
      | false =>
        refine ps_ifT g5.c (et_is (et_or (a := false) (b := true) (et_is (et_not (et_test one)) (by rw [hp]; rfl)) fun _ => et_is test (by rw [hb]; rfl)) rfl) fun H5 e5 => ?_
        exact bad _ R_BP.rc.r H5 e5 (by rw [ei, hb, Bool.and_false])
      | true =>
        refine ps_ifN g5.c (et_is (et_or (a := false) (b := false) (et_is (et_not (et_test one)) (by rw [hp]; rfl)) fun _ => et_is test (by rw [hb]; rfl)) rfl) fun H5 e5 => ?_
        dsimp only
        refine ps_asgN (fun x => [some v, some x, some (.int (i : Nat)), some v2]) (g5.c.trans e5) (p_ixT (K := K) (p := IsD K (moD m)) p0 p_c rfl) (fun x6 B6 H6 g6 hx6 => ?_) (fun _ => rfl)
        refine ⟨B6, (g5.trans (Gr.wide g5.c e5)).trans g6, some (.int (i : Nat)), some v2, x6, some (moD m), rfl, .inr ⟨_, rfl, hx6, _, rfl⟩, (fun a ea => by cases ea; exact ⟨_, rfl⟩), ?_⟩
        rw [hc, if_pos (by rw [hp, ei, hb]; rfl), ei]
  · obtain ⟨B4, g4, n, x, y, ah, rfl, ha, hu, hc⟩ := pv
    rw [hc, List.drop_eq_nil_of_le (by rw [List.length_map]; exact Nat.le_refl _)] at q
    exact q .non B4 H4 (((Gr.wide eB e1).trans g2).trans (g3.trans g4)) rfl

/-- is_polynomial -/
abbrev s_is_polynomial : Stmt := topS 37
abbrev N_is_polynomial : List Str := ["thing"]
theorem sc_is_polynomial : FnScope N_is_polynomial ["thing"] (defScope s_is_polynomial) := ⟨rfl, rfl, rfl, by decide +kernel, rfl, by decide +kernel, by decide +kernel⟩
theorem ok_is_polynomial {f : Addr} {fd : FuncData} (F : Fun K "is_polynomial" "is_polynomial" s_is_polynomial f fd) {aBP : Addr} {f_need_polynomial : Addr} {d_need_polynomial : FuncData} (c_need_polynomial : CalX P w K mg base "need_polynomial" 7 ["thing"] (spO (RpoO K aBP)) f_need_polynomial d_need_polynomial)  (g_BadPolynomial : mg "BadPolynomial" = some (.ref aBP)) (x_BP : PySem.W.exmOne K (.ref aBP) (.ref aBP) = some true) :
    FnOk P w K mg base CX0 8 f fd ["thing"] (spP (RBE K poB)) := by
  refine F.ok sc_is_polynomial (spP_len (by rintro _ _ ⟨_, _, _, _, rfl, rfl⟩; rfl)) (fun cdv A outer s H vs Q E hr h => ?_)
  obtain ⟨B, ps, p, eB, hv, ⟨qd, d, tq, hs, rfl, rfl⟩, q⟩ := h
  obtain ⟨v, rfl, h1⟩ := all1 hv
  have hu := hu_of hr
  refine ⟨_, (pss_cons (ps_try_only (tb := fun W => tDrop (tCallS (spO (RpoO K aBP)) (WE W) (tCons (tVar 0) tNil))) (ts := fun _ _ _ => tRet (tC (.bl false))) (Wout := fun _ _ _ _ => False) rfl rfl ⟨rfl, by decide, Or.inl g_BadPolynomial⟩ L2.takes0 (fun W pn xe tk _ => pss_one (ps_expr (pe_callS c_need_polynomial.G (hr.mono (by decide)) (by rfl) c_need_polynomial.m c_need_polynomial.k c_need_polynomial.b (fun σ => passAt tk σ) (pa_cons (pv 0) pa_nil)))) (fun _ _ _ _ _ _ _ => pss_one (ps_ret pe_bl)))
    (pss_one (ps_ret pe_bl))), ?_⟩
  cases hp : poAt d with
  | none =>
    refine o_call (E := WE _) eB (q_cons (p_var rfl h1) q_nil) ⟨qd, d, tq, hs, rfl, rfl⟩ ?_
    rw [hp]
    intro v1 B1 H1 g1 _
    dsimp only
    refine My.ps_ret g1.c (p_c (v := .bl true)) fun v5 B5 H5 g5 hv5 => q v5 B5 H5 (g1.trans g5) ?_
    rw [show poB d = true from by unfold poB; rw [hp]; rfl]
    exact hv5
  | some n =>
    refine o_call (E := WE _) eB (q_cons (p_var rfl h1) q_nil) ⟨qd, d, tq, hs, rfl, rfl⟩ ?_
    rw [hp]
    have fin : ∀ (B1 H1 : Hp), Gr B H B1 H1 → Q (.bl false) H1 := fun B1 H1 g1 => q _ B1 H1 g1 (by rw [show poB d = false from by unfold poB; rw [hp]; rfl]; rfl)
    cases n with
    | none => exact fun d2 B1 H1 g1 _ => ⟨true, x_BP, fun _ a _ => fin B1 H1 g1, fun z => nomatch z⟩
    | some n => exact fun d2 B1 H1 g1 _ => ⟨true, x_BP, fun _ a _ => fin B1 H1 g1, fun z => nomatch z⟩

end
end K12
namespace K12
set_option autoImplicit false
open PySem PySem.W L2 Evl My Nd
section
variable {P : Program} {w : World} {K : PySem.W.Frag} {mg : Str → Option Value} {base : Heap}




/-- derivatives_in -/
abbrev s_derivatives_in : Stmt := topS 38
abbrev N_derivatives_in : List Str := ["one", "found", "monomial", "_", "derivative"]
theorem sc_derivatives_in : FnScope N_derivatives_in ["one"] (defScope s_derivatives_in) := ⟨rfl, rfl, rfl, by decide +kernel, rfl, by decide +kernel, by decide +kernel⟩
theorem ok_derivatives_in {f : Addr} {fd : FuncData} (F : Fun K "derivatives_in" "derivatives_in" s_derivatives_in f fd)   (n_tuple : mg "tuple" = none) (n_sorted : mg "sorted" = none)  :
    FnOk P w K mg base CX0 1 f fd ["one"] (spP (Rdin K)) := by
  refine F.ok sc_derivatives_in (spP_len (by rintro _ _ ⟨c, _, rfl, rfl⟩; rfl)) (fun cdv A outer s H vs Q E hr h => ?_)
  obtain ⟨B, ps, p, eB, hv, ⟨c, hc, rfl, rfl⟩, q⟩ := h
  obtain ⟨v, rfl, h1⟩ := all1 hv
  have hu := hu_of hr
  refine ⟨_, (pss_cons (ps_set (i := 1) sc_derivatives_in.nd rfl (by first | exact .inl rfl | exact .inr rfl) pe_dnewN)
    (pss_cons (ps_for PassesOwn.never rfl (pi_tup (pv 0)) (pg_tup (by rfl) (pgs_cons (pg_name (i := 2) sc_derivatives_in.nd rfl (by first | exact .inl rfl | exact .inr rfl)) (pgs_cons (pg_name (i := 3) sc_derivatives_in.nd rfl (by first | exact .inl rfl | exact .inr rfl)) pgs_nil)))
      (pss_one (ps_for PassesOwn.never rfl (pi_tup (pv 2)) (pg_tup (by rfl) (pgs_cons (pg_name (i := 4) sc_derivatives_in.nd rfl (by first | exact .inl rfl | exact .inr rfl)) (pgs_cons (pg_name (i := 3) sc_derivatives_in.nd rfl (by first | exact .inl rfl | exact .inr rfl)) pgs_nil)))
      (pss_one (ps_dputN (by have h := hr.un; show (A.deeper _).units + 9 < cLine; omega) (pv 1) (pv 4) pe_bl rfl)))))
    (pss_one (ps_ret (pe_callTy call_tuple_of (by rfl) n_tuple (by decide +kernel) (pa_cons (pe_sortN hr (by rfl) n_sorted (pv 1)) pa_nil)))))), ?_⟩
  intro d hd
  have hBd : B d = none := fresh_back eB hd
  dsimp only
  refine ps_forV (Ex.mut eB hBd) rfl h1 ?_
  refine ⟨fun i σ H4 => Ex H H4 ∧ Ex B H4 ∧ ∃ xs, H4 d = some (DN P w d xs) ∧ KeyL ((dvs (c.take i)).foldl addD []) xs B ∧ ∃ x y z, σ = [some v, some (.ref d), x, y, z], ⟨Ex.new hd, Ex.mut eB hBd, [], upd_same, ⟨rfl, trivial⟩, none, none, none, rfl⟩, fun i σ H4 _ h => h.2.1, fun i v2 σ H4 hi pv px => ?_, fun σ H4 pv => ?_⟩
  · obtain ⟨x2, x1, xs, h4, kl, x, y, z, rfl⟩ := pv
    rw [List.length_map] at hi
    rw [getD_map hi] at px
    obtain ⟨p3, ys, rfl, hp3, al⟩ := px
    obtain ⟨y1, y2, rfl, m1, m2⟩ := all2 al
    refine ⟨p3, _, rfl, ex_t x1 hp3, rfl, _, _, rfl, _, _, rfl, rfl, ?_⟩
    refine ps_forV x1 rfl m1 ?_
    refine ⟨fun j σ H5 => Ex H H5 ∧ Ex B H5 ∧ ∃ xs, H5 d = some (DN P w d xs) ∧ KeyL ((dvs (c.take i) ++ (c[i].1.take j).map (·.1)).foldl addD []) xs B ∧ ∃ x y z, σ = [some v, some (.ref d), x, y, z], ⟨x2, x1, xs, h4, by simpa using kl, _, _, _, rfl⟩, fun j σ H5 _ h => h.2.1, fun j v3 σ H5 hj pv px => ?_, fun σ H5 pv => ?_⟩
    · obtain ⟨w2, w1, xs, h5, kl, x, y, z, rfl⟩ := pv
      rw [List.length_map] at hj
      rw [getD_map hj] at px
      obtain ⟨p4, zs, rfl, hp4, al4⟩ := px
      obtain ⟨z1, z2, rfl, n1, n2⟩ := all2 al4
      obtain ⟨a, rfl, ha⟩ := n1
      have n1 : (DvP (c[i].1[j]).1).P (.ref a) B := ⟨a, rfl, ha⟩
      refine ⟨p4, _, rfl, ex_t w1 hp4, rfl, _, _, rfl, _, _, rfl, rfl, ?_⟩
      have hb := fold_len (dvs (c.take i) ++ (c[i].1.take j).map (·.1)) []
      have hb2 := dvs_le hi j
      have hb3 := kl.len
      rw [List.length_nil, Nat.zero_add] at hb
      refine ⟨_, rfl, _, rfl, d, a, xs, nk (c[i].1[j]).1.D, rfl, rfl, h5, kl.ok w1, (key_dv n1).ex w1, by omega, ?_⟩
      refine ⟨Ex.mut w2 hd, Ex.mut w1 hBd, _, upd_same, ?_, _, _, _, rfl⟩
      have e : c[i].1.take (j + 1) = c[i].1.take j ++ [c[i].1[j]] := by
        rw [List.take_add_one, List.getElem?_eq_getElem hj]
        rfl
      rw [e, List.map_append, ← List.append_assoc, List.foldl_append]
      exact kl.put n1
    · obtain ⟨w2, w1, xs, h5, kl, x, y, z, rfl⟩ := pv
      rw [List.length_map, List.take_length] at kl
      refine ⟨w2, w1, xs, h5, ?_, _, _, _, rfl⟩
      rw [dvs_take hi]
      exact kl
  · obtain ⟨x2, x1, xs, h4, kl, x, y, z, rfl⟩ := pv
    rw [List.length_map, List.take_length] at kl
    have hn := kl.len
    have ka := kl.refs.m x1
    refine ⟨.ref d, rfl, d, xs, (dedD (dvs c)).map Dv.D, rfl, h4, by rw [List.length_map]; exact hn.symm, AllAlike.of fun u v => alike_dv u v, Sortable.tuples fun u => ⟨_, _, rfl⟩, fun e he => ?_, dps_dv ka, fun a ha => ⟨a, _, rfl, .inl ⟨sq_of upd_same, fun l hl => ?_⟩⟩⟩
    · obtain ⟨u, _, rfl⟩ := List.mem_map.mp he
      rw [deep_dv]
      decide
    · have e5 : Ex H (upd H4 a (.lst (byKey (xs.map fun x => V.ref x.2.1) ((dedD (dvs c)).map Dv.D)))) := x2.trans (Ex.new ha)
      exact q (.ref l) _ _ ((Gr.wide eB e5).trans (Gr.new (.tup (byKey (xs.map fun x => V.ref x.2.1) ((dedD (dvs c)).map Dv.D))) (eB.trans e5) hl)) ⟨l, _, rfl, st_of upd_same, (byKey_dv kl.refs).m (Ex.new (fresh_back (eB.trans e5) hl))⟩

end
end K12
namespace K12
set_option autoImplicit false
open PySem PySem.W L2 Evl My Nd
theorem in_len {c : Po} (h : (dvs c).length ≤ 1000) : (dvsIn c).length ≤ 1000 := by
  have := fold_len (dvs c) []
  unfold dvsIn srtD
  rw [List.length_mergeSort]
  unfold dedD
  rw [List.length_nil] at this
  omega
section
variable {te ta tb : TE} {σ : L2.St} {B H : Hp} {ps : List Pr} {K : PySem.W.Frag} {t : TA}
theorem ev_isN0 {v : V} (h : Ev ta σ B v) : Ev (tOp (fun x y H Q => y = V.non ∧ Q (.bl (decide (x = V.non))) H) ta (tC .non)) σ B (.bl (decide (v = V.non))) := fun H1 a Q k =>
  h H1 a _ fun H2 e2 => ⟨rfl, k H2 e2⟩
end
section
variable {P : Program} {w : World} {K : PySem.W.Frag} {mg : Str → Option Value} {base : Heap}

/-- polynomial_fits -/
abbrev s_polynomial_fits : Stmt := topS 51
abbrev N_polynomial_fits : List Str := ["ranking", "thing", "derivative"]
theorem sc_polynomial_fits : FnScope N_polynomial_fits ["ranking", "thing"] (defScope s_polynomial_fits) := ⟨rfl, rfl, rfl, by decide +kernel, rfl, by decide +kernel, by decide +kernel⟩
def RpfG (K : PySem.W.Frag) : List Pr → Pr → Prop := fun ps p => (∃ (r : Rk) (qd : Pr) (d : PyData), ToE K qd d ∧ smB d = true ∧ poB d = false ∧ ps = [RkP K r, qd] ∧ p = IsV (.bl false)) ∨
  ∃ (r : Rk) (c : Po), poB (poD c) = true ∧ smB (poD c) = true ∧ (dvs c).length ≤ 1000 ∧ ps = [RkP K r, poP K c] ∧ p = IsV (.bl ((dvsIn c).all (Rk.stB r)))
theorem ok_polynomial_fits {f : Addr} {fd : FuncData} (F : Fun K "polynomial_fits" "polynomial_fits" s_polynomial_fits f fd)  {f_is_polynomial : Addr} {d_is_polynomial : FuncData} (c_is_polynomial : Cal P w K mg base "is_polynomial" 8 ["thing"] (spP (RBE K poB)) f_is_polynomial d_is_polynomial) {f_derivatives_in : Addr} {d_derivatives_in : FuncData} (c_derivatives_in : Cal P w K mg base "derivatives_in" 1 ["one"] (spP (Rdin K)) f_derivatives_in d_derivatives_in) {f__stands_there : Addr} {d__stands_there : FuncData} (c__stands_there : Cal P w K mg base "_stands_there" 1 ["ranking", "derivative"] (spP (Rst K)) f__stands_there d__stands_there) (n_all : mg "all" = none)  :
    FnOk P w K mg base CX0 9 f fd ["ranking", "thing"] (spP (RpfG K)) := by
  refine F.ok sc_polynomial_fits (spP_len (by rintro _ _ (⟨r, _, _, _, _, _, rfl, rfl⟩ | ⟨r, _, _, _, _, rfl, rfl⟩) <;> rfl)) (fun cdv A outer s H vs Q E hr h => ?_)
  obtain ⟨B, ps, p, eB, hv, ho, q⟩ := h
  have hu := hu_of hr
  refine ⟨_, (pss_cons (ps_if (pt_not (pt_val (pe_call c_is_polynomial.G (hr.mono (by decide)) (by rfl) c_is_polynomial.m c_is_polynomial.k c_is_polynomial.b .nil pass0 (pa_cons (pv 1) pa_nil)))) (pss_one (ps_ret pe_bl)) pss_nil)
    (pss_one (ps_ret (pe_callB (cr_all rfl) (by rfl) n_all (by decide +kernel) (pa_cons (pe_lc (own := [("derivative", 2)]) rfl sc_polynomial_fits.nd (pi_tup (pe_call c_derivatives_in.G (hr.mono (by decide)) (by rfl) c_derivatives_in.m c_derivatives_in.k c_derivatives_in.b .nil pass0 (pa_cons (pv 1) pa_nil))) (blkOk_by (N := N_polynomial_fits) (sc := defScope s_polynomial_fits) (by decide +kernel)) (fun _ _ _ _ _ => (pg_name (i := 2) sc_polynomial_fits.nd rfl (Or.inl rfl))) (fun _ _ _ _ _ => pts_nil) (fun _ _ _ _ _ => (pe_call c__stands_there.G (hr.mono (by decide)) (by rfl) c__stands_there.m c__stands_there.k c__stands_there.b .nil pass0 (pa_cons (pv 0) (pa_cons (pv 2) pa_nil))))) pa_nil))))), ?_⟩
  rcases ho with ⟨r, qd, d, tq, hs, hb, rfl, rfl⟩ | ⟨r, c, hb, hs, hl, rfl, rfl⟩
  · obtain ⟨v1, v2, rfl, h1, h2⟩ := all2 hv
    refine My.ps_ifT eB (et_is (et_not (et_test (ev_p (p_callP (ps := [qd]) (q_cons (p_var rfl h2) q_nil) ⟨_, _, tq, hs, rfl, rfl⟩)))) (by rw [hb]; rfl)) fun H1 e1 => ?_
    exact My.ps_ret (eB.trans e1) (p_c (v := .bl false)) fun v B1 H2 g hp => q v B1 H2 ((Gr.wide eB e1).trans g) hp
  obtain ⟨v1, v2, rfl, h1, h2⟩ := all2 hv
  refine ps_ifN eB (et_is (et_not (et_test (ev_p (p_callP (ps := [poP K c]) (q_cons (p_var rfl h2) q_nil) ⟨_, _, toE_of (to_po c), hs, rfl, rfl⟩)))) (by rw [hb]; rfl)) fun H1 e1 => ?_
  dsimp only
  refine My.ps_ret (eB.trans e1) (p_ev (v := .bl ((dvsIn c).all (Rk.stB r))) (ev_is (ev_allL (K := K) (bs := (dvsIn c).map (Rk.stB r)) ?_) (by rw [List.all_map]; rfl))) fun v B3 H3 g hp => q v B3 H3 ((Gr.wide eB e1).trans g) hp
  rw [← range_map (dvsIn c) (Rk.stB r) ⟨Str.empty, 0, 0⟩, List.map_map]
  have hn : ((dvsIn c).map DvP).length = (dvsIn c).length := List.length_map _
  rw [← hn]
  refine p_lcA (K := K) (src_tu (p_callP (ps := [poP K c]) (q_cons (p_var rfl h2) q_nil) ⟨c, hl, rfl, rfl⟩)) (by have := in_len hl; rw [List.length_map]; omega) (fun i => .bool (Rk.stB r ((dvsIn c).getD i ⟨Str.empty, 0, 0⟩))) fun i v4 B1 hi e pv => ?_
  rw [List.length_map] at hi
  rw [getD_map hi] at pv
  rw [List.getD_eq_getElem?_getD, List.getElem?_eq_getElem hi, Option.getD_some]
  refine ⟨[some v1, some v2, some v4], rfl, fun H2 Q e q => q, ed_bl (ev_p (p_callP (ps := [RkP K r, DvP (dvsIn c)[i]]) (q_cons (p_var rfl ((RkP K r).m e h1)) (q_cons (p_var rfl pv) q_nil)) ⟨r, _, _, toE_of (to_dv _), rfl, rfl⟩))⟩

end
end K12
namespace Nd
set_option autoImplicit false
open PySem PySem.Spec PySem.W PyProof.Rows L2 My Evl LamX NdefX
structure RkH (d : PyData) : Prop where
  s : smB d = true
  l : ∀ xs, it 2 d = .tuple xs → xs.length ≤ 100000
/-- no ranking: with the part that is due -/
def BadRk (K : PySem.W.Frag) (q : Pr) (w : Option Str) : Prop := ∃ d, ToE K q d ∧ RkH d ∧ rkDue d = some w
theorem rkh_rk {r : Rk} (h : r.Ok) : RkH r.D := ⟨sm_rk h, fun xs e => by
  have e : PyData.tuple (r.axs.map .str) = .tuple xs := e
  cases e
  rw [List.length_map]
  have : ∀ a : Fin 3, (axsOf a).length ≤ 100000 := by decide +kernel
  exact this r.ax⟩
def RkB (K : PySem.W.Frag) : List Pr → Pr → Prop := fun ps p => ∃ (q : Pr) (d : PyData), ToE K q d ∧ RkH d ∧ ps = [q] ∧ p = IsV (.bl (rkDue d).isNone)
def RisO (K : PySem.W.Frag) (CR : Addr) : List Pr → Out → Prop := fun ps o => (∃ (r : Rk) (qd : Pr) (d : PyData), r.Ok ∧ ToE K qd d ∧ smB d = true ∧ ps = [RkP K r, qd] ∧ o = .ret (IsV (.bl (fitsB r d)))) ∨ ∃ (q0 qd : Pr) (w : Option Str), BadRk K q0 w ∧ ps = [q0, qd] ∧ o = .exc CR [("place", wordP w)]
def RhoO (K : PySem.W.Frag) (CR : Addr) : List Pr → Out → Prop := fun ps o => (∃ (r : Rk) (qd : Pr) (b : Bool), r.Ok ∧ K12.RpfG K [RkP K r, qd] (IsV (.bl b)) ∧ ps = [RkP K r, qd] ∧ o = .ret (IsV (.bl b))) ∨ ∃ (q0 qd : Pr) (w : Option Str), BadRk K q0 w ∧ ps = [q0, qd] ∧ o = .exc CR [("place", wordP w)]
def RrcO (K : PySem.W.Frag) (CR CO : Addr) : List Pr → Out → Prop := fun ps o => (∃ (r : Rk) (u v : Dv), r.Ok ∧ u.Of r ∧ v.Of r ∧ ps = [RkP K r, DvP u, DvP v] ∧ o = .ret (IsV (.int (r.cmp u v)))) ∨
  (∃ (r : Rk) (q1 q2 : Pr) (d1 d2 : PyData), r.Ok ∧ ToE K q1 d1 ∧ ToE K q2 d2 ∧ smB d1 = true ∧ smB d2 = true ∧ (fitsB r d1 && fitsB r d2) = false ∧ ps = [RkP K r, q1, q2] ∧ o = .exc CO []) ∨
  ∃ (q0 q1 q2 : Pr) (w : Option Str), BadRk K q0 w ∧ ps = [q0, q1, q2] ∧ o = .exc CR [("place", wordP w)]
theorem fitsB_of {r : Rk} {u : Dv} (h : r.Ok) (k : u.Of r) : fitsB r u.D = true := by
  unfold fitsB
  rw [dvB_of (h.nm _ k.n) k.i k.j, dvOf_D, Bool.true_and]
  unfold Rk.stB
  rw [decide_eq_true k.n, Bool.true_and]
  rcases k.y with e | e
  · rw [decide_eq_true e]
    rfl
  · rw [decide_eq_true e, Bool.or_true]
theorem sm_dv {r : Rk} {u : Dv} (h : r.Ok) (k : u.Of r) : smB u.D = true := smd_dv (by have := (nm_facts (h.nm _ k.n)).2.1; omega)
section
variable {K : PySem.W.Frag} {CR CO : Addr} {r : Rk}
theorem rk_call (h : r.Ok) : RrkG K CR [RkP K r] (.ret (IsV .non)) := ⟨_, r.D, toE_rk r, sm_rk h, (rkh_rk h).l, rfl, by rw [due_rk h]; rfl⟩
theorem rk_bad {q : Pr} {w : Option Str} (h : BadRk K q w) : RrkG K CR [q] (.exc CR [("place", wordP w)]) := by
  obtain ⟨d, h1, h2, h3⟩ := h
  exact ⟨_, d, h1, h2.s, h2.l, rfl, by rw [h3]; rfl⟩
theorem nd_call {q : Pr} {d : PyData} (h : r.Ok) (t : ToE K q d) (s : smB d = true) {b : Bool} (e : fitsB r d = b) : K12.RndO K CO [RkP K r, q] (K12.outB CO b) := ⟨r, q, d, h, t, s, rfl, by rw [e]⟩
end
end Nd
namespace K12
set_option autoImplicit false
open PySem PySem.W L2 Evl My Nd LamX NdefX
section
variable {P : Program} {w : World} {K : PySem.W.Frag} {mg : Str → Option Value} {base : Heap} {T : List (Addr × Str)}

/-- is_ranking -/
abbrev s_is_ranking : Stmt := topS 47
abbrev N_is_ranking : List Str := ["thing"]
theorem sc_is_ranking : FnScope N_is_ranking ["thing"] (defScope s_is_ranking) := ⟨rfl, rfl, rfl, by decide +kernel, rfl, by decide +kernel, by decide +kernel⟩
theorem ok_is_ranking {f : Addr} {fd : FuncData} (F : Fun K "is_ranking" "is_ranking" s_is_ranking f fd) {aBR : Addr} {f_need_ranking : Addr} {d_need_ranking : FuncData} (c_need_ranking : CalX P w K mg base "need_ranking" 4 ["ranking"] (spO (RrkG K aBR)) f_need_ranking d_need_ranking)  (g_BadRanking : mg "BadRanking" = some (.ref aBR)) (x_BR : PySem.W.exmOne K (.ref aBR) (.ref aBR) = some true) :
    FnOk P w K mg base CX0 5 f fd ["thing"] (spP (RkB K)) := by
  refine F.ok sc_is_ranking (spP_len (by rintro _ _ ⟨_, _, _, _, rfl, rfl⟩; rfl)) (fun cdv A outer s H vs Q E hr h => ?_)
  obtain ⟨B, ps, p, eB, hv, ⟨qd, d, tq, hs, rfl, rfl⟩, q⟩ := h
  obtain ⟨v, rfl, h1⟩ := all1 hv
  have hu := hu_of hr
  refine ⟨_, (pss_cons (ps_try_only (tb := fun W => tDrop (tCallS (spO (RrkG K aBR)) (WE W) (tCons (tVar 0) tNil))) (ts := fun _ _ _ => tRet (tC (.bl false))) (Wout := fun _ _ _ _ => False) rfl rfl ⟨rfl, by decide, Or.inl g_BadRanking⟩ L2.takes0 (fun W pn xe tk _ => pss_one (ps_expr (pe_callS c_need_ranking.G (hr.mono (by decide)) (by rfl) c_need_ranking.m c_need_ranking.k c_need_ranking.b (fun σ => passAt tk σ) (pa_cons (pv 0) pa_nil)))) (fun _ _ _ _ _ _ _ => pss_one (ps_ret pe_bl)))
    (pss_one (ps_ret pe_bl))), ?_⟩
  cases hp : rkDue d with
  | none =>
    refine o_call (E := WE _) eB (q_cons (p_var rfl h1) q_nil) ⟨qd, d, tq, hs.s, hs.l, rfl, rfl⟩ ?_
    rw [hp]
    intro v1 B1 H1 g1 _
    dsimp only
    refine My.ps_ret g1.c (p_c (v := .bl true)) fun v5 B5 H5 g5 hv5 => q v5 B5 H5 (g1.trans g5) ?_
    rw [hp]
    exact hv5
  | some n =>
    refine o_call (E := WE _) eB (q_cons (p_var rfl h1) q_nil) ⟨qd, d, tq, hs.s, hs.l, rfl, rfl⟩ ?_
    rw [hp]
    exact fun d2 B1 H1 g1 _ => ⟨true, x_BR, fun _ a _ => q _ B1 H1 g1 (by rw [hp]; rfl), fun z => nomatch z⟩

/-- is_of -/
abbrev s_is_of : Stmt := topS 48
abbrev N_is_of : List Str := ["ranking", "thing"]
theorem sc_is_of : FnScope N_is_of ["ranking", "thing"] (defScope s_is_of) := ⟨rfl, rfl, rfl, by decide +kernel, rfl, by decide +kernel, by decide +kernel⟩
theorem ok_is_of {f : Addr} {fd : FuncData} (F : Fun K "is_of" "is_of" s_is_of f fd) {aBR : Addr} {f_need_ranking : Addr} {d_need_ranking : FuncData} (c_need_ranking : CalX P w K mg base "need_ranking" 4 ["ranking"] (spO (RrkG K aBR)) f_need_ranking d_need_ranking) {f_derivative_fits : Addr} {d_derivative_fits : FuncData} (c_derivative_fits : Cal P w K mg base "derivative_fits" 4 ["ranking", "thing"] (spP (RB2E K fitsB)) f_derivative_fits d_derivative_fits)   :
    FnOk P w K mg base (L2.CX P w) 5 f fd ["ranking", "thing"] (spO (RisO K aBR)) := by
  refine F.okX sc_is_of (spO_len (by rintro _ _ (⟨_, _, _, _, _, _, rfl, rfl⟩ | ⟨_, _, _, _, rfl, rfl⟩) <;> rfl)) (fun cdv A outer s H vs Q E hr h => ?_)
  obtain ⟨B, ps, o, eB, hv, ho, q⟩ := h
  have hu := hu_of hr
  have tk : Takes (cxOf (L2.CX P w) P w K mg base N_is_of "is_of" (defScope s_is_of) f cdv A outer s H E) (fun cls d _ H => E cls d H) := L2.takes_of rfl rfl rfl rfl
  refine ⟨_, (pss_cons (ps_expr (pe_callS c_need_ranking.G (hr.mono (by decide)) (by rfl) c_need_ranking.m c_need_ranking.k c_need_ranking.b (fun σ => passAt tk σ) (pa_cons (pv 0) pa_nil)))
    (pss_one (ps_ret (pe_call c_derivative_fits.G (hr.mono (by decide)) (by rfl) c_derivative_fits.m c_derivative_fits.k c_derivative_fits.b .nil pass0 (pa_cons (pv 0) (pa_cons (pv 1) pa_nil)))))), ?_⟩
  rcases ho with ⟨r, qd, d, hok, tq, hs, rfl, rfl⟩ | ⟨q0, qd, w0, hb, rfl, rfl⟩
  · obtain ⟨v0, v1, rfl, h0, h1⟩ := all2 hv
    refine o_call (E := WE _) eB (q_cons (p_var rfl h0) q_nil) (rk_call hok) fun _ B1 H1 g1 _ => ?_
    dsimp only
    refine My.ps_ret g1.c (p_callP (R := RB2E K fitsB) (p := IsV (.bl (fitsB r d))) (ps := [RkP K r, qd]) (q_cons (p_var rfl ((RkP K r).m g1.b h0)) (q_cons (p_var rfl (qd.m g1.b h1)) q_nil)) ⟨r, qd, d, hok, tq, hs, rfl, rfl⟩) fun v B2 H2 g2 hp => q v B2 H2 (g1.trans g2) hp
  · obtain ⟨v0, v1, rfl, h0, h1⟩ := all2 hv
    exact o_call (E := WE _) eB (q_cons (p_var rfl h0) q_nil) (rk_bad hb) fun d B2 H2 g2 hd => q d B2 H2 g2 hd

/-- holds_of -/
abbrev s_holds_of : Stmt := topS 49
abbrev N_holds_of : List Str := ["ranking", "thing"]
theorem sc_holds_of : FnScope N_holds_of ["ranking", "thing"] (defScope s_holds_of) := ⟨rfl, rfl, rfl, by decide +kernel, rfl, by decide +kernel, by decide +kernel⟩
theorem ok_holds_of {f : Addr} {fd : FuncData} (F : Fun K "holds_of" "holds_of" s_holds_of f fd) {aBR : Addr} {f_need_ranking : Addr} {d_need_ranking : FuncData} (c_need_ranking : CalX P w K mg base "need_ranking" 4 ["ranking"] (spO (RrkG K aBR)) f_need_ranking d_need_ranking) {f_polynomial_fits : Addr} {d_polynomial_fits : FuncData} (c_polynomial_fits : Cal P w K mg base "polynomial_fits" 9 ["ranking", "thing"] (spP (RpfG K)) f_polynomial_fits d_polynomial_fits)   :
    FnOk P w K mg base (L2.CX P w) 10 f fd ["ranking", "thing"] (spO (RhoO K aBR)) := by
  refine F.okX sc_holds_of (spO_len (by rintro _ _ (⟨_, _, _, _, _, rfl, rfl⟩ | ⟨_, _, _, _, rfl, rfl⟩) <;> rfl)) (fun cdv A outer s H vs Q E hr h => ?_)
  obtain ⟨B, ps, o, eB, hv, ho, q⟩ := h
  have hu := hu_of hr
  have tk : Takes (cxOf (L2.CX P w) P w K mg base N_holds_of "holds_of" (defScope s_holds_of) f cdv A outer s H E) (fun cls d _ H => E cls d H) := L2.takes_of rfl rfl rfl rfl
  refine ⟨_, (pss_cons (ps_expr (pe_callS c_need_ranking.G (hr.mono (by decide)) (by rfl) c_need_ranking.m c_need_ranking.k c_need_ranking.b (fun σ => passAt tk σ) (pa_cons (pv 0) pa_nil)))
    (pss_one (ps_ret (pe_call c_polynomial_fits.G (hr.mono (by decide)) (by rfl) c_polynomial_fits.m c_polynomial_fits.k c_polynomial_fits.b .nil pass0 (pa_cons (pv 0) (pa_cons (pv 1) pa_nil)))))), ?_⟩
  rcases ho with ⟨r, qd, b, hok, hR, rfl, rfl⟩ | ⟨q0, qd, w0, hb, rfl, rfl⟩
  · obtain ⟨v0, v1, rfl, h0, h1⟩ := all2 hv
    refine o_call (E := WE _) eB (q_cons (p_var rfl h0) q_nil) (rk_call hok) fun _ B1 H1 g1 _ => ?_
    dsimp only
    refine My.ps_ret g1.c (p_callP (R := RpfG K) (p := IsV (.bl b)) (ps := [RkP K r, qd]) (q_cons (p_var rfl ((RkP K r).m g1.b h0)) (q_cons (p_var rfl (qd.m g1.b h1)) q_nil)) hR) fun v B2 H2 g2 hp => q v B2 H2 (g1.trans g2) hp
  · obtain ⟨v0, v1, rfl, h0, h1⟩ := all2 hv
    exact o_call (E := WE _) eB (q_cons (p_var rfl h0) q_nil) (rk_bad hb) fun d B2 H2 g2 hd => q d B2 H2 g2 hd

/-- compared -/
abbrev s_compared : Stmt := topS 57
abbrev N_compared : List Str := ["one", "other"]
theorem sc_compared : FnScope N_compared ["one", "other"] (defScope s_compared) := ⟨rfl, rfl, rfl, by decide +kernel, rfl, by decide +kernel, by decide +kernel⟩
theorem eqvAll_ints : ∀ a b : List Int, PyData.eqvAll (a.map .int) (b.map .int) = decide (a = b)
  | [], [] => by simp [PyData.eqvAll]
  | [], _ :: _ => by simp [PyData.eqvAll]
  | _ :: _, [] => by simp [PyData.eqvAll]
  | x :: a, y :: b => by
    rw [List.map_cons, List.map_cons, PyData.eqvAll, eqvAll_ints a b]
    by_cases h : x = y
    · subst h
      simp [PyData.eqv]
    · simp [PyData.eqv, h]
theorem eqv_ints (a b : List Int) : PyData.eqv (.tuple (a.map .int)) (.tuple (b.map .int)) = decide (a = b) := by
  rw [PyData.eqv]
  exact eqvAll_ints a b
theorem sh_ints {a : List Int} (h : a.length = 3) : SeqAt.shaped (.tuple (a.map .int)) = true := by
  match a, h with
  | [x, y, z], _ => rfl
theorem ok_compared {f : Addr} {fd : FuncData} (F : Fun K "compared" "compared" s_compared f fd)     :
    FnOk P w K mg base CX0 1 f fd ["one", "other"] (spP (Rcmp K)) := by
  refine F.ok sc_compared (spP_len (by rintro _ _ ⟨a, b, _, _, rfl, rfl⟩; rfl)) (fun cdv A outer s H vs Q E hr h => ?_)
  obtain ⟨B, ps, p, eB, hv, ⟨a, b, ha, hb, rfl, rfl⟩, q⟩ := h
  obtain ⟨v1, v2, rfl, h1, h2⟩ := all2 hv
  have hu := hu_of hr
  refine ⟨_, (pss_cons (ps_if (pt_cmpR (op_eqD hr.units) (pv 0) (pv 1) (nomark _)) (pss_one (ps_ret pe_int)) pss_nil)
    (pss_one (ps_ret (pe_ifExp (pt_cmpR (op_ltT hr.units0) (pv 0) (pv 1) (nomark _)) (pe_un un_neg pe_int) pe_int)))), ?_⟩
  have eqv : PyData.eqv (.tuple (a.map .int)) (.tuple (b.map .int)) = decide (a = b) := eqv_ints a b
  by_cases hab : a = b
  · refine My.ps_ifT eB (et_is (et_test (ev_eqD (ed_var rfl h1) (ed_var rfl h2) (sh_ints ha) (sh_ints hb))) (by rw [eqv, decide_eq_true hab])) fun H1 e1 => ?_
    exact My.ps_ret (eB.trans e1) (p_ev (v := .int (cmpL a b)) (ev_is ev_c (by unfold cmpL; rw [if_pos hab]))) fun v B4 H4 g hp => q v B4 H4 ((Gr.wide eB e1).trans g) hp
  · refine ps_ifN eB (et_is (et_test (ev_eqD (ed_var rfl h1) (ed_var rfl h2) (sh_ints ha) (sh_ints hb))) (by rw [eqv, decide_eq_false hab])) fun H1 e1 => ?_
    dsimp only
    refine My.ps_ret (eB.trans e1) (p_ev (v := .int (cmpL a b)) (ev_if (b := HT.lexLt a b) (et_test (ev_ltT (ed_var rfl h1) (ed_var rfl h2))) (fun hl => ev_is (ev_un ev_c ru_neg) (by unfold cmpL; rw [if_neg hab, if_pos hl])) fun hl => ev_is ev_c (by unfold cmpL; rw [if_neg hab, hl, if_neg Bool.false_ne_true]))) fun v B4 H4 g hp => q v B4 H4 ((Gr.wide eB e1).trans g) hp

/-- rank_compared -/
abbrev s_rank_compared : Stmt := topS 56
abbrev N_rank_compared : List Str := ["ranking", "one", "other"]
theorem sc_rank_compared : FnScope N_rank_compared ["ranking", "one", "other"] (defScope s_rank_compared) := ⟨rfl, rfl, rfl, by decide +kernel, rfl, by decide +kernel, by decide +kernel⟩
theorem ok_rank_compared {f : Addr} {fd : FuncData} (F : Fun K "rank_compared" "rank_compared" s_rank_compared f fd) {aBR aOP : Addr} {f_need_ranking : Addr} {d_need_ranking : FuncData} (c_need_ranking : CalX P w K mg base "need_ranking" 4 ["ranking"] (spO (RrkG K aBR)) f_need_ranking d_need_ranking) {f_need_derivative : Addr} {d_need_derivative : FuncData} (c_need_derivative : CalX P w K mg base "need_derivative" 5 ["ranking", "thing"] (spO (RndO K aOP)) f_need_derivative d_need_derivative) {f_compared : Addr} {d_compared : FuncData} (c_compared : Cal P w K mg base "compared" 1 ["one", "other"] (spP (Rcmp K)) f_compared d_compared) {f_rank_key : Addr} {d_rank_key : FuncData} (c_rank_key : Cal P w K mg base "rank_key" 1 ["ranking", "derivative"] (spP (Rrd K fun r u => IsD K (.tuple ((r.key u).map .int)))) f_rank_key d_rank_key)   :
    FnOk P w K mg base (L2.CX P w) 6 f fd ["ranking", "one", "other"] (spO (RrcO K aBR aOP)) := by
  refine F.okX sc_rank_compared (spO_len (by rintro _ _ (⟨_, _, _, _, _, _, rfl, rfl⟩ | ⟨_, _, _, _, _, _, _, _, _, _, _, rfl, rfl⟩ | ⟨_, _, _, _, _, rfl, rfl⟩) <;> rfl)) (fun cdv A outer s H vs Q E hr h => ?_)
  obtain ⟨B, ps, o, eB, hv, ho, q⟩ := h
  have hu := hu_of hr
  have tk : Takes (cxOf (L2.CX P w) P w K mg base N_rank_compared "rank_compared" (defScope s_rank_compared) f cdv A outer s H E) (fun cls d _ H => E cls d H) := L2.takes_of rfl rfl rfl rfl
  refine ⟨_, (pss_cons (ps_expr (pe_callS c_need_ranking.G (hr.mono (by decide)) (by rfl) c_need_ranking.m c_need_ranking.k c_need_ranking.b (fun σ => passAt tk σ) (pa_cons (pv 0) pa_nil)))
    (pss_cons (ps_expr (pe_callS c_need_derivative.G (hr.mono (by decide)) (by rfl) c_need_derivative.m c_need_derivative.k c_need_derivative.b (fun σ => passAt tk σ) (pa_cons (pv 0) (pa_cons (pv 1) pa_nil))))
    (pss_cons (ps_expr (pe_callS c_need_derivative.G (hr.mono (by decide)) (by rfl) c_need_derivative.m c_need_derivative.k c_need_derivative.b (fun σ => passAt tk σ) (pa_cons (pv 0) (pa_cons (pv 2) pa_nil))))
    (pss_one (ps_ret (pe_call c_compared.G (hr.mono (by decide)) (by rfl) c_compared.m c_compared.k c_compared.b .nil pass0 (pa_cons (pe_call c_rank_key.G (hr.mono (by decide)) (by rfl) c_rank_key.m c_rank_key.k c_rank_key.b .nil pass0 (pa_cons (pv 0) (pa_cons (pv 1) pa_nil))) (pa_cons (pe_call c_rank_key.G (hr.mono (by decide)) (by rfl) c_rank_key.m c_rank_key.k c_rank_key.b .nil pass0 (pa_cons (pv 0) (pa_cons (pv 2) pa_nil))) pa_nil)))))))), ?_⟩
  rcases ho with ⟨r, u1, u2, hok, hu1, hu2, rfl, rfl⟩ | ⟨r, q1, q2, d1, d2, hok, t1, t2, s1, s2, hf, rfl, rfl⟩ | ⟨q0, q1, q2, w0, hb, rfl, rfl⟩
  · obtain ⟨v0, v1, v2, rfl, h0, h1, h2⟩ := all3 hv
    refine o_call (E := WE _) eB (q_cons (p_var rfl h0) q_nil) (rk_call hok) fun _ B1 H1 g1 _ => ?_
    dsimp only
    refine o_call (E := WE _) (o := .ret (IsV .non)) g1.c (q_cons (p_var rfl ((RkP K r).m g1.b h0)) (q_cons (p_var rfl ((DvP u1).m g1.b h1)) q_nil)) (nd_call (b := true) hok (toE_of (to_dv u1)) (sm_dv hok hu1) (fitsB_of hok hu1)) fun _ B2 H2 g2 _ => ?_
    have g12 := g1.trans g2
    dsimp only
    refine o_call (E := WE _) (o := .ret (IsV .non)) g12.c (q_cons (p_var rfl ((RkP K r).m g12.b h0)) (q_cons (p_var rfl ((DvP u2).m g12.b h2)) q_nil)) (nd_call (b := true) hok (toE_of (to_dv u2)) (sm_dv hok hu2) (fitsB_of hok hu2)) fun _ B3 H3 g3 _ => ?_
    have g13 := g12.trans g3
    have m0 := (RkP K r).m g13.b h0
    have m1 := (DvP u1).m g13.b h1
    have m2 := (DvP u2).m g13.b h2
    dsimp only
    refine My.ps_ret g13.c (p_callP (R := Rcmp K) (p := IsV (.int (r.cmp u1 u2))) (ps := [IsD K (.tuple ((r.key u1).map .int)), IsD K (.tuple ((r.key u2).map .int))])
      (q_cons (p_callP (R := Rrd K fun r u => IsD K (.tuple ((r.key u).map .int))) (ps := [RkP K r, DvP u1]) (q_cons (p_var rfl m0) (q_cons (p_var rfl m1) q_nil)) ⟨r, u1, hok, hu1, rfl, rfl⟩) (q_cons (p_callP (R := Rrd K fun r u => IsD K (.tuple ((r.key u).map .int))) (ps := [RkP K r, DvP u2]) (q_cons (p_var rfl m0) (q_cons (p_var rfl m2) q_nil)) ⟨r, u2, hok, hu2, rfl, rfl⟩) q_nil))
      ⟨r.key u1, r.key u2, key_len r u1, key_len r u2, rfl, rfl⟩) fun v B4 H4 g hp => q v B4 H4 (g13.trans g) hp
  · obtain ⟨v0, v1, v2, rfl, h0, h1, h2⟩ := all3 hv
    refine o_call (E := WE _) eB (q_cons (p_var rfl h0) q_nil) (rk_call hok) fun _ B1 H1 g1 _ => ?_
    dsimp only
    cases f1 : fitsB r d1 with
    | false => exact o_call (E := WE _) (o := .exc aOP []) g1.c (q_cons (p_var rfl ((RkP K r).m g1.b h0)) (q_cons (p_var rfl (q1.m g1.b h1)) q_nil)) (nd_call (b := false) hok t1 s1 f1) fun d B2 H2 g2 hd => q d B2 H2 (g1.trans g2) hd
    | true =>
      rw [f1, Bool.true_and] at hf
      refine o_call (E := WE _) (o := .ret (IsV .non)) g1.c (q_cons (p_var rfl ((RkP K r).m g1.b h0)) (q_cons (p_var rfl (q1.m g1.b h1)) q_nil)) (nd_call (b := true) hok t1 s1 f1) fun _ B2 H2 g2 _ => ?_
      have g12 := g1.trans g2
      dsimp only
      exact o_call (E := WE _) (o := .exc aOP []) g12.c (q_cons (p_var rfl ((RkP K r).m g12.b h0)) (q_cons (p_var rfl (q2.m g12.b h2)) q_nil)) (nd_call (b := false) hok t2 s2 hf) fun d B3 H3 g3 hd => q d B3 H3 (g12.trans g3) hd
  · obtain ⟨v0, v1, v2, rfl, h0, h1, h2⟩ := all3 hv
    exact o_call (E := WE _) eB (q_cons (p_var rfl h0) q_nil) (rk_bad hb) fun d B2 H2 g2 hd => q d B2 H2 g2 hd

end
end K12
namespace K12
set_option autoImplicit false
open PySem PySem.W L2 Evl My Nd LamX NdefX
/-- a list of derivatives, or a dict by them -/
def SrcD (K : PySem.W.Frag) (us : List Dv) (v : V) (H : Hp) : Prop := (∃ l xs, v = .ref l ∧ SqL K H l xs ∧ AllP (us.map DvP) xs H) ∨ ∃ d, v = .ref d ∧ H d = some (.dT (asK us))
def SortedP (r : Rk) (us : List Dv) : Pr := LsP ((r.sort us).map DvP)
def spRis (K : PySem.W.Frag) (T : List (Addr × Str)) : Sp := fun vs H Q _ => ∃ B r us vr vd, vs = [vr, vd] ∧ Rk.Ok r ∧ (∀ u ∈ us, Dv.Of u r) ∧ Kn T B H ∧ (RkP K r).P vr B ∧ SrcD K us vd B ∧
  ∀ v H', ExtN H H' → Tabs T H' → (SortedP r us).P v H' → Q v H'
theorem keyD_alike (r : Rk) (us : List Dv) : AllAlike (us.map r.keyD) := AllAlike.of fun u v => by
  unfold Rk.keyD
  simp [alike, alike_ints]
theorem keyD_sortable (r : Rk) (us : List Dv) : Sortable (us.map r.keyD) := Sortable.tuples fun u => by
  obtain ⟨a, b, c, e⟩ := r.key3 u
  exact ⟨.int a, [.int b, .int c], by unfold Rk.keyD; rw [e]; rfl⟩
theorem keyD_depth (r : Rk) (us : List Dv) : ∀ d, d ∈ us.map r.keyD → d.depth ≤ 50 := fun d hd => by
  obtain ⟨u, _, rfl⟩ := List.mem_map.mp hd
  unfold Rk.keyD
  simp [PyData.depth, depth_ints]
theorem exN_tr {H H1 H2 : Hp} (a : ExtN H H1) (b : Ex H1 H2) : ExtN H H2 := a.trans (exN_of b)
/-- of which nothing is known -/
def AnyP : Pr := ⟨fun _ _ => True, fun _ h => h⟩
/-- rows of derivatives, and one that is none -/
def RirO (K : PySem.W.Frag) (CR CO : Addr) : List Pr → Out → Prop := fun ps o => (∃ (r : Rk) (us : List Dv) (tl : List Pr), r.Ok ∧ (∀ u ∈ us, Dv.Of u r) ∧ us.length ≤ 1000 ∧ ps = [RkP K r, LqP K (us.map DvP ++ tl)] ∧ ((tl = [] ∧ o = .ret AnyP) ∨ ∃ (q : Pr) (d : PyData), tl = [q] ∧ ToE K q d ∧ smB d = true ∧ fitsB r d = false ∧ o = .exc CO [])) ∨
  (∃ (r : Rk) (q : Pr), r.Ok ∧ (∀ v B, q.P v B → TyX K B v (.type "dict")) ∧ ps = [RkP K r, q] ∧ o = .exc CO []) ∨
  ∃ (q0 q1 : Pr) (w : Option Str), BadRk K q0 w ∧ ps = [q0, q1] ∧ o = .exc CR [("place", wordP w)]
def RatO (K : PySem.W.Frag) (CR CO : Addr) : List Pr → Out → Prop := fun ps o => (∃ (r : Rk) (q : Pr) (d : PyData), r.Ok ∧ ToE K q d ∧ smB d = true ∧ amgB 0 12 d = false ∧ ps = [RkP K r, q] ∧ o = .exc CO []) ∨
  ∃ (q0 q1 : Pr) (w : Option Str), BadRk K q0 w ∧ ps = [q0, q1] ∧ o = .exc CR [("place", wordP w)]
section
variable {K : PySem.W.Frag} {te : TE} {σ : L2.St} {B : Hp} {q : Pr}
theorem ev_isiDn (h : EvP te σ B q) (ty : ∀ v B, q.P v B → TyX K B v (.type "dict")) :
    Ev (tCB (rIsiT K) (tCons te (tCons (tTup (tCons (tC (.ty "list")) (tCons (tC (.ty "tuple")) tNil))) tNil))) σ B (.bl false) := fun H1 a Q k =>
  h H1 a _ fun v B2 H2 g x => ⟨sz_of (by show 2 ≤ 100000; decide), fun r hr => ⟨v, r, _, .type "dict", _, false, rfl, upd_same, .cons (.ty "list") (.cons (.ty "tuple") .nil), ty v _ (q.m (g.c.trans (Ex.new hr)) x),
    kitAny_cons (b := false) (kit_ty (by decide +kernel)) (fun _ => kitAny_cons (b := false) (kit_ty (by decide +kernel)) (fun _ => by rfl) (fun z => nomatch z)) (fun z => nomatch z), k _ (g.a.trans (Ex.new hr))⟩⟩
end
section
variable {P : Program} {w : World} {K : PySem.W.Frag} {mg : Str → Option Value} {base : Heap} {T : List (Addr × Str)}

/-- rising -/
abbrev s_rising : Stmt := topS 55
abbrev N_rising : List Str := ["ranking", "derivatives"]
theorem sc_rising : FnScope N_rising ["ranking", "derivatives"] (defScope s_rising) := ⟨rfl, rfl, rfl, by decide +kernel, rfl, by decide +kernel, by decide +kernel⟩

theorem ok_rising {f c tb : Addr} {fd : FuncData} (F : FunC K "rising" "rising" s_rising c f fd) {f_rank_key : Addr} {d_rank_key : FuncData} (c_rank_key : Cal P w K mg base "rank_key" 1 ["ranking", "derivative"] (spP (Rrd K fun r u => IsD K (.tuple ((r.key u).map .int)))) f_rank_key d_rank_key) (n_sorted : mg "sorted" = none) (TB : TabB base mg c tb) (hT : TO T tb "rising.<locals>.<lambda>") : FnOk P w K mg base CX0 5 f fd ["ranking", "derivatives"] (spRis K T) := by
  refine F.ok sc_rising (fun vs H Q E h => ?_) (fun A outer s H vs Q E hr h => ?_)
  · obtain ⟨B, r, us, vr, vd, rfl, _⟩ := h
    rfl
  obtain ⟨B, r, us, vr, vd, rfl, hok, hof, kn, hR, hS, q⟩ := h
  refine ⟨_, pss_one (ps_ret (pe_sortK (T := T) (N := ["derivative", "ranking"]) (fr := ["ranking"]) (x0 := "derivative") (js := [0]) (k := 1) (by rfl) n_sorted (pv 1) TB rfl hT.1 hT.2
    (nscope_by (by decide +kernel)) (ndef_free (sc := defScope s_rising) (fr := ["ranking"]) (by decide +kernel)) (ndef_fr (sc := defScope s_rising) (by decide +kernel)) rfl rfl hr (fun _ _ _ _ _ _ => rfl)
    (fun A' outer' s0 H0 F' f' hF hr' => by
      obtain ⟨nm, ql, pr, bd, sc, cl, c'⟩ := F'
      have hF : sc = _ := hF
      subst hF
      exact pe_call c_rank_key.G hr' (by rfl) c_rank_key.m c_rank_key.k c_rank_key.b .nil pass0 (pa_cons (pv 1) (pa_cons (pv 0) pa_nil))))), ?_⟩
  refine ⟨vd, rfl, kn.t, fun H2 eN T2 => ?_⟩
  have k2 := kn.next eN T2
  have hR2 := (RkP K r).m k2.e hR
  have fin : ∀ xs, AllP (us.map DvP) xs H2 → ∃ ks, ks.length = xs.length ∧ AllAlike ks ∧ Sortable ks ∧ (∀ d, d ∈ ks → d.depth ≤ 50) ∧ (∀ (i : Nat) (x : V) (k : PyData), xs[i]? = some x → ks[i]? = some k → EvP (tCall (spP (Rrd K fun r u => IsD K (.tuple ((r.key u).map .int)))) [] E0 (tCons (tVar 1) (tCons (tVar 0) tNil))) (startF ["derivative", "ranking"] [x] ([0].map (slotAt (L2.start N_rising [vr, vd])))) H2 (IsD K k)) ∧
      ∀ H3 a, Ex H2 H3 → H3 a = none → Q (.ref a) (upd H3 a (.lst (byKey xs ks))) := fun xs hx => by
    refine ⟨us.map r.keyD, by rw [List.length_map, hx.len, List.length_map], keyD_alike r us, keyD_sortable r us, keyD_depth r us, fun i x k e1 e2 => ?_, fun H3 a e3 na => ?_⟩
    · obtain ⟨u, hu, px⟩ := hx.ixD DvP e1
      rw [List.getElem?_map, hu] at e2
      obtain rfl : r.keyD u = k := Option.some.inj e2
      exact p_callP (ps := [RkP K r, DvP u]) (q_cons (p_var rfl hR2) (q_cons (p_var rfl px) q_nil)) ⟨r, u, hok, hof u (List.mem_of_getElem? hu), rfl, rfl⟩
    · exact q _ _ (exN_tr (exN_tr eN e3) (Ex.new na)) ((T2.ext e3).ext (Ex.new na)) ⟨a, _, rfl, upd_same, (byKey_all r (hx.m e3)).m (Ex.new na)⟩
  rcases hS with ⟨l, xs, rfl, hl, hx⟩ | ⟨d, rfl, hd⟩
  · exact .inl ⟨l, xs, rfl, ex_l k2.e hl, fin xs (hx.m k2.e)⟩
  · refine .inr ⟨d, asK us, rfl, .inl (k2.e _ _ hd), fun as hl has => fin _ (AllP.ix (by rw [List.length_map, List.length_map, hl]; unfold asK; rw [List.length_map]) fun i p v hp hv => ?_)⟩
    rw [List.getElem?_map] at hp hv
    cases hu : us[i]? with
    | none =>
      rw [hu] at hp
      cases hp
    | some u =>
      rw [hu] at hp
      obtain rfl : DvP u = p := Option.some.inj hp
      obtain ⟨a, ha, h3⟩ := has i (dvK u, .bl true) (by unfold asK; rw [List.getElem?_map, hu]; rfl)
      rw [ha] at hv
      obtain rfl : V.ref a = v := Option.some.inj hv
      exact ⟨a, rfl, h3⟩

/-- in_rank -/
abbrev s_in_rank : Stmt := topS 58
abbrev N_in_rank : List Str := ["ranking", "some", "found", "derivative"]
theorem sc_in_rank : FnScope N_in_rank ["ranking", "some"] (defScope s_in_rank) := ⟨rfl, rfl, rfl, by decide +kernel, rfl, by decide +kernel, by decide +kernel⟩
theorem ok_in_rank {f : Addr} {fd : FuncData} (F : Fun K "in_rank" "in_rank" s_in_rank f fd) {aBR aOP : Addr} {f_need_ranking : Addr} {d_need_ranking : FuncData} (c_need_ranking : CalX P w K mg base "need_ranking" 4 ["ranking"] (spO (RrkG K aBR)) f_need_ranking d_need_ranking) {f_need_derivative : Addr} {d_need_derivative : FuncData} (c_need_derivative : CalX P w K mg base "need_derivative" 5 ["ranking", "thing"] (spO (RndO K aOP)) f_need_derivative d_need_derivative) {f_rising : Addr} {d_rising : FuncData} (c_rising : Cal P w K mg base "rising" 5 ["ranking", "derivatives"] (spRis K T) f_rising d_rising) (n_isinstance : mg "isinstance" = none) (n_list : mg "list" = none) (n_tuple : mg "tuple" = none) (R_OP : RQ K mg "OutOfPlace" aOP) :
    FnOk P w K mg base (L2.CX P w) 6 f fd ["ranking", "some"] (spOT T (RirO K aBR aOP)) := by
  refine F.okX sc_in_rank (spOT_len (by rintro _ _ (⟨_, _, _, _, _, _, rfl, _⟩ | ⟨_, _, _, _, rfl, rfl⟩ | ⟨_, _, _, _, rfl, rfl⟩) <;> rfl)) (fun cdv A outer s H vs Q E hr h => ?_)
  obtain ⟨B0, ps, o, kn0, hv, ho, q⟩ := h
  have hu := hu_of hr
  have tk : Takes (cxOf (L2.CX P w) P w K mg base N_in_rank "in_rank" (defScope s_in_rank) f cdv A outer s H E) (fun cls d _ H => E cls d H) := L2.takes_of rfl rfl rfl rfl
  refine ⟨_, (pss_cons (ps_expr (pe_callS c_need_ranking.G (hr.mono (by decide)) (by rfl) c_need_ranking.m c_need_ranking.k c_need_ranking.b (fun σ => passAt tk σ) (pa_cons (pv 0) pa_nil)))
    (pss_cons (ps_if (pt_not (pt_val (pe_callB call_isiT (by rfl) n_isinstance (by decide +kernel) (pa_cons (pv 1) (pa_cons (pe_tup (pa_cons (pe_bltn (v := .ty "list") (by rfl) n_list (by decide +kernel) rfl) (pa_cons (pe_bltn (v := .ty "tuple") (by rfl) n_tuple (by decide +kernel) rfl) pa_nil))) pa_nil))))) (pss_one (ps_raiseQ R_OP rfl tk (by rfl))) pss_nil)
    (pss_cons (ps_set (i := 2) sc_in_rank.nd rfl (by first | exact .inl rfl | exact .inr rfl) pe_dnewT)
    (pss_cons (ps_for (L2.passes_of rfl) rfl (pi_list (pv 1)) (pg_name (i := 3) sc_in_rank.nd rfl (by first | exact .inl rfl | exact .inr rfl))
      (pss_cons (ps_expr (pe_callS c_need_derivative.G (hr.mono (by decide)) (by rfl) c_need_derivative.m c_need_derivative.k c_need_derivative.b (fun σ => passAt tk σ) (pa_cons (pv 0) (pa_cons (pv 3) pa_nil))))
    (pss_one (ps_dput hu (pv 2) (pv 3) pe_bl rfl))))
    (pss_one (ps_ret (pe_call c_rising.G (hr.mono (by decide)) (by rfl) c_rising.m c_rising.k c_rising.b .nil pass0 (pa_cons (pv 0) (pa_cons (pv 2) pa_nil))))))))), ?_⟩
  rcases ho with ⟨r, us, tl, hok, hof, hlen, rfl, ht⟩ | ⟨r, q1, hok, ty, rfl, rfl⟩ | ⟨q0, q1, w0, hb, rfl, rfl⟩
  rotate_left
  · obtain ⟨v0, v1, rfl, h0, h1⟩ := all2 hv
    refine o_call (E := WE _) kn0.e (q_cons (p_var rfl h0) q_nil) (rk_call hok) fun _ B1 H1 g1 _ => ?_
    dsimp only
    refine My.ps_ifT g1.c (et_is (et_not (et_test (ev_isiDn (K := K) (p_var rfl (q1.m g1.b h1)) ty))) rfl) fun H2 e2 => ?_
    exact q none B1 H2 (GT.gr (g1.trans (Gr.wide g1.c e2))) rfl
  · obtain ⟨v0, v1, rfl, h0, h1⟩ := all2 hv
    exact o_call (E := WE _) kn0.e (q_cons (p_var rfl h0) q_nil) (rk_bad hb) fun d B2 H2 g2 hd => q d B2 H2 (GT.gr g2) hd
  obtain ⟨vr, vd, rfl, hR0, hL0⟩ := all2 hv
  refine o_call (E := WE _) kn0.e (q_cons (p_var rfl hR0) q_nil) (rk_call hok) fun _ B H1 g1 _ => ?_
  have kn := kn0.gr g1
  have hR := (RkP K r).m g1.b hR0
  have hL := (LqP K (us.map DvP ++ tl)).m g1.b hL0
  dsimp only
  refine ps_ifN kn.e (et_is (et_not (et_test (ev_isiLL (p_var rfl hL)))) rfl) fun H2 e2 => ?_
  dsimp only
  intro d hd
  have kB : Kn T B H2 := ⟨kn.e.trans e2, kn.n, kn.t.ext e2⟩
  have hBd : B d = none := fresh_back kB.e hd
  dsimp only
  refine ps_forS (B := B) (Ex.mut kB.e hBd) (src_lq (p_var rfl hL)) fun B1 H3 g3 => ?_
  have hB1d : B1 d = none := g3.d d hBd (by rw [upd_same]; exact fun z => nomatch z)
  have h3d : H3 d = some (.dT []) := g3.a _ _ upd_same
  have kl : (us.map DvP ++ tl).length = us.length + tl.length := by rw [List.length_append, List.length_map]
  refine ⟨fun i σ H4 => i ≤ us.length ∧ Ex H2 H4 ∧ Ex B1 H4 ∧ H4 d = some (.dT (asK ((us.take i).foldl addD []))) ∧ ∃ x, σ = [some vr, some vd, some (.ref d), x], ⟨Nat.zero_le _, (Ex.new hd).trans g3.a, g3.c, h3d, none, rfl⟩, fun i σ H4 _ h => h.2.2.1, fun i v σ H4 hi pv px => ?_, fun σ H4 pv => ?_⟩
  · obtain ⟨hiu, x2, x1, h4, x, rfl⟩ := pv
    by_cases hlt : i < us.length
    · have hu : (us.map DvP ++ tl).getD i (IsV .non) = DvP us[i] := by
        rw [List.getD_eq_getElem?_getD, List.getElem?_append_left (by rw [List.length_map]; exact hlt), List.getElem?_map, List.getElem?_eq_getElem hlt]
        rfl
      rw [hu] at px
      have ou := hof us[i] (List.getElem_mem hlt)
      unfold gName
      dsimp only
      refine o_call (E := WE _) (o := .ret (IsV .non)) x1 (q_cons (p_var (i := 0) rfl ((RkP K r).m g3.b hR)) (q_cons (p_var (i := 3) rfl px) q_nil)) (nd_call (b := true) hok (toE_of (to_dv us[i])) (sm_dv hok ou) (fitsB_of hok ou)) fun _ B5 H5 g5 _ => ?_
      have e5 := g5.a
      dsimp only
      obtain ⟨a, rfl, ha⟩ := px
      have h5 := e5 _ _ h4
      have hal : (asK ((us.take i).foldl addD [])).length ≤ 1000 := by
        unfold asK
        rw [List.length_map]
        have := ded_len (us.take i)
        unfold dedD at this
        rw [List.length_take] at this
        omega
      refine ⟨_, rfl, _, rfl, d, _, rfl, DPut.t (k := dvK us[i]) h5 (e5 _ _ (x1 _ _ ha)) (sz_lt (by omega)), ?_⟩
      refine ⟨hlt, Ex.mut (x2.trans e5) hd, Ex.mut (x1.trans e5) hB1d, ?_, _, rfl⟩
      rw [upd_same, put_add]
      have : us.take (i + 1) = us.take i ++ [us[i]] := by
        rw [List.take_add_one, List.getElem?_eq_getElem hlt]
        rfl
      rw [this, List.foldl_append]
      rfl
    · rcases ht with ⟨rfl, _⟩ | ⟨q2, d2, rfl, t2, s2, f2, rfl⟩
      · rw [kl, List.length_nil] at hi
        omega
      · obtain rfl : i = us.length := by omega
        have hu : (us.map DvP ++ [q2]).getD us.length (IsV .non) = q2 := by
          rw [List.getD_eq_getElem?_getD, List.getElem?_append_right (by rw [List.length_map]; exact Nat.le_refl _), List.length_map, Nat.sub_self]
          rfl
        rw [hu] at px
        unfold gName
        dsimp only
        exact o_call (E := WE _) (o := .exc aOP []) x1 (q_cons (p_var (i := 0) rfl ((RkP K r).m g3.b hR)) (q_cons (p_var (i := 3) rfl px) q_nil)) (nd_call (b := false) hok t2 s2 f2) fun d3 B5 H5 g5 hd => q d3 B H5 ((GT.gr g1).trans (GT.xn kn (exN_of (e2.trans (x2.trans g5.a))) (kn.t.ext (e2.trans (x2.trans g5.a))))) hd
  · obtain ⟨hiu, x2, x1, h4, x, rfl⟩ := pv
    rcases ht with ⟨rfl, rfl⟩ | ⟨q2, d2, rfl, t2, s2, f2, rfl⟩
    rotate_left
    · rw [kl, List.length_singleton] at hiu
      omega
    rw [kl, List.length_nil, Nat.add_zero, List.take_length] at h4
    have k4 : Kn T (upd B1 d (.dT (asK (dedD us)))) H4 := ⟨fun b o e => by
      by_cases n : b = d
      · subst n
        rw [upd_same] at e
        rw [h4]
        exact e
      · rw [upd_ne n] at e
        exact x1 b o e, nt_upd (g3.e kn.n) (fun ps z => nomatch z), kB.t.ext x2⟩
    refine ⟨vr, rfl, .ref d, rfl, upd B1 d (.dT (asK (dedD us))), r, dedD us, vr, .ref d, rfl, hok, fun u hu => hof u (ded_mem.mp hu), k4, (RkP K r).m (g3.b.trans (Ex.new hB1d)) hR, .inr ⟨d, rfl, upd_same⟩, fun v H5 eN T5 hs => ?_⟩
    exact q v B H5 ((GT.gr g1).trans (GT.xn kn ((exN_of (e2.trans x2)).trans eN) T5)) trivial

/-- all_to -/
abbrev s_all_to : Stmt := topS 59
abbrev N_all_to : List Str := ["ranking", "order", "_", "names", "axes", "found", "name", "by_x", "most_by_y", "by_y"]
theorem sc_all_to : FnScope N_all_to ["ranking", "order"] (defScope s_all_to) := ⟨rfl, rfl, rfl, by decide +kernel, rfl, by decide +kernel, by decide +kernel⟩
theorem ok_all_to {f : Addr} {fd : FuncData} (F : Fun K "all_to" "all_to" s_all_to f fd) {aBR aOP : Addr} {f_need_ranking : Addr} {d_need_ranking : FuncData} (c_need_ranking : CalX P w K mg base "need_ranking" 4 ["ranking"] (spO (RrkG K aBR)) f_need_ranking d_need_ranking) {f_is_among : Addr} {d_is_among : FuncData} (c_is_among : Cal P w K mg base "is_among" 3 ["thing", "least", "most"] (spP (RamgE K)) f_is_among d_is_among) {f_rising : Addr} {d_rising : FuncData} (c_rising : Cal P w K mg base "rising" 5 ["ranking", "derivatives"] (spRis K T) f_rising d_rising) (n_range : mg "range" = none) {tk1 : Nat} (g_MOST_ORDER : mg "MOST_ORDER" = some (.int 12 tk1)) (R_OP : RQ K mg "OutOfPlace" aOP) :
    FnOk P w K mg base (L2.CX P w) 6 f fd ["ranking", "order"] (spOT T (RatO K aBR aOP)) := by
  refine F.okX sc_all_to (spOT_len (by rintro _ _ (⟨_, _, _, _, _, _, _, rfl, rfl⟩ | ⟨_, _, _, _, rfl, rfl⟩) <;> rfl)) (fun cdv A outer s H vs Q E hr h => ?_)
  obtain ⟨B, ps, o, kn, hv, ho, q⟩ := h
  have hu := hu_of hr
  have tk : Takes (cxOf (L2.CX P w) P w K mg base N_all_to "all_to" (defScope s_all_to) f cdv A outer s H E) (fun cls d _ H => E cls d H) := L2.takes_of rfl rfl rfl rfl
  refine ⟨_, (pss_cons (ps_expr (pe_callS c_need_ranking.G (hr.mono (by decide)) (by rfl) c_need_ranking.m c_need_ranking.k c_need_ranking.b (fun σ => passAt tk σ) (pa_cons (pv 0) pa_nil)))
    (pss_cons (ps_if (pt_not (pt_val (pe_call c_is_among.G (hr.mono (by decide)) (by rfl) c_is_among.m c_is_among.k c_is_among.b .nil pass0 (pa_cons (pv 1) (pa_cons pe_int (pa_cons (pe_glob (by rfl) (v := .int 12) g_MOST_ORDER ⟨_, rfl⟩) pa_nil)))))) (pss_one (ps_raiseQ R_OP rfl tk (by rfl))) pss_nil)
    (pss_cons (ps_asg (pv 0) (pg_tup (by rfl) (pgs_cons (pg_name (i := 2) sc_all_to.nd rfl (by first | exact .inl rfl | exact .inr rfl)) (pgs_cons (pg_name (i := 3) sc_all_to.nd rfl (by first | exact .inl rfl | exact .inr rfl)) (pgs_cons (pg_name (i := 4) sc_all_to.nd rfl (by first | exact .inl rfl | exact .inr rfl)) pgs_nil)))))
    (pss_cons (ps_set (i := 5) sc_all_to.nd rfl (by first | exact .inl rfl | exact .inr rfl) (pe_lst pa_nil))
    (pss_cons (ps_for (L2.passes_of rfl) rfl (pi_tup (pv 3)) (pg_name (i := 6) sc_all_to.nd rfl (by first | exact .inl rfl | exact .inr rfl))
      (pss_one (ps_for (L2.passes_of rfl) rfl (pi_range1 (by rfl) n_range (pa_cons (pe_op op_add (pv 1) pe_int) pa_nil)) (pg_name (i := 7) sc_all_to.nd rfl (by first | exact .inl rfl | exact .inr rfl))
      (pss_cons (ps_set (i := 8) sc_all_to.nd rfl (by first | exact .inl rfl | exact .inr rfl) (pe_ifExp (pt_cmpR op_in_seq pe_str (pv 4) (by rfl)) (pe_op op_sub (pv 1) (pv 7)) pe_int))
    (pss_one (ps_expr (pe_bm PySem.F.plainAttrs_list PySem.F.slot_list_extend PySem.F.type_list_extend mt_extend (pv 5) (pa_cons (pe_lc (own := [("by_y", 9)]) rfl sc_all_to.nd (pi_range1 (by rfl) n_range (pa_cons (pe_op op_add (pv 8) pe_int) pa_nil)) (blkOk_by (N := N_all_to) (sc := defScope s_all_to) (by decide +kernel)) (fun _ _ _ _ _ => (pg_name (i := 9) sc_all_to.nd rfl (Or.inl rfl))) (fun _ _ _ _ _ => pts_nil) (fun _ _ _ _ _ => (pe_tup (pa_cons (pv 6) (pa_cons (pv 7) (pa_cons (pv 9) pa_nil)))))) pa_nil))))))))
    (pss_one (ps_ret (pe_call c_rising.G (hr.mono (by decide)) (by rfl) c_rising.m c_rising.k c_rising.b .nil pass0 (pa_cons (pv 0) (pa_cons (pv 5) pa_nil)))))))))), ?_⟩
  rcases ho with ⟨r, q1, d1, hok, t1, s1, hf, rfl, rfl⟩ | ⟨q0, q1, w0, hb, rfl, rfl⟩
  · obtain ⟨v0, v1, rfl, h0, h1⟩ := all2 hv
    refine o_call (E := WE _) kn.e (q_cons (p_var rfl h0) q_nil) (rk_call hok) fun _ B1 H1 g1 _ => ?_
    dsimp only
    refine My.ps_ifT g1.c (et_is (et_not (et_test (ev_p (p_callP (R := RamgE K) (p := IsV (.bl (amgB 0 12 d1))) (ps := [q1, IsV (.int 0), IsV (.int 12)]) (q_cons (p_var rfl (q1.m g1.b h1)) (q_cons p_c (q_cons p_c q_nil))) ⟨q1, d1, 0, 12, t1, s1, rfl, rfl⟩)))) (by rw [hf]; rfl)) fun H2 e2 => ?_
    exact q none B1 H2 (GT.gr (g1.trans (Gr.wide g1.c e2))) rfl
  · obtain ⟨v0, v1, rfl, h0, h1⟩ := all2 hv
    exact o_call (E := WE _) kn.e (q_cons (p_var rfl h0) q_nil) (rk_bad hb) fun d B2 H2 g2 hd => q d B2 H2 (GT.gr g2) hd

end
end K12
namespace K12
open PySem L2 My
/-- a draw's state at d -/
def DSt (H : Hp) (d : Addr) (n : Nat) : Prop := ∃ l c t : Int, H d = some (.dK [(.inr "left", .int l), (.inr "cell", .int c), (.inr "turns", .int t)]) ∧ 0 ≤ l ∧ 0 ≤ t ∧ t ≤ n
/-- all but d as it was -/
def SameBut (d : Addr) (H H' : Hp) : Prop := ∀ b o, b ≠ d → H b = some o → H' b = some o
def spMixed : Sp := fun vs H Q _ => ∃ c k : Int, vs = [.int c, .int k] ∧ 0 ≤ k ∧ k ≤ 2 ^ 40 ∧ ∀ (m : Int) (H' : Hp), 0 ≤ m → m < 2147483647 → Same H H' → Q (.int m) H'
def spDraw : Sp := fun vs H Q _ => ∃ c k : Int, vs = [.int c, .int k] ∧ 0 ≤ k ∧ k ≤ 1000 ∧ ∀ (d : Addr) (H' : Hp), H d = none → DSt H' d 1000000 → Same H H' → Q (.ref d) H'
def spDigit : Sp := fun vs H Q _ => ∃ (d : Addr) (z : Int) (n : Nat), vs = [.ref d, .int z] ∧ 0 < z ∧ z < 1073741824 ∧ DSt H d n ∧ n ≤ 2 ^ 39 ∧ ∀ (m : Int) (H' : Hp), 0 ≤ m → m < z → DSt H' d (n + 4) → SameBut d H H' → Q (.int m) H'

abbrev s_Lmixed : Stmt := topS 61
abbrev N_Lmixed : List Str := ["_law_cell", "_law_k", "_law_mixed_here"]
theorem sc_Lmixed : FnScope N_Lmixed ["_law_cell", "_law_k"] (defScope s_Lmixed) := ⟨rfl, rfl, rfl, by decide +kernel, rfl, by decide +kernel, by decide +kernel⟩
abbrev s_Ldraw : Stmt := topS 62
abbrev N_Ldraw : List Str := ["_law_cell", "_law_k"]
theorem sc_Ldraw : FnScope N_Ldraw ["_law_cell", "_law_k"] (defScope s_Ldraw) := ⟨rfl, rfl, rfl, by decide +kernel, rfl, by decide +kernel, by decide +kernel⟩
section
variable {P : Program} {w : World} {K : PySem.W.Frag} {mg : Str → Option Value} {base : Heap}
theorem ok_Lmixed {f : Addr} {fd : FuncData} (F : Fun K "_law_mixed" "_law_mixed" s_Lmixed f fd) : FnOk P w K mg base CX0 1 f fd ["_law_cell", "_law_k"] spMixed := by
  refine F.ok sc_Lmixed (fun vs H Q E h => ?_) (fun cdv A outer s H vs Q E hr h => ?_)
  · obtain ⟨c, k, rfl, _⟩ := h
    rfl
  · obtain ⟨c, k, rfl, hk0, hk, q⟩ := h
    refine ⟨_, (pss_cons (ps_set (i := 2) sc_Lmixed.nd rfl (by first | exact .inl rfl | exact .inr rfl) (pe_op op_add (pe_op op_add (pe_op op_mod (pv 0) (pe_ix ix_list (pe_lst (pa_cons pe_int (pa_cons pe_int (pa_cons pe_int (pa_cons pe_int pa_nil))))) (pe_op op_mod (pv 1) pe_int) (fun _ _ => rfl))) (pe_op op_mul pe_int (pv 1))) pe_int))
    (pss_one (ps_ret (pe_op op_mod (pe_op op_mul (pe_op op_mod (pe_op op_mul (pv 2) (pv 2)) pe_int) pe_int) pe_int)))), ?_⟩
    walk_at "go"
    refine ⟨My.small (by decide), fun p hp => ?_⟩
    walk_at "go"
    obtain ⟨v, hv, e⟩ := My.atIn [V.int 1000000007, V.int 998244353, V.int 2147483629, V.int 1000000009] (k % 4) (by omega) (by show k % 4 < 4; omega)
    obtain ⟨y, rfl, hy⟩ : ∃ y, v = V.int y ∧ 0 < y ∧ y < 2147483647 := by
      simp only [List.mem_cons, List.not_mem_nil, or_false] at hv
      rcases hv with rfl | rfl | rfl | rfl <;> exact ⟨_, rfl, by decide⟩

    refine ⟨p, _, _, _, rfl, rfl, My.lstNew, e, ?_⟩
    have h1 := Int.emod_nonneg c (b := y) (by omega)
    have h2 := Int.emod_lt_of_pos c (b := y) (by omega)
    refine ⟨_, _, rfl, rfl, hy.1, ?_⟩
    walk_at "go"
    exact q _ _ (Int.emod_nonneg _ (by decide)) (Int.emod_lt_of_pos _ (by decide)) (My.new hp)
theorem ok_Ldraw {f : Addr} {fd : FuncData} (F : Fun K "_law_draw" "_law_draw" s_Ldraw f fd) : FnOk P w K mg base CX0 1 f fd ["_law_cell", "_law_k"] spDraw := by
  refine F.ok sc_Ldraw (fun vs H Q E h => ?_) (fun cdv A outer s H vs Q E hr h => ?_)
  · obtain ⟨c, k, rfl, _⟩ := h
    rfl
  · obtain ⟨c, k, rfl, hk0, hk, q⟩ := h
    have hu := hu_of hr
    refine ⟨_, (pss_one (ps_ret (pe_disp (pps_cons pe_str (pe_ifExp (pt_cmpR op_ge (pv 0) (pe_op op_pow pe_int pe_int) (nomark _)) (pv 0) pe_int) (pps_cons pe_str (pv 0) (pps_cons pe_str (pe_op op_mul pe_int (pv 1)) pps_nil))) rfl rfl (by simp) (by decide)))), ?_⟩
    intro p hp
    walk_at "go"
    refine ite2 (fun h => ?_) (fun h => ?_)
    · walk_at "go"
      refine ⟨upd_same, [(.inr "left", .int c), (.inr "cell", .int c), (.inr "turns", .int (1000 * k))], rfl, (by show 3 ≤ 15; decide), ?_⟩
      refine q _ _ hp ⟨c, c, 1000 * k, ?_, ?_, by omega, by omega⟩ ?_
      · rw [upd_same]; rfl
      · have := of_decide_eq_true h
        simp at this
        omega
      · exact My.new2 hp
    · walk_at "go"
      refine ⟨upd_same, [(.inr "left", .int 0), (.inr "cell", .int c), (.inr "turns", .int (1000 * k))], rfl, (by show 3 ≤ 15; decide), ?_⟩
      refine q _ _ hp ⟨0, c, 1000 * k, ?_, by omega, by omega, by omega⟩ ?_
      · rw [upd_same]; rfl
      · exact My.new2 hp
theorem sb_trans {d : Addr} {H H1 H2 : Hp} (a : SameBut d H H1) (b : SameBut d H1 H2) : SameBut d H H2 := fun c o n e => b c o n (a c o n e)
theorem sb_same {d : Addr} {H H1 : Hp} (a : Same H H1) : SameBut d H H1 := fun c o _ e => a c o e
theorem sb_upd {d : Addr} {H : Hp} {o : HO} : SameBut d H (upd H d o) := fun c u n e => by rw [upd_ne n]; exact e
theorem dget_left {H : Hp} {d : Addr} {a b c : V} (h : H d = some (.dK [(.inr "left", a), (.inr "cell", b), (.inr "turns", c)])) : DGet H d (.str "left") (some a) := DGet.k (k := .inr "left") h
theorem dget_cell {H : Hp} {d : Addr} {a b c : V} (h : H d = some (.dK [(.inr "left", a), (.inr "cell", b), (.inr "turns", c)])) : DGet H d (.str "cell") (some b) := DGet.k (k := .inr "cell") h
theorem dget_turns {H : Hp} {d : Addr} {a b c : V} (h : H d = some (.dK [(.inr "left", a), (.inr "cell", b), (.inr "turns", c)])) : DGet H d (.str "turns") (some c) := DGet.k (k := .inr "turns") h
theorem dput_left {H : Hp} {d : Addr} {a b c v : V} (h : H d = some (.dK [(.inr "left", a), (.inr "cell", b), (.inr "turns", c)])) : DPut H d (.str "left") v (upd H d (.dK [(.inr "left", v), (.inr "cell", b), (.inr "turns", c)])) := DPut.k (k := .inr "left") h (by show 3 < sizeLine; decide)
theorem dput_turns {H : Hp} {d : Addr} {a b c v : V} (h : H d = some (.dK [(.inr "left", a), (.inr "cell", b), (.inr "turns", c)])) : DPut H d (.str "turns") v (upd H d (.dK [(.inr "left", a), (.inr "cell", b), (.inr "turns", v)])) := DPut.k (k := .inr "turns") h (by show 3 < sizeLine; decide)

abbrev s_Ldigit : Stmt := topS 63
abbrev N_Ldigit : List Str := ["_law_state", "_law_size", "_law_j", "_law_found"]
theorem sc_Ldigit : FnScope N_Ldigit ["_law_state", "_law_size"] (defScope s_Ldigit) := ⟨rfl, rfl, rfl, by decide +kernel, rfl, by decide +kernel, by decide +kernel⟩
theorem ok_Ldigit {f fM : Addr} {fd fdM : FuncData} (F : Fun K "_law_digit" "_law_digit" s_Ldigit f fd) (G : FnOk P w K mg base CX0 1 fM fdM ["_law_cell", "_law_k"] spMixed)
    (n_range : mg "range" = none) (m_Lmixed : mg "_law_mixed" = some (.ref fM)) (k_Lmixed : PySem.W.keepIn K (.ref fM) = true) (b_Lmixed : Binds K fdM ["_law_cell", "_law_k"] []) : FnOk P w K mg base CX0 2 f fd ["_law_state", "_law_size"] spDigit := by
  refine F.ok sc_Ldigit (fun vs H Q E h => ?_) (fun cdv A outer s H vs Q E hr h => ?_)
  · obtain ⟨d, z, n, rfl, _⟩ := h
    rfl
  · obtain ⟨d, z, n, rfl, hz, hz2, ⟨l, c, t, hd, hl, ht, htn⟩, hn, q⟩ := h
    have hu := hu_of hr
    refine ⟨_, (pss_cons (ps_if (pt_cmpR op_eq (pe_dget hu (pv 0) pe_str (fun _ _ => rfl)) pe_int (nomark _)) (pss_one (ps_for PassesOwn.never rfl (pi_range1 (by rfl) n_range (pa_cons pe_int pa_nil)) (pg_name (i := 2) sc_Ldigit.nd rfl (by first | exact .inl rfl | exact .inr rfl))
      (pss_cons (ps_dput hu (pv 0) pe_str (pe_op op_add (pe_dget hu (pv 0) pe_str (fun _ _ => rfl)) pe_int) rfl)
    (pss_one (ps_dput hu (pv 0) pe_str (pe_op op_add (pe_op op_mul (pe_dget hu (pv 0) pe_str (fun _ _ => rfl)) pe_int) (pe_call G (hr.mono (by decide)) (by rfl) m_Lmixed k_Lmixed b_Lmixed .nil pass0 (pa_cons (pe_dget hu (pv 0) pe_str (fun _ _ => rfl)) (pa_cons (pe_dget hu (pv 0) pe_str (fun _ _ => rfl)) pa_nil)))) rfl))))) pss_nil)
    (pss_cons (ps_set (i := 3) sc_Ldigit.nd rfl (by first | exact .inl rfl | exact .inr rfl) (pe_op op_mod (pe_dget hu (pv 0) pe_str (fun _ _ => rfl)) (pv 1)))
    (pss_cons (ps_dput hu (pv 0) pe_str (pe_op op_fdiv (pe_dget hu (pv 0) pe_str (fun _ _ => rfl)) (pv 1)) rfl)
    (pss_one (ps_ret (pv 3)))))), ?_⟩
    -- what follows the if, from any state
    have rest : ∀ (x : Option V) (l t : Int) (H1 : Hp), H1 d = some (.dK [(.inr "left", .int l), (.inr "cell", .int c), (.inr "turns", .int t)]) → 0 ≤ l → 0 ≤ t → t ≤ (n + 4 : Nat) → SameBut d H H1 →
      ∀ D : Ends, D.rt = Q → tSeq (tAsg (tOp (rI (fun _ j => 0 < j) fun i j => .int (i % j)) (tDGet (tVar 0) (tC (.str "left"))) (tVar 1)) (gName 3)) (tSeq (sDPut (tVar 0) (tC (.str "left")) (tOp (rI CDiv fun i j => .int (i / j)) (tDGet (tVar 0) (tC (.str "left"))) (tVar 1))) (tRet (tVar 3))) D [some (.ref d), some (.int z), x, none] H1 := by
      intro x l t H1 h1 hl ht htn sb D hD
      walk_at "go"
      refine ⟨_, _, rfl, dget_left h1, ?_⟩
      walk_at "go"
      refine ⟨_, _, rfl, dget_left h1, ?_⟩
      walk_at "go"
      refine ⟨_, _, rfl, dput_left h1, ?_⟩
      walk_at "go"
      show D.rt _ _
      rw [hD]
      exact q _ _ (Int.emod_nonneg _ (by omega)) (Int.emod_lt_of_pos _ hz) ⟨_, _, _, upd_same, Int.ediv_nonneg hl (by omega), ht, htn⟩ (sb_trans sb sb_upd)
    walk_at "go"
    refine ⟨_, _, rfl, dget_left hd, ?_⟩
    walk_at "go"
    refine ite2 (fun h => ?_) (fun h => ?_)
    · walk_at "go"
      refine ⟨by decide, by decide, for_range (lo := 0) (n := 4) (fun i σ H1 => ∃ (x : Option V) (l t : Int), σ = [some (.ref d), some (.int z), x, none] ∧ H1 d = some (.dK [(.inr "left", .int l), (.inr "cell", .int c), (.inr "turns", .int t)]) ∧ 0 ≤ l ∧ 0 ≤ t ∧ t ≤ (n + i : Nat) ∧ SameBut d H H1)
        ⟨none, l, t, rfl, hd, hl, ht, by omega, fun c o n e => e⟩ ?_ ?_⟩
      · rintro i σ H1 hi ⟨x, l1, t1, rfl, h1, hl1, ht1, ht2, sb⟩
        walk_at "go"
        refine ⟨_, _, rfl, dget_turns h1, ?_⟩
        walk_at "go"
        refine ⟨_, _, rfl, dput_turns h1, ?_⟩
        walk_at "go"
        refine ⟨_, _, rfl, dget_left upd_same, ?_⟩
        walk_at "go"
        refine ⟨_, _, rfl, dget_cell upd_same, ?_⟩
        walk_at "go"
        refine ⟨_, _, rfl, dget_turns upd_same, ?_⟩
        refine ⟨c, t1 + 1, rfl, by omega, by omega, fun m H2 hm0 hm1 S => ?_⟩
        walk_at "go"
        refine ⟨_, _, rfl, dput_left (S _ _ upd_same), ?_⟩
        refine ⟨_, _, _, rfl, upd_same, ?_, by omega, by omega, sb_trans sb (sb_trans sb_upd (sb_trans (sb_same S) sb_upd))⟩
        have := Int.mul_nonneg hl1 (by decide : (0 : Int) ≤ 2147483647)
        omega
      · rintro σ H1 ⟨x, l1, t1, rfl, h1, hl1, ht1, ht2, sb⟩
        exact rest x l1 t1 H1 h1 hl1 ht1 ht2 sb _ rfl
    · exact rest none l t H hd hl ht (by omega) (fun c o n e => e) _ rfl
end
end K12
namespace K12
open PySem L2 My
def one (c : Nat) : Str := ⟨#[c]⟩
theorem strExt {x y : Str} (h : x.cps.toList = y.cps.toList) : x = y := by
  obtain ⟨a⟩ := x
  obtain ⟨b⟩ := y
  exact congrArg Str.mk (Array.toList_inj.mp h)
theorem append_list (x y : Str) : (x ++ y).cps.toList = x.cps.toList ++ y.cps.toList := by
  show (x.cps ++ y.cps).toList = _
  exact Array.toList_append
theorem join_ones : ∀ cs : List Nat, Str.join (Str.ofString "") (cs.map one) = ⟨cs.toArray⟩
  | [] => rfl
  | [c] => rfl
  | c :: c' :: cs => by
    have ih := join_ones (c' :: cs)
    show one c ++ Str.ofString "" ++ Str.join (Str.ofString "") ((c' :: cs).map one) = _
    rw [ih]
    apply strExt
    rw [append_list, append_list]
    have : (Str.ofString "").cps.toList = [] := by decide +kernel
    rw [this]
    simp [one]
theorem txt_ones (cs : List Nat) : Txt.join (Str.ofString "") (cs.map one) = ⟨cs.toArray⟩ := by
  show Builtin.Str.glued _ _ = _
  rw [StrLaws.glued_eq_join]
  exact join_ones cs
theorem nm_ones {cs : List Nat} (h1 : 1 ≤ cs.length) (h2 : cs.length ≤ 8) (h3 : ∀ c ∈ cs, 97 ≤ c ∧ c ≤ 122) : IsNm ⟨cs.toArray⟩ := by
  unfold My.IsNm My.isNmB
  have : (Str.mk cs.toArray).length = cs.length := by show cs.toArray.size = _; simp
  rw [this]
  simp only [Bool.and_eq_true, decide_eq_true_eq, List.all_eq_true]
  exact ⟨⟨h1, h2⟩, fun c hc => h3 c (by simpa using hc)⟩
def spWord : Sp := fun vs H Q _ => ∃ (d : Addr) (n : Nat), vs = [.ref d] ∧ DSt H d n ∧ n ≤ 2 ^ 38 ∧ ∀ (x : Str) (H' : Hp), IsNm x → DSt H' d (n + 50) → SameBut d H H' → Q (.str x) H'
theorem DSt.le {H : Hp} {d : Addr} {n m : Nat} (h : DSt H d n) (k : n ≤ m) : DSt H d m := by
  obtain ⟨l, c, t, a, b, e, f⟩ := h
  exact ⟨l, c, t, a, b, e, by omega⟩
theorem DSt.same {H H' : Hp} {d : Addr} {n : Nat} (h : DSt H d n) (k : Same H H') : DSt H' d n := by
  obtain ⟨l, c, t, a, b⟩ := h
  exact ⟨l, c, t, k _ _ a, b⟩
theorem DSt.ne {H : Hp} {d p : Addr} {n : Nat} (h : DSt H d n) (k : H p = none) : d ≠ p := by
  obtain ⟨l, c, t, a, b⟩ := h
  exact ne_of_none a k
theorem DSt.upd {H : Hp} {d p : Addr} {n : Nat} {o : HO} (h : DSt H d n) (k : d ≠ p) : DSt (upd H p o) d n := by
  obtain ⟨l, c, t, a, b⟩ := h
  exact ⟨l, c, t, by rw [upd_ne k]; exact a, b⟩
theorem len_ones (cs : List Nat) : ((cs.map one).map (·.length)).sum = cs.length := by
  induction cs with
  | nil => rfl
  | cons c r ih =>
    simp only [List.map_cons, List.sum_cons, List.length_cons, ih]
    show 1 + r.length = _
    omega
theorem sb_new {d p : Addr} {H H1 : Hp} {o : HO} (a : SameBut d H H1) (h : H p = none) : SameBut d H (upd H1 p o) := fun c u n e => by
  rw [upd_ne (ne_of_none e h)]
  exact a c u n e
theorem sb_free {d p : Addr} {H H1 : Hp} (a : SameBut d H H1) (n : p ≠ d) (h : H1 p = none) : H p = none := by
  cases e : H p with
  | none => rfl
  | some o =>
    rw [a p o n e] at h
    cases h
abbrev s_Lword : Stmt := topS 64
abbrev N_Lword : List Str := ["_law_state", "_law_signs", "_law_j", "_law_some"]
theorem sc_Lword : FnScope N_Lword ["_law_state"] (defScope s_Lword) := ⟨rfl, rfl, rfl, by decide +kernel, rfl, by decide +kernel, by decide +kernel⟩
section
variable {P : Program} {w : World} {K : PySem.W.Frag} {mg : Str → Option Value} {base : Heap}
theorem ok_Lword {f fD : Addr} {fd fdD : FuncData} (F : Fun K "_law_word" "_law_word" s_Lword f fd) (G : FnOk P w K mg base CX0 2 fD fdD ["_law_state", "_law_size"] spDigit)
    (n_range : mg "range" = none) (m_Ldigit : mg "_law_digit" = some (.ref fD)) (k_Ldigit : PySem.W.keepIn K (.ref fD) = true) (b_Ldigit : Binds K fdD ["_law_state", "_law_size"] []) : FnOk P w K mg base CX0 3 f fd ["_law_state"] spWord := by
  refine F.ok sc_Lword (fun vs H Q E h => ?_) (fun cdv A outer s H vs Q E hr h => ?_)
  · obtain ⟨d, n, rfl, _⟩ := h
    rfl
  · obtain ⟨d, n, rfl, hd, hn, q⟩ := h
    have hu := hu_of hr
    refine ⟨_, (pss_cons (ps_setLc (i := 1) (own := [("_law_j", 2)]) rfl sc_Lword.nd rfl rfl (sw_true rfl rfl rfl (by decide +kernel)) (pi_range1 (by rfl) n_range (pa_cons (pe_op op_add pe_int (pe_call G (hr.mono (by decide)) (by rfl) m_Ldigit k_Ldigit b_Ldigit .nil pass0 (pa_cons (pv 0) (pa_cons pe_int pa_nil)))) pa_nil)) (blkOk_by (N := N_Lword) (sc := defScope s_Lword) (by decide +kernel)) (fun _ _ _ _ _ => (pg_name (i := 2) sc_Lword.nd rfl (by first | exact .inl rfl | exact .inr rfl))) (fun _ _ _ _ _ => pts_nil) (fun _ _ _ _ _ => (pe_ix ix_str pe_str (pe_call G (hr.mono (by decide)) (by rfl) m_Ldigit k_Ldigit b_Ldigit .nil pass0 (pa_cons (pv 0) (pa_cons pe_int pa_nil))) (fun _ _ => rfl))))
    (pss_cons (ps_set (i := 3) sc_Lword.nd rfl (by first | exact .inl rfl | exact .inr rfl) (pe_lst (pa_cons (pe_join pe_str (pv 1)) (pa_cons (pe_join pe_str (pe_slice sl_list (pv 1) po_none (po_some pe_int))) (pa_cons pe_str (pa_cons pe_str (pa_cons pe_str (pa_cons pe_str (pa_cons pe_str (pa_cons pe_str (pa_cons pe_str (pa_cons pe_str (pa_cons pe_str (pa_cons pe_str pa_nil))))))))))))))
    (pss_one (ps_ret (pe_ix ix_list (pv 3) (pe_call G (hr.mono (by decide)) (by rfl) m_Ldigit k_Ldigit b_Ldigit .nil pass0 (pa_cons (pv 0) (pa_cons pe_int pa_nil))) (fun _ _ => rfl)))))), ?_⟩
    walk_at "go"
    refine ⟨d, 8, n, rfl, by decide, by decide, hd, by omega, fun m H1 m0 m1 hd1 S1 => ?_⟩
    walk_at "go"
    have hdD : ∀ {D : Addr}, H1 D = none → d ≠ D := fun e => hd1.ne e
    refine ⟨by omega, by omega, fun D hD => lc_range (lo := 0) (n := (1 + m).toNat) (fun i H2 => DSt H2 d (n + 4 + 4 * i) ∧ SameBut d H H2 ∧ ∃ cs : List Nat, H2 D = some (.lst ((cs.map one).map V.str)) ∧ cs.length = i ∧ ∀ c ∈ cs, 97 ≤ c ∧ c ≤ 122)
      ⟨hd1.upd (hdD hD), sb_trans S1 (sb_same (My.new hD)), [], upd_same, rfl, fun c h => absurd h (List.not_mem_nil)⟩ ?_ ?_⟩
    · rintro i H2 hi ⟨h1, S2, cs, h2, h3, h4⟩
      walk_at "go"
      dsimp only [tYes]
      walk_at "go"
      refine ⟨d, 26, _, rfl, by decide, by decide, h1, by omega, fun c H3 c0 c1 hd3 S3 => ?_⟩
      have h26 : (Str.ofString "abcdefghijklmnopqrstuvwxyz").cps.toList.length = 26 := by decide +kernel
      obtain ⟨u, hu1, e⟩ := My.atIn ((Str.ofString "abcdefghijklmnopqrstuvwxyz").cps.toList) c c0 (by omega)
      have hu2 : ∀ u ∈ (Str.ofString "abcdefghijklmnopqrstuvwxyz").cps.toList, 97 ≤ u ∧ u ≤ 122 := by decide +kernel
      refine ⟨_, _, u, rfl, rfl, by decide +kernel, e, ?_⟩
      have hne : D ≠ d := (hdD hD).symm
      refine ⟨_, S3 _ _ hne h2, by rw [List.length_map, List.length_map, h3]; exact small1000 (by omega), (hd3.upd hne.symm).le (by omega), sb_new (sb_trans S2 S3) (sb_free S1 hne hD), cs ++ [u], by rw [upd_same, List.map_append, List.map_append]; rfl, by rw [List.length_append, h3]; rfl, ?_⟩
      intro c hc
      rcases List.mem_append.mp hc with hc | hc
      · exact h4 c hc
      · rw [List.mem_singleton.mp hc]
        exact hu2 _ hu1
    · rintro H2 ⟨h1, S2, cs, h2, h3, h4⟩
      have hne : D ≠ d := (hdD hD).symm
      have hDH := sb_free S1 hne hD
      walk_at "go"
      refine ⟨_, _, cs.map one, rfl, rfl, .inl (SqL.of h2), ?_, ?_⟩
      · rw [len_ones, h3]
        have : (Str.ofString "").length = 0 := by decide +kernel
        rw [this]
        omega
      rw [txt_ones]
      walk_at "go"
      refine ⟨_, _, rfl, SqL.of h2, fun p hp => ?_⟩
      rw [show (2 : Int) = ((2 : Nat) : Int) from rfl, My.cutTo, ← List.map_take, ← List.map_take]
      walk_at "go"
      refine ⟨_, _, (cs.take 2).map one, rfl, rfl, .inl My.lstNew, ?_, ?_⟩
      · rw [len_ones, List.length_take]
        have : (Str.ofString "").length = 0 := by decide +kernel
        rw [this]
        omega
      rw [txt_ones]
      walk_at "go"
      refine ⟨My.small (by show 12 ≤ 1000; decide), fun r hr' => ?_⟩
      walk_at "go"
      have hpH : H p = none := sb_free S2 (h1.ne hp).symm hp
      have h1' := h1.upd (o := .lst (((cs.take 2).map one).map V.str)) (h1.ne hp)
      have hrH : H r = none := sb_free (sb_new S2 hpH) (h1'.ne hr').symm hr'
      refine ⟨d, 12, _, rfl, by decide, by decide, h1'.upd (h1'.ne hr'), by omega, fun c H3 c0 c1 hd3 S3 => ?_⟩
      obtain ⟨v, hv, e⟩ := My.atIn [V.str ⟨cs.toArray⟩, V.str ⟨(cs.take 2).toArray⟩, V.str "u", V.str "v", V.str "w", V.str "x", V.str "y", V.str "total", V.str "names", V.str "case", V.str "axes", V.str "tell"] c c0 c1
      refine ⟨r, _, _, _, rfl, rfl, SqL.of (S3 _ _ (h1'.ne hr').symm upd_same), e, ?_⟩
      obtain ⟨x, rfl, hx⟩ : ∃ x, v = V.str x ∧ IsNm x := by
        simp only [List.mem_cons, List.not_mem_nil, or_false] at hv
        rcases hv with rfl | rfl | rfl | rfl | rfl | rfl | rfl | rfl | rfl | rfl | rfl | rfl
        · exact ⟨_, rfl, nm_ones (by omega) (by omega) h4⟩
        · exact ⟨_, rfl, nm_ones (by rw [List.length_take]; omega) (by rw [List.length_take]; omega) fun c hc => h4 c (List.mem_of_mem_take hc)⟩
        all_goals exact ⟨_, rfl, (by unfold My.IsNm; decide +kernel)⟩
      exact q x H3 hx (hd3.le (by omega)) (sb_trans (sb_new (sb_new S2 hpH) hrH) S3)
end
end K12

namespace K12
set_option autoImplicit false
open PySem PySem.W L2 Evl My LamX
/-- what a draw leaves: the state's dict at d changed, all else kept; B' known behind, without d -/
structure GrD (d : Addr) (B H B' H' : Hp) : Prop where
  s : SameBut d H H'
  b : Ex B B'
  c : Ex B' H'
  d : B' d = none
  n : NoTab B → NoTab B'
  f : ∀ x, B x = none → H x ≠ none → B' x = none
theorem GrD.refl {d : Addr} {B H : Hp} (e : Ex B H) (h : B d = none) : GrD d B H B H := ⟨fun _ _ _ e => e, Ex.refl B, e, h, id, fun _ h _ => h⟩
theorem GrD.trans {d : Addr} {B H B1 H1 B2 H2 : Hp} (g : GrD d B H B1 H1) (k : GrD d B1 H1 B2 H2) : GrD d B H B2 H2 := ⟨sb_trans g.s k.s, g.b.trans k.b, k.c, k.d, fun z => k.n (g.n z), fun x hb hh => if n : x = d then n ▸ k.d else k.f x (g.f x hb hh) (by cases e : H x with | none => exact absurd e hh | some o => rw [g.s x o n e]; exact fun z => nomatch z)⟩
theorem ex_sb {d : Addr} {B H H' : Hp} (e : Ex B H) (h : B d = none) (s : SameBut d H H') : Ex B H' := fun b o k => s b o (ne_of_none k h) (e b o k)
theorem GrD.same {d : Addr} {B H H' : Hp} (e : Ex B H) (h : B d = none) (s : SameBut d H H') : GrD d B H B H' := ⟨s, Ex.refl B, ex_sb e h s, h, id, fun _ h _ => h⟩
theorem GrD.gr {d : Addr} {B H B' H' : Hp} {n : Nat} (g : Gr B H B' H') (h : B d = none) (hd : DSt H d n) : GrD d B H B' H' := ⟨fun b o _ e => g.a b o e, g.b, g.c, g.d d h (by obtain ⟨l, c, t, e, _⟩ := hd; rw [e]; exact fun z => nomatch z), g.e, fun x hb hh => g.d x hb hh⟩
theorem DSt.ex {H H' : Hp} {d : Addr} {n : Nat} (h : DSt H d n) (e : Ex H H') : DSt H' d n := by
  obtain ⟨l, c, t, a, b⟩ := h
  exact ⟨l, c, t, e _ _ a, b⟩
def lets8 : List Str := signsOf "uvwpqrst"
theorem lets_nm : ∀ y ∈ lets8, My.IsNm y := by
  unfold My.IsNm
  decide +kernel
theorem lets_u : ("u" : Str) ∈ lets8 ∧ ("v" : Str) ∈ lets8 ∧ ("w" : Str) ∈ lets8 := by decide +kernel
theorem free_one {xs : List Str} (h : xs.length ≤ 2) : ∃ y ∈ lets8, y ∉ xs := by
  obtain ⟨h1, h2, h3⟩ := lets_u
  have n1 : ("u" : Str) ≠ "v" := by decide +kernel
  have n2 : ("u" : Str) ≠ "w" := by decide +kernel
  have n3 : ("v" : Str) ≠ "w" := by decide +kernel
  by_cases a : ("u" : Str) ∈ xs
  · by_cases b : ("v" : Str) ∈ xs
    · by_cases c : ("w" : Str) ∈ xs
      · exfalso
        match xs, h with
        | [], _ => exact (List.not_mem_nil a).elim
        | [x], _ =>
          rw [List.mem_singleton] at a b
          exact n1 (a.trans b.symm)
        | [x, y], _ =>
          simp only [List.mem_cons, List.not_mem_nil, or_false] at a b c
          rcases a with a | a <;> rcases b with b | b <;> rcases c with c | c <;> first | exact n1 (a.trans b.symm) | exact n2 (a.trans c.symm) | exact n3 (b.trans c.symm)
      · exact ⟨_, h3, c⟩
    · exact ⟨_, h2, b⟩
  · exact ⟨_, h1, a⟩
theorem all_strs {H : Hp} : ∀ ys : List Str, AllP (ys.map fun y => IsV (.str y)) (ys.map V.str) H
  | [] => trivial
  | y :: ys => ⟨rfl, all_strs ys⟩
def spNames : Sp := fun vs H Q _ => ∃ (d : Addr) (n m : Nat), vs = [.ref d, .int (m : Int)] ∧ m ≤ 3 ∧ DSt H d n ∧ n ≤ 2 ^ 37 ∧ ∀ (p : Addr) (xs : List Str) (H' : Hp), H p = none → H' p = some (.lst (xs.map V.str)) → xs.length = m → xs.Nodup → (∀ x ∈ xs, My.IsNm x) → DSt H' d (n + 200) → SameBut d H H' → p ≠ d → Q (.ref p) H'
section
variable {P : Program} {w : World} {K : PySem.W.Frag} {mg : Str → Option Value} {base : Heap}

/-- _law_names -/
abbrev s_Lnames : Stmt := topS 65
abbrev N_Lnames : List Str := ["_law_state", "_law_many", "_law_found", "_law_j", "_law_some", "_law_one"]
theorem sc_Lnames : FnScope N_Lnames ["_law_state", "_law_many"] (defScope s_Lnames) := ⟨rfl, rfl, rfl, by decide +kernel, rfl, by decide +kernel, by decide +kernel⟩
theorem ok_Lnames {f : Addr} {fd : FuncData} (F : Fun K "_law_names" "_law_names" s_Lnames f fd)  {f_Lword : Addr} {d_Lword : FuncData} (c_Lword : Cal P w K mg base "_law_word" 3 ["_law_state"] spWord f_Lword d_Lword) (n_range : mg "range" = none) (n_list : mg "list" = none)  :
    FnOk P w K mg base CX0 4 f fd ["_law_state", "_law_many"] spNames := by
  refine F.ok sc_Lnames (fun vs H Q E h => by obtain ⟨d, n, m, rfl, _⟩ := h; rfl) (fun cdv A outer s H vs Q E hr h => ?_)
  obtain ⟨d, n, m, rfl, hm, hd, hn, q⟩ := h
  have hu := hu_of hr
  refine ⟨_, (pss_cons (ps_set (i := 2) sc_Lnames.nd rfl (by first | exact .inl rfl | exact .inr rfl) (pe_lst pa_nil))
    (pss_cons (ps_for PassesOwn.never rfl (pi_range1 (by rfl) n_range (pa_cons (pv 1) pa_nil)) (pg_name (i := 3) sc_Lnames.nd rfl (by first | exact .inl rfl | exact .inr rfl))
      (pss_cons (ps_set (i := 4) sc_Lnames.nd rfl (by first | exact .inl rfl | exact .inr rfl) (pe_op op_cat (pe_lst (pa_cons (pe_call c_Lword.G (hr.mono (by decide)) (by rfl) c_Lword.m c_Lword.k c_Lword.b .nil pass0 (pa_cons (pv 0) pa_nil)) pa_nil)) (pe_callTy (call_listS rfl) (by rfl) n_list (by decide +kernel) (pa_cons pe_str pa_nil))))
    (pss_cons (ps_setLc (i := 4) (tt := tTest (tOp (rIn K true) (tVar 5) (tVar 2))) (own := [("_law_one", 5)]) rfl sc_Lnames.nd rfl rfl (sw_true rfl rfl rfl (by decide +kernel)) (pi_list (pv 4)) (blkOk_by (N := N_Lnames) (sc := defScope s_Lnames) (by decide +kernel)) (fun _ _ _ _ _ => (pg_name (i := 5) sc_Lnames.nd rfl (Or.inl rfl))) (fun _ _ _ _ _ => (pts_one (pt_cmpR op_notIn_seq (pv 5) (pv 2) (by rfl)))) (fun _ _ _ _ _ => (pv 5)))
    (pss_one (ps_expr (pe_bm PySem.F.plainAttrs_list PySem.F.slot_list_append PySem.F.type_list_append mt_append (pv 2) (pa_cons (pe_ix ix_list (pv 4) pe_int (fun _ _ => rfl)) pa_nil)))))))
    (pss_one (ps_ret (pv 2))))), ?_⟩
  refine ⟨by decide, fun l hl => ?_⟩
  have ld : d ≠ l := hd.ne hl
  dsimp only
  refine ⟨.int (m : Int), rfl, (m : Int), rfl, by omega, by omega, for_range (lo := 0) (n := m) (fun i σ H1 => ∃ (xs : List Str) (x3 x4 x5 : Option V), σ = [some (.ref d), some (.int m), some (.ref l), x3, x4, x5] ∧ H1 l = some (.lst (xs.map V.str)) ∧ xs.length = i ∧ xs.Nodup ∧ (∀ x ∈ xs, My.IsNm x) ∧ DSt H1 d (n + 60 * i) ∧ SameBut d H H1)
    ⟨[], none, none, none, rfl, upd_same, rfl, List.nodup_nil, fun x h => absurd h List.not_mem_nil, (hd.upd ld).le (by omega), sb_same (My.new hl)⟩ ?_ ?_⟩
  · rintro i σ H1 hi ⟨xs, x3, x4, x5, rfl, hL, hlen, hnd, hnm, hd1, S1⟩
    refine ⟨.ref d, rfl, d, n + 60 * i, rfl, hd1, by omega, fun x H2 hx hd2 S2 => ?_⟩
    have hL2 := S2 l _ ld.symm hL
    refine ⟨My.small (by show 1 ≤ 1000; decide), fun p1 hp1 => ?_⟩
    refine ⟨"uvwpqrst", rfl, by decide +kernel, fun p2 hp2 => ?_⟩
    have n12 : p1 ≠ p2 := ne_of_none upd_same hp2
    have h1at : upd (upd H2 p1 (.lst [.str x])) p2 (.lst (lets8.map V.str)) p1 = some (.lst [.str x]) := by rw [upd_ne n12, upd_same]
    refine ⟨p1, p2, [.str x], lets8.map V.str, rfl, rfl, h1at, upd_same, ?_, fun p3 hp3 => ?_⟩
    · exact sz_of (by have : (lets8.map V.str).length = 8 := by decide +kernel
                      rw [this]; show 1 + 8 ≤ 100000; decide)
    have e23 : Ex H2 (upd (upd (upd H2 p1 (.lst [.str x])) p2 (.lst (lets8.map V.str))) p3 (.lst ([.str x] ++ lets8.map V.str))) := ((Ex.new hp1).trans (Ex.new hp2)).trans (Ex.new hp3)
    show gName 4 (V.ref p3) _ (upd (upd (upd H2 p1 (.lst [.str x])) p2 (.lst (lets8.map V.str))) p3 (.lst ([.str x] ++ lets8.map V.str))) _
    generalize hH3 : upd (upd (upd H2 p1 (.lst [.str x])) p2 (.lst (lets8.map V.str))) p3 (.lst ([.str x] ++ lets8.map V.str)) = H3 at e23
    have h3at : H3 p3 = some (.lst ((x :: lets8).map V.str)) := by rw [← hH3]; exact upd_same
    have hL3 := e23 _ _ hL2
    dsimp only
    have hstr : (x :: lets8).length = 9 := by
      rw [List.length_cons]
      decide +kernel
    have lc := p_lcS (tt := tTest (tOp (rIn K true) (tVar 5) (tVar 2))) (te := tVar 5) (g := gName 5) (vs := [5]) (σ := [some (.ref d), some (.int m), some (.ref l), some (.int (0 + (i : Nat))), some (.ref p3), x5]) (B := H3)
      (src_lq (K := K) (te := tVar 4) (ps := (x :: lets8).map fun y => IsV (.str y)) (p_var rfl ⟨p3, _, rfl, sq_of h3at, all_strs _⟩)) (by rw [List.length_map, hstr]; decide) (fun k => !decide ((x :: lets8).getD k "" ∈ xs)) (fun k => IsV (.str ((x :: lets8).getD k ""))) fun k v B1 hk e1 pv => by
        rw [List.length_map] at hk
        have hv : v = .str ((x :: lets8).getD k "") := by
          have : (((x :: lets8).map fun y => IsV (.str y)).getD k (IsV .non)).P v B1 := pv
          rw [List.getD_eq_getElem?_getD, List.getElem?_map, List.getElem?_eq_getElem hk] at this
          rw [List.getD_eq_getElem?_getD, List.getElem?_eq_getElem hk]
          exact this
        subst hv
        refine ⟨[some (.ref d), some (.int m), some (.ref l), some (.int (0 + (i : Nat))), some (.ref p3), some (.str ((x :: lets8).getD k ""))], rfl, fun H4 Q e q => q, et_is (et_test (ev_op (ev_var rfl) (ev_var rfl) (rv_niL (sq_of (e1 _ _ hL3)) rfl (My.flat_strs xs)))) (by rw [inV_strs]), fun _ => p_varV rfl⟩
    dsimp only [gName, tSeq, tAsg, List.set_cons_succ, List.set_cons_zero, List.map_cons, List.map_nil]
    refine lc H3 (Ex.refl H3) _ fun v B4 H4 g4 hv => ?_
    obtain ⟨p4, ys, rfl, h4, h5⟩ := hv
    have e24 := e23.trans g4.a
    obtain ⟨k, L, hkL⟩ : ∃ k L, (List.range ((x :: lets8).map fun y => IsV (.str y)).length).filter (fun k => !decide ((x :: lets8).getD k "" ∈ xs)) = k :: L := by
      obtain ⟨y, hy, hny⟩ := free_one (xs := xs) (by omega)
      obtain ⟨k, hk⟩ := List.mem_iff_getElem?.mp (List.mem_cons_of_mem x hy)
      have hkl : k < (x :: lets8).length := (List.getElem?_eq_some_iff.mp hk).1
      have : k ∈ (List.range ((x :: lets8).map fun y => IsV (.str y)).length).filter (fun k => !decide ((x :: lets8).getD k "" ∈ xs)) := by
        rw [List.mem_filter, List.mem_range, List.length_map]
        refine ⟨hkl, ?_⟩
        rw [List.getD_eq_getElem?_getD, hk]
        simp [hny]
      cases hf : (List.range ((x :: lets8).map fun y => IsV (.str y)).length).filter (fun k => !decide ((x :: lets8).getD k "" ∈ xs)) with
      | nil =>
        rw [hf] at this
        exact (List.not_mem_nil this).elim
      | cons a b => exact ⟨a, b, rfl⟩
    rw [hkL] at h5
    have hk : k < (x :: lets8).length ∧ (x :: lets8).getD k "" ∉ xs := by
      have : k ∈ (List.range ((x :: lets8).map fun y => IsV (.str y)).length).filter (fun k => !decide ((x :: lets8).getD k "" ∈ xs)) := by rw [hkL]; exact List.mem_cons_self
      rw [List.mem_filter, List.mem_range, List.length_map] at this
      exact ⟨this.1, by simpa using this.2⟩
    have hnk : My.IsNm ((x :: lets8).getD k "") := by
      rw [List.getD_eq_getElem?_getD, List.getElem?_eq_getElem hk.1]
      rcases List.mem_cons.mp (List.getElem_mem hk.1) with e | e
      · show My.IsNm (x :: lets8)[k]
        rw [e]
        exact hx
      · exact lets_nm _ e
    match ys, h5 with
    | y :: ys, h5 =>
      obtain rfl : y = .str ((x :: lets8).getD k "") := h5.1
      have hL4 := g4.a _ _ hL3
      refine ⟨.ref l, rfl, .inl ⟨rfl, _, sq_of hL4⟩, .ref p4, rfl, p4, _, 0, _, rfl, rfl, sq_of (g4.c _ _ h4), (show atI _ ((0 : Nat) : Int) = _ from atI_nat rfl), l, _, _, rfl, rfl, hL4, sz_lt (by rw [List.length_map]; omega), ?_⟩
      have hd4 : DSt H4 d (n + 60 * i + 50) := hd2.ex e24
      refine ⟨xs ++ [(x :: lets8).getD k ""], _, _, _, rfl, by rw [upd_same, List.map_append]; rfl, by rw [List.length_append, hlen]; rfl, ?_, ?_, (hd4.upd ld).le (by omega), ?_⟩
      · rw [List.nodup_append]
        exact ⟨hnd, by simp, fun a ha b hb => by
          rw [List.mem_singleton.mp hb]
          rintro rfl
          exact hk.2 ha⟩
      · intro y hy
        rcases List.mem_append.mp hy with hy | hy
        · exact hnm y hy
        · rw [List.mem_singleton.mp hy]
          exact hnk
      · intro b o hb e
        have hbl : b ≠ l := ne_of_none e hl
        rw [upd_ne hbl]
        exact e24 _ _ (S2 b o hb (S1 b o hb e))
  · rintro σ H1 ⟨xs, x3, x4, x5, rfl, hL, hlen, hnd, hnm, hd1, S1⟩
    exact ⟨.ref l, rfl, q l xs H1 hl hL hlen hnd hnm (hd1.le (by omega)) S1 ld.symm⟩

end
end K12

namespace K12
set_option autoImplicit false
open PySem PySem.W L2 Evl My LamX
/-- names in a tuple -/
def NtP (K : PySem.W.Frag) (ns : List Str) : Pr := ⟨fun v H => ∃ a, v = .ref a ∧ SqT K H a (ns.map V.str), fun e ⟨a, h1, h2⟩ => ⟨a, h1, ex_t e h2⟩⟩
def spDer (K : PySem.W.Frag) : Sp := fun vs H Q _ => ∃ (B : Hp) (d : Addr) (n hi : Nat) (r : Rk) (vn : V), vs = [.ref d, vn, .int (r.axs.length : Nat), .int (hi : Nat)] ∧ hi ≤ 20 ∧ (1 ≤ r.ns.length ∧ r.ns.length ≤ 10) ∧ (NtP K r.ns).P vn B ∧ Ex B H ∧ B d = none ∧ DSt H d n ∧ n ≤ 2 ^ 36 ∧
  ∀ (u : Dv) (B' H' : Hp) (v : V), u.Of r → u.i + u.j ≤ hi → GrD d B H B' H' → DSt H' d (n + 20) → (DvP u).P v B' → Q v H'
def spBy (K : PySem.W.Frag) : Sp := fun vs H Q _ => ∃ (d : Addr) (n : Nat), vs = [.ref d] ∧ DSt H d n ∧ n ≤ 2 ^ 36 ∧ ∀ (v : V) (r : Rk) (B' H' : Hp), r.Ok → (RkP K r).P v B' → Ex B' H' → NoTab B' → B' d = none → SameBut d H H' → DSt H' d (n + 300) → Q v H'
theorem ax_two (r : Rk) : (r.axs.length = 2) ↔ (Str.ofString "y") ∈ r.axs := by
  have : ∀ a : Fin 3, ((axsOf a).length = 2) ↔ (Str.ofString "y") ∈ axsOf a := by decide +kernel
  exact this r.ax
section
variable {P : Program} {w : World} {K : PySem.W.Frag} {mg : Str → Option Value} {base : Heap}

/-- _law_derivative -/
abbrev s_Lderivative : Stmt := topS 66
abbrev N_Lderivative : List Str := ["_law_state", "_law_names_here", "_law_axes", "_law_high", "_law_name", "_law_total", "_law_j"]
theorem sc_Lderivative : FnScope N_Lderivative ["_law_state", "_law_names_here", "_law_axes", "_law_high"] (defScope s_Lderivative) := ⟨rfl, rfl, rfl, by decide +kernel, rfl, by decide +kernel, by decide +kernel⟩
theorem ok_Lderivative {f : Addr} {fd : FuncData} (F : Fun K "_law_derivative" "_law_derivative" s_Lderivative f fd)  {f_Ldigit : Addr} {d_Ldigit : FuncData} (c_Ldigit : Cal P w K mg base "_law_digit" 2 ["_law_state", "_law_size"] spDigit f_Ldigit d_Ldigit) (n_len : mg "len" = none)  :
    FnOk P w K mg base CX0 3 f fd ["_law_state", "_law_names_here", "_law_axes", "_law_high"] (spDer K) := by
  refine F.ok sc_Lderivative (fun vs H Q E h => by obtain ⟨B, d, n, hi, r, vn, rfl, _⟩ := h; rfl) (fun cdv A outer s H vs Q E hr h => ?_)
  obtain ⟨B, d, n, hi, r, vn, rfl, hhi, hok, hN, hE, hBd, hd, hn, q⟩ := h
  have hu := hu_of hr
  refine ⟨_, (pss_cons (ps_par (i := 4) (j := 5) rfl sc_Lderivative.nd rfl rfl (by decide) rfl rfl (pa_cons (pe_ix ix_tup (pv 1) (pe_call c_Ldigit.G (hr.mono (by decide)) (by rfl) c_Ldigit.m c_Ldigit.k c_Ldigit.b .nil pass0 (pa_cons (pv 0) (pa_cons (pe_callB call_len_seq (by rfl) n_len (by decide +kernel) (pa_cons (pv 1) pa_nil)) pa_nil))) (fun _ _ => rfl)) (pa_cons (pe_call c_Ldigit.G (hr.mono (by decide)) (by rfl) c_Ldigit.m c_Ldigit.k c_Ldigit.b .nil pass0 (pa_cons (pv 0) (pa_cons (pe_op op_add (pv 3) pe_int) pa_nil))) pa_nil)) (by rfl))
    (pss_cons (ps_set (i := 6) sc_Lderivative.nd rfl (by first | exact .inl rfl | exact .inr rfl) (pe_ifExp (pt_cmpR op_eq (pv 2) pe_int (nomark _)) (pe_call c_Ldigit.G (hr.mono (by decide)) (by rfl) c_Ldigit.m c_Ldigit.k c_Ldigit.b .nil pass0 (pa_cons (pv 0) (pa_cons (pe_op op_add (pv 5) pe_int) pa_nil))) pe_int))
    (pss_one (ps_ret (pe_tup (pa_cons (pv 4) (pa_cons (pe_op op_sub (pv 5) (pv 6)) (pa_cons (pv 6) pa_nil)))))))), ?_⟩
  obtain ⟨a, rfl, ha⟩ := hN
  have hle := hok.2
  have hne := hok.1
  have sq : ∀ {H' : Hp}, Ex B H' → SqT K H' a (r.ns.map V.str) := fun e => ex_t e ha
  refine ⟨.ref a, rfl, .ref d, rfl, .ref a, rfl, a, _, rfl, .inr (sq hE), d, _, n, rfl, by rw [List.length_map]; omega, by rw [List.length_map]; omega, hd, by omega, fun m H1 m0 m1 hd1 S1 => ?_⟩
  have e1 := ex_sb hE hBd S1
  rw [List.length_map] at m1
  obtain ⟨k, rfl⟩ : ∃ k : Nat, m = (k : Int) := ⟨m.toNat, by omega⟩
  have hk : k < r.ns.length := by omega
  refine ⟨a, _, _, _, rfl, rfl, sq e1, atI_nat (by rw [List.getElem?_map, List.getElem?_eq_getElem hk]; rfl), ?_⟩
  refine ⟨.ref d, rfl, .int (hi : Nat), rfl, _, _, rfl, rfl, d, _, n + 4, rfl, by omega, by omega, hd1, by omega, fun t H2 t0 t1 hd2 S2 => ?_⟩
  have e2 := ex_sb e1 hBd S2
  refine ⟨_, _, rfl, ?_⟩
  dsimp only
  have fin : ∀ (j : Int) (H3 : Hp), 0 ≤ j → j ≤ t → (j = 0 ∨ (Str.ofString "y") ∈ r.axs) → DSt H3 d (n + 12) → GrD d B H B H3 → tRet (tTup (tCons (tVar 4) (tCons (tOp (rI0 fun i j => .int (i - j)) (tVar 5) (tVar 6)) (tCons (tVar 6) tNil)))) { nx := fun _ H' => Q .non H', rt := Q } [some (.ref d), some (.ref a), some (.int (r.axs.length : Nat)), some (.int (hi : Nat)), some (.str r.ns[k]), some (.int t), some (.int j)] H3 := fun j H3 j0 j1 hy hd3 g3 => by
    refine My.ps_ret g3.c (p_dv (u := ⟨r.ns[k], t - j, j⟩) rfl rfl rfl (q_cons (p_varV rfl) (q_cons (p_ev (ev_op (ev_var rfl) (ev_var rfl) rv_I0)) (q_cons (p_varV rfl) q_nil)))) fun v B4 H4 g4 hv => ?_
    exact q _ _ _ v ⟨List.getElem_mem hk, by show 0 ≤ t - j; omega, j0, hy⟩ (by show t - j + j ≤ (hi : Int); omega) (g3.trans (GrD.gr g4 hBd hd3)) ((hd3.ex g4.a).le (by omega)) hv
  have g2 : GrD d B H B H2 := GrD.same hE hBd (sb_trans S1 S2)
  refine ⟨_, rfl, rfl, ?_⟩
  by_cases h2 : r.axs.length = 2
  · have : decide (V.int (r.axs.length : Nat) = V.int 2) = true := by rw [h2]; rfl
    rw [this]
    refine ⟨_, rfl, ?_⟩
    refine iteT ?_
    refine ⟨.ref d, rfl, .int t, rfl, _, _, rfl, rfl, d, t + 1, n + 8, rfl, by omega, by omega, hd2.le (by omega), by omega, fun j H3 j0 j1 hd3 S3 => ?_⟩
    exact fin j H3 j0 (by omega) (.inr ((ax_two r).mp h2)) (hd3.le (by omega)) (g2.trans (GrD.same e2 hBd S3))
  · have : decide (V.int (r.axs.length : Nat) = V.int 2) = false := by
      rw [decide_eq_false_iff_not]
      intro z
      injection z with z
      omega
    rw [this]
    refine ⟨_, rfl, ?_⟩
    refine iteF ?_
    exact fin 0 H2 (by omega) (by omega) (.inl rfl) (hd2.le (by omega)) g2

end
end K12

namespace K12
set_option autoImplicit false
open PySem PySem.W L2 Evl My LamX
theorem four_ax (m : Nat) (h : m < 4) : ∃ a : Fin 3, [PyData.tuple [.str "x"], .tuple [.str "x", .str "y"], .tuple [.str "x", .str "y"], .tuple [.str "y", .str "x"]][m]? = some (.tuple ((axsOf a).map .str)) := by
  match m, h with
  | 0, _ => exact ⟨0, rfl⟩
  | 1, _ => exact ⟨1, rfl⟩
  | 2, _ => exact ⟨1, rfl⟩
  | 3, _ => exact ⟨2, rfl⟩
section
variable {P : Program} {w : World} {K : PySem.W.Frag} {mg : Str → Option Value} {base : Heap}

/-- _law_by -/
abbrev s_Lby : Stmt := topS 67
abbrev N_Lby : List Str := ["_law_state", "_law_names_here", "_law_axes"]
theorem sc_Lby : FnScope N_Lby ["_law_state"] (defScope s_Lby) := ⟨rfl, rfl, rfl, by decide +kernel, rfl, by decide +kernel, by decide +kernel⟩
theorem ok_Lby {f : Addr} {fd : FuncData} (F : Fun K "_law_by" "_law_by" s_Lby f fd)  {f_Lnames : Addr} {d_Lnames : FuncData} (c_Lnames : Cal P w K mg base "_law_names" 4 ["_law_state", "_law_many"] spNames f_Lnames d_Lnames) {f_Ldigit : Addr} {d_Ldigit : FuncData} (c_Ldigit : Cal P w K mg base "_law_digit" 2 ["_law_state", "_law_size"] spDigit f_Ldigit d_Ldigit) (n_tuple : mg "tuple" = none)  :
    FnOk P w K mg base CX0 5 f fd ["_law_state"] (spBy K) := by
  refine F.ok sc_Lby (fun vs H Q E h => by obtain ⟨d, n, rfl, _⟩ := h; rfl) (fun cdv A outer s H vs Q E hr h => ?_)
  obtain ⟨d, n, rfl, hd, hn, q⟩ := h
  have hu := hu_of hr
  refine ⟨_, (pss_cons (ps_set (i := 1) sc_Lby.nd rfl (by first | exact .inl rfl | exact .inr rfl) (pe_callTy call_tupleF (by rfl) n_tuple (by decide +kernel) (pa_cons (pe_call c_Lnames.G (hr.mono (by decide)) (by rfl) c_Lnames.m c_Lnames.k c_Lnames.b .nil pass0 (pa_cons (pv 0) (pa_cons (pe_op op_add pe_int (pe_call c_Ldigit.G (hr.mono (by decide)) (by rfl) c_Ldigit.m c_Ldigit.k c_Ldigit.b .nil pass0 (pa_cons (pv 0) (pa_cons pe_int pa_nil)))) pa_nil))) pa_nil)))
    (pss_cons (ps_set (i := 2) sc_Lby.nd rfl (by first | exact .inl rfl | exact .inr rfl) (pe_ix ix_list (pe_lst (pa_cons (pe_tup (pa_cons pe_str pa_nil)) (pa_cons (pe_tup (pa_cons pe_str (pa_cons pe_str pa_nil))) (pa_cons (pe_tup (pa_cons pe_str (pa_cons pe_str pa_nil))) (pa_cons (pe_tup (pa_cons pe_str (pa_cons pe_str pa_nil))) pa_nil))))) (pe_call c_Ldigit.G (hr.mono (by decide)) (by rfl) c_Ldigit.m c_Ldigit.k c_Ldigit.b .nil pass0 (pa_cons (pv 0) (pa_cons pe_int pa_nil))) (fun _ _ => rfl)))
    (pss_one (ps_ret (pe_tup (pa_cons (pe_ix ix_list (pe_lst (pa_cons pe_str (pa_cons pe_str pa_nil))) (pe_call c_Ldigit.G (hr.mono (by decide)) (by rfl) c_Ldigit.m c_Ldigit.k c_Ldigit.b .nil pass0 (pa_cons (pv 0) (pa_cons pe_int pa_nil))) (fun _ _ => rfl)) (pa_cons (pv 1) (pa_cons (pv 2) pa_nil)))))))), ?_⟩
  refine ⟨.ref d, rfl, .ref d, rfl, d, 3, n, rfl, by decide, by decide, hd, by omega, fun m H1 m0 m1 hd1 S1 => ?_⟩
  obtain ⟨k, rfl⟩ : ∃ k : Nat, m = (k : Int) := ⟨m.toNat, by omega⟩
  refine ⟨_, _, rfl, rfl, d, n + 4, 1 + k, by rw [show ((1 + k : Nat) : Int) = 1 + (k : Int) by omega]; rfl, by omega, hd1, by omega, fun p xs H2 hp h2 hlen hnd hnm hd2 S2 pd => ?_⟩
  refine ⟨p, _, rfl, sq_of h2, fun l ob hl hob => ?_⟩
  have ld : d ≠ l := hd2.ne hl
  -- what is known: the names
  let B1 : Hp := upd (fun _ => none) l (.frz ob (.tup (xs.map V.str)))
  have b1e : Ex B1 (upd H2 l (.frz ob (.tup (xs.map V.str)))) := fun b o e => by
    by_cases z : b = l
    · subst z
      have e : upd (fun _ => none) b (.frz ob (.tup (xs.map V.str))) b = some o := e
      rw [upd_same] at e
      rw [upd_same]
      exact e
    · have e : upd (fun _ => none) l (.frz ob (.tup (xs.map V.str))) b = some o := e
      rw [upd_ne z] at e
      cases e
  have b1d : B1 d = none := by show upd (fun _ => none) l _ d = none; rw [upd_ne ld]
  have b1n : NoTab B1 := nt_upd (fun _ _ z => nomatch z) fun _ z => nomatch z
  have b1l : B1 l = some (.frz ob (.tup (xs.map V.str))) := upd_same
  have hd3 : DSt (upd H2 l (.frz ob (.tup (xs.map V.str)))) d (n + 4 + 200) := hd2.upd ld
  have S3 : SameBut d H (upd H2 l (.frz ob (.tup (xs.map V.str)))) := sb_new (sb_trans S1 S2) (sb_free (sb_trans S1 S2) ld.symm hl)
  generalize upd H2 l (.frz ob (.tup (xs.map V.str))) = H3 at b1e hd3 S3
  dsimp only [tSeq, tAsg, gName]
  have el := ed_lst (K := K) (σ := [some (.ref d), some (.ref l), none]) (B := B1) (ds := [PyData.tuple [.str "x"], .tuple [.str "x", .str "y"], .tuple [.str "x", .str "y"], .tuple [.str "y", .str "x"]])
    (q_cons (ed_tup (ds := [.str "x"]) (q_cons (ed_st ev_c) q_nil) (by decide)) (q_cons (ed_tup (ds := [.str "x", .str "y"]) (q_cons (ed_st ev_c) (q_cons (ed_st ev_c) q_nil)) (by decide)) (q_cons (ed_tup (ds := [.str "x", .str "y"]) (q_cons (ed_st ev_c) (q_cons (ed_st ev_c) q_nil)) (by decide)) (q_cons (ed_tup (ds := [.str "y", .str "x"]) (q_cons (ed_st ev_c) (q_cons (ed_st ev_c) q_nil)) (by decide)) q_nil)))) (by decide)
  refine el H3 b1e _ fun v B2 H4 g4 hv => ?_
  have gd := GrD.gr g4 b1d hd3
  have hd4 := hd3.ex g4.a
  cases hv with
  | @lst pl vs _ hx hy =>
    refine ⟨.ref d, rfl, d, 4, _, rfl, by decide, by decide, hd4, by omega, fun m5 H5 m0' m1' hd5 S5 => ?_⟩
    have e5 := ex_sb gd.c gd.d S5
    obtain ⟨k5, rfl⟩ : ∃ k : Nat, m5 = (k : Int) := ⟨m5.toNat, by omega⟩
    obtain ⟨ax, hax⟩ := four_ax k5 (by omega)
    obtain ⟨va, hva, dva⟩ := dps_ix hy hax
    refine ⟨pl, vs, _, va, rfl, rfl, ex_l e5 hx, atI_nat hva, ?_⟩
    refine ⟨by decide, fun p6 hp6 => ?_⟩
    have d6 : d ≠ p6 := hd5.ne hp6
    have e6 : Ex B2 (upd H5 p6 (.lst [.str "total", .str "names"])) := e5.trans (Ex.new hp6)
    refine ⟨.ref d, rfl, d, 2, _, rfl, by decide, by decide, hd5.upd d6, by omega, fun m7 H7 m0' m1' hd7 S7 => ?_⟩
    have e7 := ex_sb e6 gd.d S7
    have h7 := S7 _ _ d6.symm upd_same
    obtain ⟨tt, htt⟩ : ∃ tt : Bool, atI [V.str "total", V.str "names"] m7 = some (.str (if tt then "total" else "names")) := by
      obtain ⟨k7, rfl⟩ : ∃ k : Nat, m7 = (k : Int) := ⟨m7.toNat, by omega⟩
      have : k7 = 0 ∨ k7 = 1 := by omega
      rcases this with rfl | rfl
      · exact ⟨true, rfl⟩
      · exact ⟨false, rfl⟩
    refine ⟨p6, _, _, _, rfl, rfl, sq_of h7, htt, ?_⟩
    refine ⟨.ref l, rfl, va, rfl, by show 3 ≤ sizeLine; decide, fun p8 hp8 => ?_⟩
    have d8 : d ≠ p8 := hd7.ne hp8
    have hB8 : B2 p8 = none := fresh_back e7 hp8
    let r : Rk := ⟨tt, xs, ax⟩
    refine q (.ref p8) r (upd B2 p8 (.tup [.str r.srt, .ref l, va])) _ ⟨by show 1 ≤ xs.length; omega, by show xs.length ≤ 3; omega, hnd, hnm⟩ ?_ ?_ (nt_upd (g4.e b1n) fun _ z => nomatch z) (by rw [upd_ne d8]; exact gd.d) ?_ ?_
    · exact ⟨p8, .ref l, va, rfl, st_of upd_same, ⟨l, ob, rfl, Ex.new hB8 _ _ (g4.b _ _ b1l), hob⟩, dp_m (Ex.new hB8) dva⟩
    · exact fun b o e => by
        by_cases z : b = p8
        · subst z
          rw [upd_same] at e
          rw [upd_same]
          exact e
        · rw [upd_ne z] at e
          rw [upd_ne z]
          exact e7 b o e
    · have SA := sb_trans (sb_trans (sb_trans S3 gd.s) S5) (sb_same (My.new (o := .lst [.str "total", .str "names"]) hp6))
      have SB := sb_trans SA S7
      exact sb_new SB (sb_free SB d8.symm hp8)
    · exact (hd7.upd d8).le (by omega)

end
end K12
namespace K12
set_option autoImplicit false
open PySem PySem.W L2 Evl My Nd LamX NdefX
theorem DSt.ne0 {H : Hp} {d : Addr} {n : Nat} (h : DSt H d n) : H d ≠ none := by
  obtain ⟨l, c, t, e, _⟩ := h
  rw [e]
  exact fun z => nomatch z
theorem tabs_lst {T : List (Addr × Str)} {p : Addr} {H : Hp} {xs : List V} {o : HO} (t : Tabs T H) (hp : H p = some (.lst xs)) : Tabs T (upd H p o) := by
  have at_ : ∀ {b : Addr} {u : HO}, H b = some u → (∀ ys, u ≠ .lst ys) → wo p H b = some u := fun {b u} h n => by
    rw [wo_ne fun z => by
      subst z
      rw [hp] at h
      exact n xs (Option.some.inj h).symm]
    exact h
  refine Tabs.ext (H := wo p H) (fun q hq => ?_) fun b u e => by
    obtain ⟨n, k⟩ := wo_some e
    rw [upd_ne n]
    exact k
  obtain ⟨ps, h1, h2, h3⟩ := t q hq
  refine ⟨ps, at_ h1 (fun _ z => nomatch z), h2, fun pos cv hc => ?_⟩
  obtain ⟨c, e1, e2⟩ := h3 pos cv hc
  exact ⟨c, e1, at_ e2 (fun _ z => nomatch z)⟩
section
variable {t u : TS} {D : Ends} {σ : L2.St} {H : Hp} {te ta tb : TE} {tx tr : TA} {g : TG} {Q : VK} {r : R2}
theorem b_seq (h : t { D with nx := u D } σ H) : tSeq t u D σ H := h
theorem b_asg (h : te σ H fun x H1 => g x σ H1 D.nx) : tAsg te g D σ H := h
theorem b_op (h : ta σ H fun x H1 => tb σ H1 fun y H2 => r x y H2 Q) : tOp r ta tb σ H Q := h
theorem b_ret (h : te σ H D.rt) : tRet te D σ H := h
theorem b_tup (h : tx σ H fun xs H1 => xs.length ≤ sizeLine ∧ ∀ p, H1 p = none → Q (.ref p) (upd H1 p (.tup xs))) : tTup tx σ H Q := h
theorem b_cons {Q : List V → Hp → Prop} (h : ta σ H fun x H1 => tr σ H1 fun xs H2 => Q (x :: xs) H2) : tCons ta tr σ H Q := h
end
/-- what is known in B of a heap H with tables T and the draws' state at d, of at most n turns -/
structure Kx (T : List (Addr × Str)) (d : Addr) (n : Nat) (B H : Hp) : Prop where
  e : Ex B H
  nt : NoTab B
  t : Tabs T H
  z : B d = none
  s : DSt H d n
/-- what stays: all but the tables and the state -/
structure GX (d : Addr) (B H B' H' : Hp) : Prop where
  a : ∀ b o, b ≠ d → H b = some o → (∀ ps, o ≠ .tbl ps) → H' b = some o
  b : Ex B B'
  f : ∀ x o, x ≠ d → B x = none → H x = some o → (∀ ps, o ≠ .tbl ps) → B' x = none
section
variable {T : List (Addr × Str)} {d : Addr} {n m : Nat} {B H B1 H1 B2 H2 : Hp}
theorem GX.refl : GX d B H B H := ⟨fun _ _ _ e _ => e, Ex.refl B, fun _ _ _ h _ _ => h⟩
theorem GX.trans (g : GX d B H B1 H1) (k : GX d B1 H1 B2 H2) : GX d B H B2 H2 := ⟨fun b o n e z => k.a b o n (g.a b o n e z) z, g.b.trans k.b, fun x o n hb hh z => k.f x o n (g.f x o n hb hh z) (g.a x o n hh z) z⟩
theorem GX.gr (g : Gr B H B1 H1) : GX d B H B1 H1 := ⟨fun b o _ e _ => g.a b o e, g.b, fun x o _ hb hh _ => g.d x hb (by rw [hh]; exact fun z => nomatch z)⟩
theorem GX.gt (g : GT T B H B1 H1) : GX d B H B1 H1 := ⟨fun b o _ e z => g.a b o e z, g.b, fun x o _ hb hh z => g.f x o hb hh z⟩
theorem GX.sb (S : SameBut d H H1) : GX d B H B H1 := ⟨fun b o n e _ => S b o n e, Ex.refl B, fun _ _ _ h _ _ => h⟩
theorem GX.ex (e : Ex H H1) : GX d B H B H1 := ⟨fun b o _ h _ => e b o h, Ex.refl B, fun _ _ _ h _ _ => h⟩
theorem Kx.kn (k : Kx T d n B H) : Kn T B H := ⟨k.e, k.nt, k.t⟩
theorem Kx.gr (k : Kx T d n B H) (g : Gr B H B1 H1) : Kx T d n B1 H1 := ⟨g.c, g.e k.nt, k.t.ext g.a, g.d d k.z k.s.ne0, k.s.ex g.a⟩
theorem Kx.ex (k : Kx T d n B H) (e : Ex H H1) : Kx T d n B H1 := ⟨k.e.trans e, k.nt, k.t.ext e, k.z, k.s.ex e⟩
theorem Kx.gt (k : Kx T d n B H) (g : GT T B H B1 H1) : Kx T d n B1 H1 := by
  obtain ⟨l, c, t, a, b⟩ := k.s
  exact ⟨g.c, g.e k.nt, g.t k.t, g.f d _ k.z a (fun _ z => nomatch z), l, c, t, g.a _ _ a (fun _ z => nomatch z), b⟩
theorem Kx.sb (k : Kx T d n B H) (S : SameBut d H H1) (hd : DSt H1 d m) : Kx T d m B H1 := by
  obtain ⟨l, c, t, a, b⟩ := k.s
  exact ⟨fun b o e => S b o (ne_of_none e k.z) (k.e b o e), k.nt, tabs_but k.t a S, k.z, hd⟩
theorem Kx.le (k : Kx T d n B H) (h : n ≤ m) : Kx T d m B H := ⟨k.e, k.nt, k.t, k.z, k.s.le h⟩
theorem x_digit {i : Nat} {z : Int} {te : TE} {σ : L2.St} {Q : VK} (k : Kx T d n B H) (hi : σ[i]? = some (some (.ref d))) (he : Ev te σ B (.int z)) (z0 : 0 < z) (z1 : z < 1073741824) (hn : n ≤ 2 ^ 39)
    (q : ∀ (m : Int) H', 0 ≤ m → m < z → Kx T d (n + 4) B H' → GX d B H B H' → Q (.int m) H') : tCall spDigit [] E0 (tCons (tVar i) (tCons te tNil)) σ H Q :=
  ⟨.ref d, hi, he H k.e _ fun H2 e2 => ⟨d, z, n, rfl, z0, z1, (k.ex e2).s, hn, fun m H' m0 m1 hd S => q m H' m0 m1 ((k.ex e2).sb S hd) ((GX.ex e2).trans (GX.sb S))⟩⟩
end
/-- the digit's thing of a list -/
theorem pick {ps : List Pr} {xs : List V} {B : Hp} (h : AllP ps xs B) {m : Int} (m0 : 0 ≤ m) (m1 : m < ps.length) : ∃ (i : Nat) (p : Pr) (v : V), i < ps.length ∧ m = (i : Nat) ∧ ps[i]? = some p ∧ atI xs m = some v ∧ p.P v B := by
  obtain ⟨i, rfl⟩ : ∃ i : Nat, m = (i : Nat) := ⟨m.toNat, by omega⟩
  have hi : i < ps.length := by omega
  obtain ⟨v, hv, pv⟩ := h.at (i := i) (p := ps[i]) (List.getElem?_eq_getElem hi)
  exact ⟨i, ps[i], v, hi, rfl, List.getElem?_eq_getElem hi, atI_nat hv, pv⟩
section
variable {te tb : TE} {σ : L2.St} {B : Hp} {K : PySem.W.Frag} {r : Rk}
theorem p_rk1 (h : EvP te σ B (RkP K r)) : EvP (tOp (rIxT K) te (tC (.int 1))) σ B (NmP r.ns) := fun H1 a Q k => h H1 a _ fun v B2 H2 g x => by
  obtain ⟨p, vn, va, rfl, hp, hn, ha⟩ := x
  exact ⟨p, _, 1, vn, rfl, rfl, ex_t g.c hp, rfl, k vn B2 H2 g hn⟩
theorem p_rk2 (h : EvP te σ B (RkP K r)) : EvP (tOp (rIxT K) te (tC (.int 2))) σ B (IsD K (.tuple (r.axs.map .str))) := fun H1 a Q k => h H1 a _ fun v B2 H2 g x => by
  obtain ⟨p, vn, va, rfl, hp, hn, ha⟩ := x
  exact ⟨p, _, 2, va, rfl, rfl, ex_t g.c hp, rfl, k va B2 H2 g ha⟩
end

end K12
namespace K12
set_option autoImplicit false
open PySem PySem.W L2 Evl My Nd LamX NdefX
section
variable {T : List (Addr × Str)} {d : Addr} {n m : Nat} {B H B1 H1 B2 H2 : Hp}
theorem GX.gd (g : GrD d B H B1 H1) : GX d B H B1 H1 := ⟨fun b o n e _ => g.s b o n e, g.b, fun x o _ hb hh _ => g.f x hb (by rw [hh]; exact fun z => nomatch z)⟩
theorem Kx.gd (k : Kx T d n B H) (g : GrD d B H B1 H1) (hd : DSt H1 d m) : Kx T d m B1 H1 := by
  have kk := k.sb g.s hd
  exact ⟨g.c, g.n k.nt, kk.t, g.d, hd⟩
theorem GX.lst {D : Addr} {o : HO} (g : GX d B H B1 H1) (hD : H D = none) : GX d B H B1 (upd H1 D o) := ⟨fun b u n e z => by
  by_cases h : b = D
  · subst h
    rw [hD] at e
    cases e
  · rw [upd_ne h]
    exact g.a b u n e z, g.b, g.f⟩
theorem x_pickI {K : PySem.W.Frag} {ks : List Int} {ta : TA} {σ : L2.St} {i : Nat} {z : Int} {Q : VK} (k : Kx T d n B H) (hl : EvPs ta σ B (ks.map fun i => IsV (.int i))) (hi : σ[i]? = some (some (.ref d))) (hz : z = (ks.length : Nat)) (h0 : 0 < ks.length) (h1 : ks.length < 1000) (hn : n ≤ 2 ^ 38)
    (q : ∀ (j : Nat) (hj : j < ks.length) B' H', Kx T d (n + 4) B' H' → GX d B H B' H' → Q (.int ks[j]) H') : tOp (rIxL K) (tLst ta) (tCall spDigit [] E0 (tCons (tVar i) (tCons (tC (.int z)) tNil))) σ H Q := by
  subst hz
  refine p_lst hl (by rw [List.length_map]; omega) H k.e _ fun v B1 H1 g hv => ?_
  refine x_digit (k.gr g) hi ev_c (by omega) (by omega) (by omega) fun m H2 m0 m1 k2 g2 => ?_
  obtain ⟨l, xs, rfl, hx, al⟩ := hv
  obtain ⟨j, p, w, hj, rfl, hp, hat, hw⟩ := pick al m0 (by rw [List.length_map]; exact m1)
  rw [List.getElem?_map] at hp
  obtain ⟨c, hc, rfl⟩ := Option.map_eq_some_iff.mp hp
  obtain ⟨hj2, rfl⟩ := List.getElem?_eq_some_iff.mp hc
  obtain rfl : w = _ := hw
  exact ⟨l, xs, _, _, rfl, rfl, sq_of (k2.e _ _ hx), hat, q j hj2 B1 H2 k2 ((GX.gr g).trans g2)⟩
end
section
variable {t u : TS} {D : Ends} {σ : L2.St} {H : Hp} {tc ta tb : TE} {tt : TT} {g : TG} {Q : VK}
theorem b_forD (h : tc σ H fun v H1 => ∃ j : Int, [v] = [V.int j] ∧ -(2 ^ 62) ≤ j ∧ j < 2 ^ 62 ∧ ∃ W : Nat → Nat → L2.St → Hp → Prop, (∃ m, W 0 m σ H1) ∧ ∀ i m σ H, W i m σ H →
      ((Itr 0 j.toNat).stop i H ∧ D.nx σ H) ∨ ((Itr 0 j.toNat).go i H ∧ ∃ N : L2.St → Hp → Prop, (∀ σ' H', N σ' H' → ∃ m', m' < m ∧ W (i + 1) m' σ' H') ∧ ∀ x H', (Itr 0 j.toNat).yld i H x H' → g x σ H' fun σ2 H2 => t { D with nx := N, ct := N, bk := D.nx } σ2 H2)) : tFor (iRng1 (tCons tc tNil)) g t D σ H := h
end
end K12
namespace K12
set_option autoImplicit false
open PySem PySem.W L2 Evl My Nd LamX NdefX
/-- _law_kinds -/
abbrev s_Lkinds : Stmt := topS 68
abbrev N_Lkinds : List Str := ["_law_error", "_law_kinds_here", "_law_kind", "_law_holds"]
theorem sc_Lkinds : FnScope N_Lkinds ["_law_error"] (defScope s_Lkinds) := ⟨rfl, rfl, rfl, by decide +kernel, rfl, by decide +kernel, by decide +kernel⟩
section
variable {P : Program} {w : World} {K : PySem.W.Frag} {mg : Str → Option Value} {base : Heap} {T : List (Addr × Str)}
theorem ok_Lkinds {f : Addr} {fd : FuncData} {cx : Nat → Addr} (F : Fun K "_law_kinds" "_law_kinds" s_Lkinds f fd) (T : XT K mg cx) : FnOk P w K mg base CX0 1 f fd ["_law_error"] (spKinds cx) := by
  refine F.ok sc_Lkinds (fun vs H Q E h => ?_) (fun cdv A outer s H vs Q E hr h => ?_)
  · obtain ⟨i, v, B, _, rfl, _⟩ := h
    rfl
  · obtain ⟨i, v, B, hi, rfl, eB, hv, q⟩ := h
    have hu := hu_of hr
    refine ⟨_, (pss_cons (ps_set (i := 1) sc_Lkinds.nd rfl (by first | exact .inl rfl | exact .inr rfl) (pe_lst (pa_cons (pe_tup (pa_cons pe_str (pa_cons (pe_callB call_xis (by rfl) T.n_isinstance (by decide +kernel) (pa_cons (pv 0) (pa_cons (pe_globR (by rfl) T.g_BadRow) pa_nil))) pa_nil))) (pa_cons (pe_tup (pa_cons pe_str (pa_cons (pe_callB call_xis (by rfl) T.n_isinstance (by decide +kernel) (pa_cons (pv 0) (pa_cons (pe_globR (by rfl) T.g_BadPolynomial) pa_nil))) pa_nil))) pa_nil))))
    (pss_cons (ps_set (i := 1) sc_Lkinds.nd rfl (by first | exact .inl rfl | exact .inr rfl) (pe_op op_cat (pv 1) (pe_lst (pa_cons (pe_tup (pa_cons pe_str (pa_cons (pe_callB call_xis (by rfl) T.n_isinstance (by decide +kernel) (pa_cons (pv 0) (pa_cons (pe_globR (by rfl) T.g_BadRanking) pa_nil))) pa_nil))) (pa_cons (pe_tup (pa_cons pe_str (pa_cons (pe_callB call_xis (by rfl) T.n_isinstance (by decide +kernel) (pa_cons (pv 0) (pa_cons (pe_globR (by rfl) T.g_BadChain) pa_nil))) pa_nil))) pa_nil)))))
    (pss_cons (ps_set (i := 1) sc_Lkinds.nd rfl (by first | exact .inl rfl | exact .inr rfl) (pe_op op_cat (pv 1) (pe_lst (pa_cons (pe_tup (pa_cons pe_str (pa_cons (pe_callB call_xis (by rfl) T.n_isinstance (by decide +kernel) (pa_cons (pv 0) (pa_cons (pe_globR (by rfl) T.g_BadData) pa_nil))) pa_nil))) (pa_cons (pe_tup (pa_cons pe_str (pa_cons (pe_callB call_xis (by rfl) T.n_isinstance (by decide +kernel) (pa_cons (pv 0) (pa_cons (pe_globR (by rfl) T.g_BadJet) pa_nil))) pa_nil))) pa_nil)))))
    (pss_cons (ps_set (i := 1) sc_Lkinds.nd rfl (by first | exact .inl rfl | exact .inr rfl) (pe_op op_cat (pv 1) (pe_lst (pa_cons (pe_tup (pa_cons pe_str (pa_cons (pe_callB call_xis (by rfl) T.n_isinstance (by decide +kernel) (pa_cons (pv 0) (pa_cons (pe_globR (by rfl) T.g_BadPaper) pa_nil))) pa_nil))) (pa_cons (pe_tup (pa_cons pe_str (pa_cons (pe_callB call_xis (by rfl) T.n_isinstance (by decide +kernel) (pa_cons (pv 0) (pa_cons (pe_globR (by rfl) T.g_Twice) pa_nil))) pa_nil))) pa_nil)))))
    (pss_cons (ps_set (i := 1) sc_Lkinds.nd rfl (by first | exact .inl rfl | exact .inr rfl) (pe_op op_cat (pv 1) (pe_lst (pa_cons (pe_tup (pa_cons pe_str (pa_cons (pe_callB call_xis (by rfl) T.n_isinstance (by decide +kernel) (pa_cons (pv 0) (pa_cons (pe_globR (by rfl) T.g_OutOfPlace) pa_nil))) pa_nil))) (pa_cons (pe_tup (pa_cons pe_str (pa_cons (pe_callB call_xis (by rfl) T.n_isinstance (by decide +kernel) (pa_cons (pv 0) (pa_cons (pe_globR (by rfl) T.g_TooGreat) pa_nil))) pa_nil))) pa_nil)))))
    (pss_cons (ps_set (i := 1) sc_Lkinds.nd rfl (by first | exact .inl rfl | exact .inr rfl) (pe_op op_cat (pv 1) (pe_lst (pa_cons (pe_tup (pa_cons pe_str (pa_cons (pe_callB call_xis (by rfl) T.n_isinstance (by decide +kernel) (pa_cons (pv 0) (pa_cons (pe_globR (by rfl) T.g_NoUnknown) pa_nil))) pa_nil))) (pa_cons (pe_tup (pa_cons pe_str (pa_cons (pe_callB call_xis (by rfl) T.n_isinstance (by decide +kernel) (pa_cons (pv 0) (pa_cons (pe_globR (by rfl) T.g_NoEquation) pa_nil))) pa_nil))) pa_nil)))))
    (pss_cons (ps_set (i := 1) sc_Lkinds.nd rfl (by first | exact .inl rfl | exact .inr rfl) (pe_op op_cat (pv 1) (pe_lst (pa_cons (pe_tup (pa_cons pe_str (pa_cons (pe_callB call_xis (by rfl) T.n_isinstance (by decide +kernel) (pa_cons (pv 0) (pa_cons (pe_globR (by rfl) T.g_NoCase) pa_nil))) pa_nil))) (pa_cons (pe_tup (pa_cons pe_str (pa_cons (pe_callB call_xis (by rfl) T.n_isinstance (by decide +kernel) (pa_cons (pv 0) (pa_cons (pe_globR (by rfl) T.g_Nothing) pa_nil))) pa_nil))) pa_nil)))))
    (pss_cons (ps_set (i := 1) sc_Lkinds.nd rfl (by first | exact .inl rfl | exact .inr rfl) (pe_op op_cat (pv 1) (pe_lst (pa_cons (pe_tup (pa_cons pe_str (pa_cons (pe_callB call_xis (by rfl) T.n_isinstance (by decide +kernel) (pa_cons (pv 0) (pa_cons (pe_globR (by rfl) T.g_Contradicted) pa_nil))) pa_nil))) (pa_cons (pe_tup (pa_cons pe_str (pa_cons (pe_callB call_xis (by rfl) T.n_isinstance (by decide +kernel) (pa_cons (pv 0) (pa_cons (pe_globR (by rfl) T.g_Knotted) pa_nil))) pa_nil))) pa_nil)))))
    (pss_cons (ps_set (i := 1) sc_Lkinds.nd rfl (by first | exact .inl rfl | exact .inr rfl) (pe_op op_cat (pv 1) (pe_lst (pa_cons (pe_tup (pa_cons pe_str (pa_cons (pe_callB call_xis (by rfl) T.n_isinstance (by decide +kernel) (pa_cons (pv 0) (pa_cons (pe_globR (by rfl) T.g_ChainError) pa_nil))) pa_nil))) (pa_cons (pe_tup (pa_cons pe_str (pa_cons (pe_callB call_xis (by rfl) T.n_isinstance (by decide +kernel) (pa_cons (pv 0) (pa_cons (pe_bltn (v := .ty "ValueError") (by rfl) T.n_ValueError (by decide +kernel) rfl) pa_nil))) pa_nil))) pa_nil)))))
    (pss_cons (ps_set (i := 1) sc_Lkinds.nd rfl (by first | exact .inl rfl | exact .inr rfl) (pe_op op_cat (pv 1) (pe_lst (pa_cons (pe_tup (pa_cons pe_str (pa_cons (pe_callB call_xis (by rfl) T.n_isinstance (by decide +kernel) (pa_cons (pv 0) (pa_cons (pe_globR (by rfl) T.g_MissError) pa_nil))) pa_nil))) (pa_cons (pe_tup (pa_cons pe_str (pa_cons (pe_callB call_xis (by rfl) T.n_isinstance (by decide +kernel) (pa_cons (pv 0) (pa_cons (pe_bltn (v := .ty "LookupError") (by rfl) T.n_LookupError (by decide +kernel) rfl) pa_nil))) pa_nil))) pa_nil)))))
    (pss_cons (ps_set (i := 1) sc_Lkinds.nd rfl (by first | exact .inl rfl | exact .inr rfl) (pe_op op_cat (pv 1) (pe_lst (pa_cons (pe_tup (pa_cons pe_str (pa_cons (pe_callB call_xis (by rfl) T.n_isinstance (by decide +kernel) (pa_cons (pv 0) (pa_cons (pe_globR (by rfl) T.g_CaseError) pa_nil))) pa_nil))) (pa_cons (pe_tup (pa_cons pe_str (pa_cons (pe_callB call_xis (by rfl) T.n_isinstance (by decide +kernel) (pa_cons (pv 0) (pa_cons (pe_bltn (v := .ty "RuntimeError") (by rfl) T.n_RuntimeError (by decide +kernel) rfl) pa_nil))) pa_nil))) pa_nil)))))
    (pss_one (ps_ret (pe_lc (own := [("_law_kind", 2), ("_law_holds", 3)]) (g := (gTup K 2 (gCons (gName 2) (gCons (gName 3) gNil)))) rfl sc_Lkinds.nd (pi_list (pv 1)) (blkOk_by (N := N_Lkinds) (sc := defScope s_Lkinds) (by decide +kernel)) (fun _ _ _ _ _ => (pg_tup (by rfl) (pgs_cons (pg_name (i := 2) sc_Lkinds.nd rfl (Or.inl rfl)) (pgs_cons (pg_name (i := 3) sc_Lkinds.nd rfl (Or.inl rfl)) pgs_nil)))) (fun _ _ _ _ _ => (pts_one (pt_val (pv 3)))) (fun _ _ _ _ _ => (pv 2)))))))))))))))), ?_⟩
    refine My.ps_asgN (fun z => [some v, some z, none, none]) eB (p_lst (q_cons (p_pair (c := .ref (cx 0)) T hi 0 (by decide) rfl hv (fun u r => r)) (q_cons (p_pair (c := .ref (cx 1)) T hi 1 (by decide) rfl hv (fun u r => r)) q_nil)) (by show 2 ≤ 100000; decide)) fun v0 B0 H0 g0 h0 => ?_
    have hv := (XK (cx i)).m g0.b hv
    refine My.ps_asgN (fun z => [some v, some z, none, none]) g0.c (p_cat (p_var rfl h0) (p_lst (q_cons (p_pair (c := .ref (cx 2)) T hi 2 (by decide) rfl hv (fun u r => r)) (q_cons (p_pair (c := .ref (cx 3)) T hi 3 (by decide) rfl hv (fun u r => r)) q_nil)) (by show 2 ≤ 100000; decide)) (by show 2 + 2 ≤ 100000; decide)) fun v1 B1 H1 k1 h1 => ?_
    have g1 := g0.trans k1
    have hv := (XK (cx i)).m k1.b hv
    refine My.ps_asgN (fun z => [some v, some z, none, none]) g1.c (p_cat (p_var rfl h1) (p_lst (q_cons (p_pair (c := .ref (cx 4)) T hi 4 (by decide) rfl hv (fun u r => r)) (q_cons (p_pair (c := .ref (cx 5)) T hi 5 (by decide) rfl hv (fun u r => r)) q_nil)) (by show 2 ≤ 100000; decide)) (by show 4 + 2 ≤ 100000; decide)) fun v2 B2 H2 k2 h2 => ?_
    have g2 := g1.trans k2
    have hv := (XK (cx i)).m k2.b hv
    refine My.ps_asgN (fun z => [some v, some z, none, none]) g2.c (p_cat (p_var rfl h2) (p_lst (q_cons (p_pair (c := .ref (cx 6)) T hi 6 (by decide) rfl hv (fun u r => r)) (q_cons (p_pair (c := .ref (cx 12)) T hi 7 (by decide) rfl hv (fun u r => r)) q_nil)) (by show 2 ≤ 100000; decide)) (by show 6 + 2 ≤ 100000; decide)) fun v3 B3 H3 k3 h3 => ?_
    have g3 := g2.trans k3
    have hv := (XK (cx i)).m k3.b hv
    refine My.ps_asgN (fun z => [some v, some z, none, none]) g3.c (p_cat (p_var rfl h3) (p_lst (q_cons (p_pair (c := .ref (cx 13)) T hi 8 (by decide) rfl hv (fun u r => r)) (q_cons (p_pair (c := .ref (cx 14)) T hi 9 (by decide) rfl hv (fun u r => r)) q_nil)) (by show 2 ≤ 100000; decide)) (by show 8 + 2 ≤ 100000; decide)) fun v4 B4 H4 k4 h4 => ?_
    have g4 := g3.trans k4
    have hv := (XK (cx i)).m k4.b hv
    refine My.ps_asgN (fun z => [some v, some z, none, none]) g4.c (p_cat (p_var rfl h4) (p_lst (q_cons (p_pair (c := .ref (cx 7)) T hi 10 (by decide) rfl hv (fun u r => r)) (q_cons (p_pair (c := .ref (cx 8)) T hi 11 (by decide) rfl hv (fun u r => r)) q_nil)) (by show 2 ≤ 100000; decide)) (by show 10 + 2 ≤ 100000; decide)) fun v5 B5 H5 k5 h5 => ?_
    have g5 := g4.trans k5
    have hv := (XK (cx i)).m k5.b hv
    refine My.ps_asgN (fun z => [some v, some z, none, none]) g5.c (p_cat (p_var rfl h5) (p_lst (q_cons (p_pair (c := .ref (cx 9)) T hi 12 (by decide) rfl hv (fun u r => r)) (q_cons (p_pair (c := .ref (cx 15)) T hi 13 (by decide) rfl hv (fun u r => r)) q_nil)) (by show 2 ≤ 100000; decide)) (by show 12 + 2 ≤ 100000; decide)) fun v6 B6 H6 k6 h6 => ?_
    have g6 := g5.trans k6
    have hv := (XK (cx i)).m k6.b hv
    refine My.ps_asgN (fun z => [some v, some z, none, none]) g6.c (p_cat (p_var rfl h6) (p_lst (q_cons (p_pair (c := .ref (cx 10)) T hi 14 (by decide) rfl hv (fun u r => r)) (q_cons (p_pair (c := .ref (cx 11)) T hi 15 (by decide) rfl hv (fun u r => r)) q_nil)) (by show 2 ≤ 100000; decide)) (by show 14 + 2 ≤ 100000; decide)) fun v7 B7 H7 k7 h7 => ?_
    have g7 := g6.trans k7
    have hv := (XK (cx i)).m k7.b hv
    refine My.ps_asgN (fun z => [some v, some z, none, none]) g7.c (p_cat (p_var rfl h7) (p_lst (q_cons (p_pair (c := .ref (cx 16)) T hi 16 (by decide) rfl hv (fun u r => r)) (q_cons (p_pair (c := .ty "ValueError") T hi 17 (by decide) rfl hv (fun u r => r)) q_nil)) (by show 2 ≤ 100000; decide)) (by show 16 + 2 ≤ 100000; decide)) fun v8 B8 H8 k8 h8 => ?_
    have g8 := g7.trans k8
    have hv := (XK (cx i)).m k8.b hv
    refine My.ps_asgN (fun z => [some v, some z, none, none]) g8.c (p_cat (p_var rfl h8) (p_lst (q_cons (p_pair (c := .ref (cx 17)) T hi 18 (by decide) rfl hv (fun u r => r)) (q_cons (p_pair (c := .ty "LookupError") T hi 19 (by decide) rfl hv (fun u r => r)) q_nil)) (by show 2 ≤ 100000; decide)) (by show 18 + 2 ≤ 100000; decide)) fun v9 B9 H9 k9 h9 => ?_
    have g9 := g8.trans k9
    have hv := (XK (cx i)).m k9.b hv
    refine My.ps_asgN (fun z => [some v, some z, none, none]) g9.c (p_cat (p_var rfl h9) (p_lst (q_cons (p_pair (c := .ref (cx 18)) T hi 20 (by decide) rfl hv (fun u r => r)) (q_cons (p_pair (c := .ty "RuntimeError") T hi 21 (by decide) rfl hv (fun u r => r)) q_nil)) (by show 2 ≤ 100000; decide)) (by show 20 + 2 ≤ 100000; decide)) fun v10 B10 H10 k10 h10 => ?_
    have g10 := g9.trans k10
    have hv := (XK (cx i)).m k10.b hv
    have hq : (LsP ((List.range 22).map (prPair K i))).P v10 B10 := h10
    refine My.ps_ret g10.c (p_lc (p_var rfl (lq_ls hq)) (by simp) (fun j => (kb i).getD j false) (fun j => IsV (.str (nmOf.getD j Str.empty))) ?_) fun u B' H' g h => ?_
    · rintro j p x B1 hj e1 hp
      have hj' : j < 22 := by
        have := (List.getElem?_eq_some_iff.mp hj).1
        simpa using this
      obtain rfl : p = prPair K i j := by
        rw [List.getElem?_map, List.getElem?_range hj'] at hj
        exact (Option.some.inj hj).symm
      obtain ⟨r, ys, rfl, hr, hys⟩ := hp
      match ys, hys with
      | [y, z], ⟨hy, hz, _⟩ =>
        obtain rfl : y = _ := hy
        obtain rfl : z = _ := hz
        refine ⟨_, ?_, fun H2 Q eH hQ => ⟨r, _, rfl, ex_t eH hr, rfl, _, _, rfl, _, _, rfl, rfl, hQ⟩, ?_, fun _ => p_ev (ev_var ?_)⟩
        · rfl
        · exact et_B (ev_var rfl)
        · rfl
    · refine q u B' H' (g10.trans g) ?_
      have e : (txts (kinds i)) = LsP (((List.range ((List.range 22).map (prPair K i)).length).filter fun j => (kb i).getD j false).map fun j => IsV (.str (nmOf.getD j Str.empty))) := by
        unfold txts kinds
        rw [List.map_map, List.length_map, List.length_range]
        rfl
      rw [e]
      exact h
end

/-- _law_told -/
abbrev s_Ltold : Stmt := topS 69
abbrev N_Ltold : List Str := ["_law_deed", "_law_wrong", "_law_told_here", "e", "_law_kinds_here"]
theorem sc_Ltold : FnScope N_Ltold ["_law_deed"] (defScope s_Ltold) := ⟨rfl, rfl, rfl, by decide +kernel, rfl, by decide +kernel, by decide +kernel⟩
theorem giv_told {X : Cx} {g : Addr} {cdg : Value} {q : Str} {cx : Nat → Addr} {k : Nat} {f_Lkinds : Addr} {d_Lkinds : FuncData} (Tx : XT X.K X.mg cx) (hx : ∀ i, i < 16 → (kb i).getD 16 false = true → PySem.W.exmOne X.K (.ref (cx i)) (.ref (cx 16)) = some true)
    (c_Lkinds : Cal X.prog X.w X.K X.mg X.base "_law_kinds" 1 ["_law_error"] (spKinds cx) f_Lkinds d_Lkinds) (hr0 : Room 3 X.A) :
    GivesTo X N_Ltold "_law_told" (defScope s_Ltold) g cdg (defBody s_Ltold) "_law_deed" q (TTold cx) := by
  intro f c' s H Q tl act hc h
  have hr := hr0.deeper (PyProof.Rows.envOfC "_law_told" (defScope s_Ltold) s.heap.objs.size g cdg)
  refine ⟨_, (pss_cons (ps_asg (pe_tup (pa_cons pe_non (pa_cons pe_non pa_nil))) (pg_tup (by rfl) (pgs_cons (pg_name (i := 1) sc_Ltold.nd rfl (.inl rfl)) (pgs_cons (pg_name (i := 2) sc_Ltold.nd rfl (.inl rfl)) pgs_nil))))
    (pss_cons (ps_try_keep (i := 3) (j := 1) (c := .ref (cx 16)) (tb := fun W D σ H => ∃ Ech : XK, (∀ cls d σ' H', Ech cls d H' → W cls d σ' H') ∧ σ[0]? = some (some (.ref f)) ∧ H c' = some (CodeO c' q) ∧ tl Ech H fun v H1 => D.nx (σ.set 2 (some v)) H1) (Wout := fun _ _ _ _ => False)
      rfl rfl rfl sc_Ltold.nd rfl rfl rfl rfl ⟨rfl, by decide, .inl Tx.g_ChainError⟩ L2.takes0 (fun σ h => by obtain ⟨_, _, _, _, _, rfl⟩ := five h; rfl) (by decide) (by decide) (by rfl) (fun W pn xe tk _ => pss_one ⟨fun pins s' σ H' D I h' => by
        obtain ⟨Ech, hW, h1, h2, h3⟩ := h'
        exact (ps_set (i := 2) sc_Ltold.nd rfl (.inl rfl) (act W pn xe Ech _ _ tk hW)).run pins s' σ H' D I ⟨h1, h2, h3⟩⟩))
    (pss_cons (ps_if (pt_cmpR op_isN (pv 1) pe_non (nomark _)) (pss_one (ps_ret (pv 2))) pss_nil)
    (pss_cons (ps_set (i := 4) sc_Ltold.nd rfl (by first | exact .inl rfl | exact .inr rfl) (pe_call c_Lkinds.G (hr.mono (by decide)) (by rfl) c_Lkinds.m c_Lkinds.k c_Lkinds.b .nil pass0 (pa_cons (pv 1) pa_nil)))
    (pss_cons (ps_if (pt_cmpR (op_eqD hr.units) (pv 4) (pe_lst (pa_cons pe_str (pa_cons pe_str (pa_cons pe_str pa_nil)))) (nomark _)) (pss_one (ps_ret (pe_lst (pa_cons pe_str (pa_cons (pe_xat (bmB := bmI 2) (newId := nwI 2) (pv 1)) pa_nil))))) pss_nil)
    (pss_cons (ps_if (pt_cmpR (op_eqD hr.units) (pv 4) (pe_lst (pa_cons pe_str (pa_cons pe_str (pa_cons pe_str pa_nil)))) (nomark _)) (pss_one (ps_ret (pe_lst (pa_cons pe_str (pa_cons (pe_xat (bmB := bmI 3) (newId := nwI 3) (pv 1)) pa_nil))))) pss_nil)
    (pss_one (ps_ret (pe_ifExp (pt_cmpR (op_eqD hr.units) (pv 4) (pe_lst (pa_cons pe_str (pa_cons pe_str (pa_cons pe_str pa_nil)))) (nomark _)) (pe_lst (pa_cons pe_str (pa_cons (pe_xat (bmB := bmI 1) (newId := nwI 1) (pv 1)) pa_nil))) (pe_lst (pa_cons (pv 4) pa_nil))))))))))), ?_⟩
  refine ps_un2 (K := X.K) (p := IsV .non) (q := IsV .non) (Ex.refl H) (p_tup (q_cons (p_c (v := .non)) (q_cons (p_c (v := .non)) q_nil)) (by show 2 ≤ 100000; decide)) fun v w B1 H1 g1 h1 h2 => ?_
  obtain rfl : v = .non := h1
  obtain rfl : w = .non := h2
  dsimp only
  refine ⟨EchT cx Q, fun cls d σ2 H2 hE => ?_, rfl, g1.a _ _ hc, h H1 g1.a _ fun v H2 hq => ?_⟩
  · obtain ⟨i, fs, B2, hi, hk, rfl, eB, hd, hf, hq⟩ := hE
    refine ⟨true, hx i hi hk, fun _ => ⟨cx i, rfl, fun hl a na => ?_⟩, fun z => nomatch z⟩
    obtain ⟨s0, s1, s2, s3, s4, rfl⟩ := five hl
    obtain ⟨B5, g5, h5⟩ := exc_grow (C := cx i) eB na hd
    obtain ⟨q2, q3, q1, sh⟩ := told_eq i hi
    dsimp only
    refine ps_ifN g5.c (et_is (et_test (ev_isN0 (ev_var (i := 1) rfl))) rfl) fun H6 e6 => ?_
    dsimp only
    refine My.ps_asgN (fun x => [s0, some (.ref a), s2, none, some x]) (g5.c.trans e6) (p_call (p := txts (kinds i)) (q_cons (p_var (p := XK (cx i)) rfl (exc_k h5)) q_nil) fun vs B7 H7 Q7 E7 e7 al k7 => ?_) (fun x B8 H8 g8 hx8 => ?_) (fun _ => rfl)
    · obtain ⟨v7, rfl, hv7⟩ := all1 al
      exact ⟨i, v7, B7, hi, rfl, e7, hv7, k7⟩
    · have gg := (g5.trans (Gr.wide g5.c e6)).trans g8
      have h8 := (excP (cx i) fs).m g8.b h5
      dsimp only
      have kd : ∀ {σ : L2.St}, σ[4]? = some (some x) → EvP (tVar 4) σ B8 (IsD X.K (.list ((kinds i).map .str))) := fun s => p_to (p_var s hx8) (to_lst (toAll_map _ fun _ => to_str))
      have lit : ∀ {σ : L2.St} (a b c : Str), EvP (tLst (tCons (tC (.str a)) (tCons (tC (.str b)) (tCons (tC (.str c)) tNil)))) σ B8 (IsD X.K (.list [.str a, .str b, .str c])) := fun a b c => p_to (p_lst (ps := [IsV (.str a), IsV (.str b), IsV (.str c)]) (q_cons p_c (q_cons p_c (q_cons p_c q_nil))) (by show 3 ≤ 100000; decide)) (to_lst (.cons to_str (.cons to_str (.cons to_str .nil))))
      have c2 := et_test (ev_eqD (K := X.K) (kd (σ := [s0, some (.ref a), s2, none, some x]) rfl) (lit "ranking" "ours" "value") sh (by decide +kernel))
      rw [q2] at c2
      by_cases i2 : i = 2
      · subst i2
        refine My.ps_ifT g8.c (et_is c2 rfl) fun H9 e9 => ?_
        obtain ⟨p, rfl⟩ := hf "place" rfl
        refine My.ps_ret (g8.c.trans e9) (p_lst (ps := [IsV (.str "ranking"), p]) (q_cons p_c (q_cons (p_xat (Tx.xc 2 (by decide)) Tx.f_2_place (p_var (p := XF (cx 2) [("place", p)]) rfl h8) rfl) q_nil)) (by show 2 ≤ 100000; decide)) fun v10 B10 H10 g10 hv10 => ?_
        exact hq v10 B10 H10 ((gg.trans (Gr.wide g8.c e9)).trans g10) hv10
      · refine ps_ifN g8.c (et_is c2 (decide_eq_false i2)) fun H9 e9 => ?_
        dsimp only
        have c3 := et_test (ev_eqD (K := X.K) (kd (σ := [s0, some (.ref a), s2, none, some x]) rfl) (lit "chain" "ours" "value") sh (by decide +kernel))
        rw [q3] at c3
        by_cases i3 : i = 3
        · subst i3
          refine My.ps_ifT (g8.c.trans e9) (et_is c3 rfl) fun H10 e10 => ?_
          obtain ⟨p, rfl⟩ := hf "place" rfl
          refine My.ps_ret ((g8.c.trans e9).trans e10) (p_lst (ps := [IsV (.str "chain"), p]) (q_cons p_c (q_cons (p_xat (Tx.xc 3 (by decide)) Tx.f_3_place (p_var (p := XF (cx 3) [("place", p)]) rfl h8) rfl) q_nil)) (by show 2 ≤ 100000; decide)) fun v10 B10 H11 g10 hv10 => ?_
          exact hq v10 B10 H11 ((gg.trans (Gr.wide g8.c (e9.trans e10))).trans g10) hv10
        · refine ps_ifN (g8.c.trans e9) (et_is c3 (decide_eq_false i3)) fun H10 e10 => ?_
          dsimp only
          have c1 := et_test (ev_eqD (K := X.K) (kd (σ := [s0, some (.ref a), s2, none, some x]) rfl) (lit "polynomial" "ours" "value") sh (by decide +kernel))
          rw [q1] at c1
          refine My.ps_ret ((g8.c.trans e9).trans e10) (p := toldP i fs) (ed_if c1 (fun hb => ?_) fun hb => ?_) fun v10 B10 H11 g10 hv10 => hq v10 B10 H11 ((gg.trans (Gr.wide g8.c (e9.trans e10))).trans g10) hv10
          · obtain rfl : i = 1 := of_decide_eq_true hb
            obtain ⟨p, rfl⟩ := hf "number" rfl
            exact p_lst (ps := [IsV (.str "polynomial"), p]) (q_cons p_c (q_cons (p_xat (Tx.xc 1 (by decide)) Tx.f_1_number (p_var (p := XF (cx 1) [("number", p)]) rfl h8) rfl) q_nil)) (by show 2 ≤ 100000; decide)
          · rw [toldP_no (fld_no i hi (of_decide_eq_false hb) i2 i3)]
            exact p_lst (ps := [txts (kinds i)]) (q_cons (p_var rfl hx8) q_nil) (by show 1 ≤ 100000; decide)
  · dsimp only
    exact ⟨.non, rfl, rfl, true, rfl, v, rfl, hq⟩

end K12
namespace K12
set_option autoImplicit false
open PySem PySem.W L2 Evl My Nd LamX NdefX
theorem pe_told {X : Cx} {T : List (Addr × Str)} {cx : Nat → Addr} {f c P : Addr} {d : FuncData} {k : Nat} {params : Arguments} {body : Expr} {scope : Scope} {t : XK → TE} {p lpos pos : Pos} {f_Lkinds : Addr} {d_Lkinds : FuncData}
    (F : Fun X.K "_law_told" "_law_told" s_Ltold f d) (hm : X.mg "_law_told" = some (.ref f)) (hk : PySem.W.keepIn X.K (.ref f) = true) (hb : L2.Binds X.K d ["_law_deed"] []) (Tx : XT X.K X.mg cx) (hx : ∀ i, i < 16 → (kb i).getD 16 false = true → PySem.W.exmOne X.K (.ref (cx i)) (.ref (cx 16)) = some true)
    (c_Lkinds : Cal X.prog X.w X.K X.mg X.base "_law_kinds" 1 ["_law_error"] (spKinds cx) f_Lkinds d_Lkinds) (TB : TabB X.base X.mg c P) (hcode : X.env.code = .ref c) (hT : TO T P (X.env.qual ++ "<lambda>")) (hr : Room (k + 2) X.A) (hk1 : 1 ≤ k) (hg : Gl X "_law_told") (L : LamS X.env.scope scope) (hdef : defaultsOf params X.env = ([], []))
    (hbind : ∀ (q : Str) (cl : List (Str × Addr)) (pm cv ctv : Value), bindArgs (PySem.W.kla_fn "<lambda>" q params body scope cl pm cv ctv) ⟨[], []⟩ = pure [])
    (hbody : ∀ (A : Around) (outer : List Env) (s : Shared) (H : Hp) (E : XK) (f c' : Addr), Room k (A.deeper (lamEnv X scope s.heap.objs.size f c')) → PE (lamCx X A outer s H E scope f c') body (t E)) :
    PE X (.Call (.Name "_law_told" p) [.Lambda params body scope lpos] [] pos) (tLam T (TTold cx) t) := by
  obtain ⟨oc, od, kV, doc, pm, an, cdv, ct, osl, rfl, lk, hcd⟩ := F.ex
  exact pe_lamcall (a := "_law_deed") (Ng := N_Ltold) hg hm hk lk hcd hb sc_Ltold rfl (.inl rfl) (giv_told (k := 0) Tx hx c_Lkinds (hr.mono (by omega))) TB hcode hT.1 hT.2 hr L hdef hbind hbody
section
variable {T : List (Addr × Str)} {R : List Pr → Out → Prop} {ts : TA} {σ : L2.St} {B H : Hp} {ps : List Pr} {Q : VK} {cx : Nat → Addr} {i : Nat} {fs : List (Str × Pr)}
/-- told of a deed that is refused -/
theorem x_told (kn : Kn T B H) (h : EvPs ts σ B ps) (hr : R ps (.exc (cx i) fs)) (hi : i < 16) (hk : (kb i).getD 16 false = true) (hf : ∀ f, fldOf i = some f → ∃ p, fs = [(f, p)]) (q : ∀ v B' H', GT T B H B' H' → (toldP i fs).P v B' → Q v H') :
    tLam T (TTold cx) (fun E => tCallS (spO R) (WE fun cls d _ H => E cls d H) ts) σ H Q := ⟨kn.t, fun H1 eN T1 H2 e2 Q2 _ => by
  have k1 := kn.next eN T1
  have g := (GT.xn kn eN T1).trans (GT.gr (Gr.wide k1.e e2))
  exact o_call (E := WE _) (k1.ex e2).e h hr fun d B' H' g2 hd => ⟨i, fs, B', hi, hk, rfl, g2.c, hd, hf, fun v B3 H3 g3 hv => q v B3 H3 (g.trans (GT.gr (g2.trans g3))) hv⟩⟩
theorem x_toldT (kn : Kn T B H) (h : EvPs ts σ B ps) (hr : R ps (.exc (cx i) fs)) (hi : i < 16) (hk : (kb i).getD 16 false = true) (hf : ∀ f, fldOf i = some f → ∃ p, fs = [(f, p)]) (q : ∀ v B' H', GT T B H B' H' → (toldP i fs).P v B' → Q v H') :
    tLam T (TTold cx) (fun E => tCallS (spOT T R) (WE fun cls d _ H => E cls d H) ts) σ H Q := ⟨kn.t, fun H1 eN T1 H2 e2 Q2 _ => by
  have k1 := kn.next eN T1
  have g := (GT.xn kn eN T1).trans (GT.gr (Gr.wide k1.e e2))
  exact o_callT (E := WE _) (k1.ex e2) h hr fun d B' H' g2 hd => ⟨i, fs, B', hi, hk, rfl, g2.c, hd, hf, fun v B3 H3 g3 hv => q v B3 H3 (g.trans (g2.trans (GT.gr g3))) hv⟩⟩
end
section
variable {T : List (Addr × Str)} {K : PySem.W.Frag} {d : Addr} {n : Nat} {B H : Hp} {te ta tb : TE} {σ : L2.St} {Q : VK} {D : Ends} {t u : TS}
end
end K12
namespace Nd
set_option autoImplicit false
open PySem PySem.Spec PySem.W PyProof.Rows L2 My Evl LamX NdefX
/-! ### plain texts alone -/
mutual
def asB : PyData → Bool
  | .str x => decide (x.length ≤ 100000) && x.cps.toList.all fun c => decide (c < 128)
  | .tuple xs => asAll xs
  | .list xs => asAll xs
  | _ => true
def asAll : List PyData → Bool
  | [] => true
  | x :: r => asB x && asAll r
end
mutual
theorem as_sm : ∀ {d : PyData}, asB d = true → smB d = true
  | .none, _ => smd_non
  | .bool _, _ => smd_bl
  | .int _, _ => smd_int
  | .str x, h => by
    unfold asB at h
    exact smd_str (of_decide_eq_true (Bool.and_eq_true_iff.mp h).1)
  | .tuple xs, h => by
    unfold smB
    exact as_smA (by simpa only [asB] using h)
  | .list xs, h => by
    unfold smB
    exact as_smA (by simpa only [asB] using h)
  | .dict _, _ => by rw [smB] <;> (intro _ z; cases z)
theorem as_smA : ∀ {ds : List PyData}, asAll ds = true → smAll ds = true
  | [], _ => by rw [smAll]
  | x :: r, h => by
    simp only [asAll, Bool.and_eq_true] at h
    rw [smAll, as_sm h.1, as_smA h.2]
    rfl
end
theorem as_mem : ∀ {xs : List PyData}, asAll xs = true → ∀ x ∈ xs, asB x = true
  | [], _, x, hx => absurd hx List.not_mem_nil
  | y :: r, h, x, hx => by
    simp only [asAll, Bool.and_eq_true] at h
    rcases List.mem_cons.mp hx with rfl | hx
    · exact h.1
    · exact as_mem h.2 x hx
theorem as_of : ∀ {xs : List PyData}, (∀ x ∈ xs, asB x = true) → asAll xs = true
  | [], _ => by rw [asAll]
  | y :: r, h => by
    rw [asAll, h y List.mem_cons_self, as_of fun x hx => h x (List.mem_cons_of_mem _ hx)]
    rfl
theorem as_tu {xs : List PyData} (h : asB (.tuple xs) = true) : ∀ x ∈ xs, asB x = true := as_mem (by simpa only [asB] using h)
theorem as_non : asB .none = true := by unfold asB; rfl
theorem as_it {d : PyData} (h : asB d = true) (k : Nat) : asB (it k d) = true := by
  cases d with
  | tuple xs =>
    show asB (xs.getD k .none) = true
    rw [List.getD_eq_getElem?_getD]
    cases e : xs[k]? with
    | none => exact as_non
    | some x => exact as_tu h x (List.mem_of_getElem? e)
  | _ => exact as_non
def RBA (K : PySem.W.Frag) (f : PyData → Bool) : List Pr → Pr → Prop := fun ps p => ∃ (q : Pr) (d : PyData), ToE K q d ∧ asB d = true ∧ ps = [q] ∧ p = IsV (.bl (f d))
def isI : PyData → Bool
  | .int _ => true
  | .bool _ => true
  | _ => false
def isBo : PyData → Bool
  | .bool _ => true
  | _ => false
/-- what the law tells -/
def dueP (o : Option (Option Str)) : Pr := match o with
  | none => IsV .non
  | some w => LsP [IsV (.str "ranking"), wordP w]
def RdueR (K : PySem.W.Frag) : List Pr → Pr → Prop := fun ps p => ∃ (q : Pr) (d : PyData), ToE K q d ∧ asB d = true ∧ (∀ xs, it 2 d = .tuple xs → xs.length ≤ 1000) ∧ ps = [q] ∧ p = dueP (rkDue d)
def RknE (K : PySem.W.Frag) : List Pr → Pr → Prop := fun ps p => ∃ (r : Rk) (q : Pr) (d : PyData), r.Ok ∧ ToE K q d ∧ asB d = true ∧ ps = [RkP K r, q] ∧ p = IsV (.bl (fitsB r d))
theorem filt_all {α : Type} (f : α → Bool) (x0 : α) (l : List α) : ((List.range l.length).filter fun i => !f (l.getD i x0)).isEmpty = l.all f := by
  rw [Bool.eq_iff_iff, List.isEmpty_iff, List.filter_eq_nil_iff, List.all_eq_true]
  constructor
  · intro h x hx
    obtain ⟨i, hi, rfl⟩ := List.mem_iff_getElem.mp hx
    have := h i (List.mem_range.mpr hi)
    rw [List.getD_eq_getElem?_getD, List.getElem?_eq_getElem hi, Option.getD_some] at this
    simpa using this
  · intro h i hi
    have hi := List.mem_range.mp hi
    rw [List.getD_eq_getElem?_getD, List.getElem?_eq_getElem hi, Option.getD_some, h _ (List.getElem_mem hi)]
    simp
section
variable {K : PySem.W.Frag} {te ta tb : TE} {tc : TT} {σ : L2.St} {B H : Hp} {q : Pr} {d : PyData} {ds : List PyData} {v : V} {D : Ends} {p : Pr}
theorem ev_isIE (h : EvP te σ B (IsE K d)) : Ev (tCB (rIsi K) (tCons te (tCons (tC (.ty "int")) tNil))) σ B (.bl (isI d)) := ev_isiE h (by cases d <;> (dsimp only [tyS, isI]; decide +kernel))
theorem ev_isBE (h : EvP te σ B (IsE K d)) : Ev (tCB (rIsi K) (tCons te (tCons (tC (.ty "bool")) tNil))) σ B (.bl (isBo d)) := ev_isiE h (by cases d <;> (dsimp only [tyS, isBo]; decide +kernel))
theorem ev_nsign {c : Nat} {z : Str} (ha : Ev ta σ B (.str ⟨#[c]⟩)) (hb : Ev tb σ B (.str z)) : Ev (tOp (fun x y H Q => ∃ (c : Nat) (z : Str), x = .str ⟨#[c]⟩ ∧ y = .str z ∧ Q (.bl (!decide (c ∈ z.cps.toList))) H) ta tb) σ B (.bl (!decide (c ∈ z.cps.toList))) := fun H1 e Q q =>
  ha H1 e _ fun H2 e2 => hb H2 (e.trans e2) _ fun H3 e3 => ⟨c, z, rfl, rfl, q H3 (e2.trans e3)⟩
theorem sh_signs {x : Str} {l : List Nat} (h : ∀ i ∈ l, x.cps.getD i 0 < 128) : SeqAt.shaped (.list (l.map fun i => .str (oneS x i))) = true := by
  have c : PyData.canLayAll0 (l.map fun i => PyData.str (oneS x i)) = true ∧ PyData.depthAll (l.map fun i => PyData.str (oneS x i)) = 0 := by
    induction l with
    | nil => exact ⟨rfl, rfl⟩
    | cons i l ih =>
      obtain ⟨i1, i2⟩ := ih fun k hk => h k (List.mem_cons_of_mem _ hk)
      have h0 := h i List.mem_cons_self
      have ok : PyData.strOk (oneS x i) = true := by
        unfold PyData.strOk oneS
        rw [Array.all_eq_true']
        intro c hc
        obtain rfl : c = x.cps.getD i 0 := by simpa using hc
        generalize x.cps.getD i 0 = c at h0
        simp
        omega
      refine ⟨?_, ?_⟩
      · simp only [List.map_cons, PyData.canLayAll0, PyData.canLay0, ok, i1, Bool.and_self]
      · simp only [List.map_cons, PyData.depthAll, PyData.depth, i2]
        rfl
  unfold SeqAt.shaped
  rw [Bool.and_eq_true]
  refine ⟨by rw [PyData.canLay0]; exact c.1, ?_⟩
  refine _root_.decide_eq_true ?_
  rw [PyData.depth, c.2]
  decide
/-- not a tuple, or not of so many, or .. -/
theorem et_tupCE {n : Nat} {c : Bool} (h : EvP te σ B (IsE K d)) (hc : tupN n d = true → EvT tc σ B c) : EvT (tOr (tNot (tB (tCB (rIsi K) (tCons te (tCons (tC (.ty "tuple")) tNil))))) (tOr (tTest (tOp rNe (tCB (rLenS K) (tCons te tNil)) (tC (.int (n : Int))))) tc)) σ B (!tupN n d || c) := by
  cases ht : tupN n d with
  | false =>
    refine et_is (et_or (a := !isTu d) (b := true) (et_not (et_B (ev_isTuE h))) fun e => ?_) (by simp)
    obtain ⟨xs, rfl⟩ : ∃ xs, d = .tuple xs := by
      cases d <;> first | exact ⟨_, rfl⟩ | exact absurd e (by simp [isTu])
    refine et_or (a := true) (b := true) (et_is (et_test (ev_op (ev_lenE h (.inl rfl)) (ev_c (v := .int (n : Int))) (rv_ne rfl))) ?_) fun z => nomatch z
    have hne : xs.length ≠ n := by
      intro z
      rw [show tupN n (.tuple xs) = (xs.length == n) from rfl, z] at ht
      simp at ht
    have : ¬ V.int (xs.length : Int) = V.int (n : Int) := fun z => hne (by have := V.int.inj z; omega)
    rw [decide_eq_false this]
    rfl
  | true =>
    obtain ⟨xs, rfl, hl⟩ := tupN_ex ht
    refine et_is (et_or (a := false) (b := c) (et_is (et_not (et_B (ev_isTuE h))) rfl) fun _ => et_is (et_or (a := false) (b := c) (et_is (et_test (ev_op (ev_lenE h (.inl rfl)) ev_c (rv_ne rfl))) ?_) fun _ => hc ht) (by simp)) (by simp)
    rw [hl]
    simp
theorem p_it {n k : Nat} (h : EvP te σ B (IsE K d)) (ht : tupN n d = true) (hk : k < n) : EvP (tOp (rIxT K) te (tC (.int (k : Int)))) σ B (IsE K (it k d)) := by
  obtain ⟨xs, rfl, hl⟩ := tupN_ex ht
  refine p_ixT (K := K) (ps := xs.map (IsE K)) (h.imp fun v B1 _ x => tu_e x) p_c (atI_nat ?_)
  rw [List.getElem?_map, List.getElem?_eq_getElem (by omega)]
  show some (IsE K xs[k]) = some (IsE K (xs.getD k .none))
  rw [List.getD_eq_getElem?_getD, List.getElem?_eq_getElem (by omega)]
  rfl
end
theorem as_can {x : Str} (h : asB (.str x) = true) : PyData.canLay0 (.str x) = true := by
  unfold asB at h
  rw [Bool.and_eq_true, List.all_eq_true] at h
  rw [PyData.canLay0]
  unfold PyData.strOk
  rw [← Array.all_toList, List.all_eq_true]
  intro c hc
  have := of_decide_eq_true (h.2 c hc)
  simp
  omega
end Nd
namespace K12
set_option autoImplicit false
open PySem PySem.W L2 Evl My Nd LamX NdefX
section
variable {P : Program} {w : World} {K : PySem.W.Frag} {mg : Str → Option Value} {base : Heap}

/-- _law_is_name -/
abbrev s_Lis_name : Stmt := topS 70
abbrev N_Lis_name : List Str := ["_law_it", "_law_sign"]
theorem sc_Lis_name : FnScope N_Lis_name ["_law_it"] (defScope s_Lis_name) := ⟨rfl, rfl, rfl, by decide +kernel, rfl, by decide +kernel, by decide +kernel⟩
theorem ok_Lis_name {f : Addr} {fd : FuncData} (F : Fun K "_law_is_name" "_law_is_name" s_Lis_name f fd)   (n_isinstance : mg "isinstance" = none) (n_str : mg "str" = none) (n_len : mg "len" = none)  :
    FnOk P w K mg base CX0 2 f fd ["_law_it"] (spP (RBA K nameB)) := by
  refine F.ok sc_Lis_name (spP_len (by rintro _ _ ⟨_, _, _, _, rfl, rfl⟩; rfl)) (fun cdv A outer s H vs Q E hr h => ?_)
  obtain ⟨B, ps, p, eB, hv, ⟨qd, d, tq, hs, rfl, rfl⟩, q⟩ := h
  obtain ⟨v, rfl, h1⟩ := all1 hv
  have hd : De K B v d := tq _ _ h1
  have hu := hu_of hr
  refine ⟨_, (pss_cons (ps_if (PW.pt (pw_or (pt_not (pt_val (pe_callB (show CallR _ (.builtin "isinstance") (rIsi K) from call_isi) (by rfl) n_isinstance (by decide +kernel) (pa_cons (pv 0) (pa_cons (pe_bltn (v := .ty "str") (u := .type "str") (by rfl) n_str (by decide +kernel) rfl) pa_nil))))) (pw_or1 (pt_not (pt_chain op_lt op_lt pe_int (pe_callB call_len_str (by rfl) n_len (by decide +kernel) (pa_cons (pv 0) pa_nil)) pe_int))))) (pss_one (ps_ret pe_bl)) pss_nil)
    (pss_one (ps_ret (pe_cmpR (show OpR _ (compareOp .Eq) (rEqD K) from op_eqD hr.units) (pe_lc (own := [("_law_sign", 1)]) rfl sc_Lis_name.nd (pi_str (pv 0)) (blkOk_by (N := N_Lis_name) (sc := defScope s_Lis_name) (by decide +kernel)) (fun _ _ _ _ _ => (pg_name (i := 1) sc_Lis_name.nd rfl (Or.inl rfl))) (fun _ _ _ _ _ => (pts_one (pt_cmpR op_notIn_sign (pv 1) pe_str (by rfl)))) (fun _ _ _ _ _ => (pv 1))) (pe_lst pa_nil) (nomark _))))), ?_⟩
  have ev : ∀ x, EvP (tVar 0) [some v, x] B (IsE K d) := fun _ => p_var rfl hd
  cases hst : isStB d with
  | false =>
    refine My.ps_ifT eB (et_is (et_or (a := true) (b := true) (et_is (et_not (et_B (ev_isStE (ev none)))) (by rw [hst]; rfl)) fun z => nomatch z) rfl) fun H1 e1 => ?_
    refine My.ps_ret (eB.trans e1) (p_c (v := .bl false)) fun v B1 H2 g hp => q v B1 H2 ((Gr.wide eB e1).trans g) ?_
    rw [show nameB d = false from by cases h0 : nameB d with
      | false => rfl
      | true => rw [nm_st h0] at hst; cases hst]
    exact hp
  | true =>
  obtain ⟨x, rfl⟩ : ∃ x, d = .str x := ⟨_, isSt_ex hst⟩
  have hl : x.length ≤ 100000 := by
    have := hs
    unfold asB at this
    rw [Bool.and_eq_true] at this
    exact of_decide_eq_true this.1
  have hc : ∀ c ∈ x.cps.toList, c < 128 := fun c hc => by
    have := hs
    unfold asB at this
    rw [Bool.and_eq_true, List.all_eq_true] at this
    exact of_decide_eq_true (this.2 c hc)
  have hcs : ∀ i, i < x.cps.size → x.cps.getD i 0 < 128 := fun i hi => by
    have : x.cps.getD i 0 ∈ x.cps.toList := by
      rw [Array.getD_eq_getD_getElem?, Array.getElem?_eq_getElem hi]
      exact Array.mem_toList_iff.mpr (Array.getElem_mem hi)
    exact hc _ this
  have ex : ∀ s, Ev (tVar 0) [some v, s] B (.str x) := fun s => ev_strE (ev s) rfl
  have t1 := et_or (a := false) (b := !(decide ((0 : Int) < (x.length : Int)) && decide ((x.length : Int) < 9))) (et_is (et_not (et_B (ev_isStE (ev none)))) rfl) fun _ => et_not (et_test (ev_chain (r1 := fun i j => decide (i < j)) (r2 := fun i j => decide (i < j)) (ev_c (v := .int 0)) (ev_lenS (x := x) (ex none) hl) (ev_c (v := .int 9))))
  have e2 : (decide ((0 : Int) < (x.length : Int)) && decide ((x.length : Int) < 9)) = (decide (1 ≤ x.length) && decide (x.length ≤ 8)) := by
    congr 1 <;> (apply decide_eq_decide.mpr; omega)
  rw [e2] at t1
  have en : nameB (.str x) = (decide (1 ≤ x.length) && decide (x.length ≤ 8) && x.cps.toList.all fun c => decide (97 ≤ c) && decide (c ≤ 122)) := rfl
  cases c1 : (decide (1 ≤ x.length) && decide (x.length ≤ 8)) with
  | false =>
    refine My.ps_ifT eB (et_is t1 (by rw [c1]; rfl)) fun H1 e1 => ?_
    refine My.ps_ret (eB.trans e1) (p_c (v := .bl false)) fun v B1 H2 g hp => q v B1 H2 ((Gr.wide eB e1).trans g) ?_
    rw [en, c1]
    exact hp
  | true =>
    refine ps_ifN eB (et_is t1 (by rw [c1]; rfl)) fun H1 e1 => ?_
    dsimp only
    have signs : EvP (tLc (iStr (tVar 0)) (gName 1) (tTest (tOp (fun x y H Q => ∃ (c : Nat) (z : Str), x = .str ⟨#[c]⟩ ∧ y = .str z ∧ Q (.bl (!decide (c ∈ z.cps.toList))) H) (tVar 1) (tC (.str "abcdefghijklmnopqrstuvwxyz")))) (tVar 1) [1]) [some v, none] B (LsP (((List.range x.cps.size).filter fun i => !decide (x.cps.getD i 0 ∈ (Str.ofString "abcdefghijklmnopqrstuvwxyz").cps.toList)).map fun i => IsV (.str (oneS x i)))) := by
      refine p_lcS (src_str (x := x) (ex none)) (by show x.length ≤ _; omega) (fun i => !decide (x.cps.getD i 0 ∈ (Str.ofString "abcdefghijklmnopqrstuvwxyz").cps.toList)) (fun i => IsV (.str (oneS x i))) fun i v1 B1 hi e pv => ?_
      obtain rfl : v1 = .str (oneS x i) := pv
      exact ⟨[some v, some (.str (oneS x i))], rfl, fun H2 Q e q => q, et_test (ev_nsign (c := x.cps.getD i 0) (z := "abcdefghijklmnopqrstuvwxyz") (ev_var rfl) ev_c), fun _ => p_varV rfl⟩
    have eqn := ev_eqD (K := K) (p_to signs (to_lst (toAll_map _ fun i => to_str))) (p_to (p_lst (ps := []) q_nil (by show 0 ≤ 100000; decide)) (to_lst .nil)) (sh_signs fun i hi => hcs i (List.mem_range.mp (List.mem_filter.mp hi).1)) rfl
    rw [eqv_nil, List.isEmpty_map] at eqn
    refine My.ps_ret (eB.trans e1) (p_ev (v := .bl (nameB (.str x))) (ev_is eqn ?_)) fun v B1 H2 g hp => q v B1 H2 ((Gr.wide eB e1).trans g) hp
    rw [en, c1, Bool.true_and]
    refine congrArg V.bl ?_
    rw [← all_cps x fun c => decide (97 ≤ c) && decide (c ≤ 122), Bool.eq_iff_iff, List.isEmpty_iff, List.filter_eq_nil_iff, List.all_eq_true]
    constructor
    · intro h y hy
      obtain ⟨i, hi, rfl⟩ := List.mem_map.mp hy
      have := h i hi
      rw [low_let] at this
      simpa using this
    · intro h i hi
      have := h _ (List.mem_map.mpr ⟨i, hi, rfl⟩)
      rw [low_let]
      simpa using this

/-- _law_due -/
abbrev s_Ldue : Stmt := topS 71
abbrev N_Ldue : List Str := ["_law_it", "_law_sort", "_law_names_here", "_law_axes", "_law_name", "_law_axis"]
theorem sc_Ldue : FnScope N_Ldue ["_law_it"] (defScope s_Ldue) := ⟨rfl, rfl, rfl, by decide +kernel, rfl, by decide +kernel, by decide +kernel⟩
theorem ok_Ldue {f : Addr} {fd : FuncData} (F : Fun K "_law_due" "_law_due" s_Ldue f fd)  {f_Lis_name : Addr} {d_Lis_name : FuncData} (c_Lis_name : Cal P w K mg base "_law_is_name" 2 ["_law_it"] (spP (RBA K nameB)) f_Lis_name d_Lis_name) (n_isinstance : mg "isinstance" = none) (n_tuple : mg "tuple" = none) (n_len : mg "len" = none) (n_str : mg "str" = none) (n_set : mg "set" = none)  :
    FnOk P w K mg base CX0 3 f fd ["_law_it"] (spP (RdueR K)) := by
  refine F.ok sc_Ldue (spP_len (by rintro _ _ ⟨_, _, _, _, _, rfl, rfl⟩; rfl)) (fun cdv A outer s H vs Q E hr h => ?_)
  obtain ⟨B, ps, p, eB, hv, ⟨qd, d, tq, hs, hxl, rfl, rfl⟩, q⟩ := h
  obtain ⟨v, rfl, h1⟩ := all1 hv
  have hd : De K B v d := tq _ _ h1
  have hu := hu_of hr
  refine ⟨_, (pss_cons (ps_if (PW.pt (pw_or (pt_not (pt_val (pe_callB (show CallR _ (.builtin "isinstance") (rIsi K) from call_isi) (by rfl) n_isinstance (by decide +kernel) (pa_cons (pv 0) (pa_cons (pe_bltn (v := .ty "tuple") (u := .type "tuple") (by rfl) n_tuple (by decide +kernel) rfl) pa_nil))))) (pw_or1 (pt_cmpR op_ne (pe_callB call_len_seq (by rfl) n_len (by decide +kernel) (pa_cons (pv 0) pa_nil)) pe_int (nomark _))))) (pss_one (ps_ret (pe_lst (pa_cons pe_str (pa_cons pe_non pa_nil))))) pss_nil)
    (pss_cons (ps_asg (pv 0) (pg_tup (by rfl) (pgs_cons (pg_name (i := 1) sc_Ldue.nd rfl (by first | exact .inl rfl | exact .inr rfl)) (pgs_cons (pg_name (i := 2) sc_Ldue.nd rfl (by first | exact .inl rfl | exact .inr rfl)) (pgs_cons (pg_name (i := 3) sc_Ldue.nd rfl (by first | exact .inl rfl | exact .inr rfl)) pgs_nil)))))
    (pss_cons (ps_if (PW.pt (pw_or (pt_not (pt_val (pe_callB (show CallR _ (.builtin "isinstance") (rIsi K) from call_isi) (by rfl) n_isinstance (by decide +kernel) (pa_cons (pv 1) (pa_cons (pe_bltn (v := .ty "str") (u := .type "str") (by rfl) n_str (by decide +kernel) rfl) pa_nil))))) (pw_or1 (pt_cmpR op_notIn_seq (pv 1) (pe_tup (pa_cons pe_str (pa_cons pe_str pa_nil))) (by rfl))))) (pss_one (ps_ret (pe_lst (pa_cons pe_str (pa_cons pe_str pa_nil))))) pss_nil)
    (pss_cons (ps_if (PW.pt (pw_or (pt_not (pt_val (pe_callB (show CallR _ (.builtin "isinstance") (rIsi K) from call_isi) (by rfl) n_isinstance (by decide +kernel) (pa_cons (pv 2) (pa_cons (pe_bltn (v := .ty "tuple") (u := .type "tuple") (by rfl) n_tuple (by decide +kernel) rfl) pa_nil))))) (pw_or1 (pt_not (pt_chain op_lt op_lt pe_int (pe_callB call_len_seq (by rfl) n_len (by decide +kernel) (pa_cons (pv 2) pa_nil)) pe_int))))) (pss_one (ps_ret (pe_lst (pa_cons pe_str (pa_cons pe_str pa_nil))))) pss_nil)
    (pss_cons (ps_if (pt_cmpR (show OpR _ (compareOp .NotEq) (rNeNil K) from op_neNil hr.units) (pe_lc (own := [("_law_name", 4)]) rfl sc_Ldue.nd (pi_tup (pv 2)) (blkOk_by (N := N_Ldue) (sc := defScope s_Ldue) (by decide +kernel)) (fun _ _ _ _ _ => (pg_name (i := 4) sc_Ldue.nd rfl (Or.inl rfl))) (fun _ _ _ _ _ => (pts_one (pt_not (pt_val (pe_call c_Lis_name.G (hr.mono (by decide)) (by rfl) c_Lis_name.m c_Lis_name.k c_Lis_name.b .nil pass0 (pa_cons (pv 4) pa_nil)))))) (fun _ _ _ _ _ => (pv 4))) (pe_lst pa_nil) (nomark _)) (pss_one (ps_ret (pe_lst (pa_cons pe_str (pa_cons pe_str pa_nil))))) pss_nil)
    (pss_cons (ps_if (pt_cmpR op_ne (pe_lenSetU rfl (by rfl) n_len (by rfl) n_set (pv 2)) (pe_callB call_len_seq (by rfl) n_len (by decide +kernel) (pa_cons (pv 2) pa_nil)) (nomark _)) (pss_one (ps_ret (pe_lst (pa_cons pe_str (pa_cons pe_str pa_nil))))) pss_nil)
    (pss_cons (ps_if (PW.pt (pw_or (pt_not (pt_val (pe_callB (show CallR _ (.builtin "isinstance") (rIsi K) from call_isi) (by rfl) n_isinstance (by decide +kernel) (pa_cons (pv 3) (pa_cons (pe_bltn (v := .ty "tuple") (u := .type "tuple") (by rfl) n_tuple (by decide +kernel) rfl) pa_nil))))) (pw_or1 (pt_cmpR (show OpR _ (compareOp .NotEq) (rNeNil K) from op_neNil hr.units) (pe_lc (own := [("_law_axis", 5)]) rfl sc_Ldue.nd (pi_tup (pv 3)) (blkOk_by (N := N_Ldue) (sc := defScope s_Ldue) (by decide +kernel)) (fun _ _ _ _ _ => (pg_name (i := 5) sc_Ldue.nd rfl (Or.inl rfl))) (fun _ _ _ _ _ => (pts_one (pt_not (pt_val (pe_callB (show CallR _ (.builtin "isinstance") (rIsi K) from call_isi) (by rfl) n_isinstance (by decide +kernel) (pa_cons (pv 5) (pa_cons (pe_bltn (v := .ty "str") (u := .type "str") (by rfl) n_str (by decide +kernel) rfl) pa_nil))))))) (fun _ _ _ _ _ => (pv 5))) (pe_lst pa_nil) (nomark _))))) (pss_one (ps_ret (pe_lst (pa_cons pe_str (pa_cons pe_str pa_nil))))) pss_nil)
    (pss_one (ps_ret (pe_ifExp (pt_cmpR (op_inT (by have h := hr.un; show (A.deeper _).units + 65 < cLine; omega)) (pv 3) (pe_tup (pa_cons (pe_tup (pa_cons pe_str pa_nil)) (pa_cons (pe_tup (pa_cons pe_str (pa_cons pe_str pa_nil))) (pa_cons (pe_tup (pa_cons pe_str (pa_cons pe_str pa_nil))) pa_nil)))) (by rfl)) pe_non (pe_lst (pa_cons pe_str (pa_cons pe_str pa_nil))))))))))))), ?_⟩
  have no : ∀ {te : TE} {σ : L2.St} {B' : Hp} (w : Str), EvP (tLst (tCons (tC (.str "ranking")) (tCons (tC (.str w)) tNil))) σ B' (LsP [IsV (.str "ranking"), wordP (some w)]) := fun {_ _ _} w => p_lst (q_cons p_c (q_cons p_c q_nil)) (by show 2 ≤ 100000; decide)
  have emp : ∀ {σ : L2.St} {B' : Hp}, EvP (tLst tNil) σ B' (LqP K []) := fun {_ _} => p_lq (p_lst (ps := []) q_nil (by show 0 ≤ 100000; decide))
  have t0 : EvT _ [some v, none, none, none, none, none] B (!tupN 3 d) := et_is (et_or (a := !isTu d) (b := !tupN 3 d) (et_not (et_B (ev_isTuE (p_var (i := 0) (p := IsE K d) rfl hd)))) fun e => by
    obtain ⟨xs, rfl⟩ : ∃ xs, d = .tuple xs := by
      cases d <;> first | exact ⟨_, rfl⟩ | exact absurd e (by simp [isTu])
    refine et_is (et_test (ev_op (ev_lenE (p_var (i := 0) (p := IsE K (.tuple xs)) rfl hd) (.inl rfl)) (ev_c (v := .int 3)) (rv_ne rfl))) ?_
    show (!decide (V.int (xs.length : Int) = V.int 3)) = !(xs.length == 3)
    by_cases z : xs.length = 3
    · rw [z]
      rfl
    · have : ¬ V.int (xs.length : Int) = V.int 3 := fun q => z (by have := V.int.inj q; omega)
      simp [z, this]) (by cases d <;> first | rfl | simp [isTu, tupN])
  cases ht : tupN 3 d with
  | false =>
    refine My.ps_ifT eB (et_is t0 (by rw [ht]; rfl)) fun H1 e1 => ?_
    refine My.ps_ret (eB.trans e1) (p_lst (ps := [IsV (.str "ranking"), IsV .non]) (q_cons p_c (q_cons p_c q_nil)) (by show 2 ≤ 100000; decide)) fun v B1 H2 g hp => q v B1 H2 ((Gr.wide eB e1).trans g) ?_
    rw [show rkDue d = some none from by unfold rkDue; rw [ht]; rfl]
    exact hp
  | true =>
  refine ps_ifN eB (et_is t0 (by rw [ht]; rfl)) fun H1 e1 => ?_
  dsimp only
  have s0 := as_it hs 0
  have s1 := as_it hs 1
  have s2 := as_it hs 2
  refine ps_un3E (K := K) (eB.trans e1) (p_var (p := IsE K (.tuple [it 0 d, it 1 d, it 2 d])) rfl (by rw [← tpl3 ht]; exact hd)) fun z1 z2 z3 B2 H2 g2 n1 n2 n3 => ?_
  dsimp only
  have G2 := (Gr.wide eB e1).trans g2
  -- the sort
  have t1 : EvT _ [some v, some z1, some z2, some z3, none, none] B2 (!srtB (it 0 d)) := et_is (et_or (a := !isStB (it 0 d)) (b := !decide (strOf (it 0 d) ∈ [("total" : Str), "names"])) (et_not (et_B (ev_isStE (p_var (i := 1) (p := IsE K (it 0 d)) rfl n1)))) fun e => et_is (et_test (ev_inT (K := K) (neg := true) (x := strOf (it 0 d)) (ys := ["total", "names"]) (ev_strE (p_var (i := 1) (p := IsE K (it 0 d)) rfl n1) (by simpa using e)) (p_to (p_tup (K := K) (ps := [IsV (.str "total"), IsV (.str "names")]) (q_cons p_c (q_cons p_c q_nil)) (by show 2 ≤ 100000; decide)) (to_tup (.cons to_str (.cons to_str .nil)))))) (by rw [if_pos rfl])) (by
    cases it 0 d <;> first | rfl | simp [isStB, srtB, strOf])
  cases c1 : srtB (it 0 d) with
  | false =>
    refine My.ps_ifT g2.c (et_is t1 (by rw [c1]; rfl)) fun H3 e3 => ?_
    refine My.ps_ret (g2.c.trans e3) (no (te := tC .non) "sort") fun v B4 H4 g hp => q v B4 H4 ((G2.trans (Gr.wide g2.c e3)).trans g) ?_
    rw [show rkDue d = some (some ("sort" : Str)) from by unfold rkDue; rw [ht, c1]; rfl]
    exact hp
  | true =>
  refine ps_ifN g2.c (et_is t1 (by rw [c1]; rfl)) fun H3 e3 => ?_
  dsimp only
  have e23 := g2.c.trans e3
  -- the names
  have retN : ∀ (σ : L2.St) (H4 : Hp) (e4 : Ex H3 H4) (D : Ends), D.rt = Q → nmsB (it 1 d) = false → tRet (tLst (tCons (tC (.str "ranking")) (tCons (tC (.str "names")) tNil))) D σ H4 := fun σ H4 e4 D hD hn => by
    refine My.ps_ret (e23.trans e4) (no (te := tC .non) "names") fun v B4 H5 g hp => ?_
    rw [hD]
    refine q v B4 H5 ((G2.trans (Gr.wide g2.c (e3.trans e4))).trans g) ?_
    rw [show rkDue d = some (some ("names" : Str)) from by unfold rkDue; rw [ht, c1, hn]; rfl]
    exact hp
  by_cases hx1 : ∃ ns, it 1 d = .tuple ns
  rotate_left
  · have hn : isTu (it 1 d) = false ∧ nmsB (it 1 d) = false := by
      revert hx1
      cases it 1 d <;> first | (intro _; exact ⟨rfl, rfl⟩) | (intro h; exact absurd ⟨_, rfl⟩ h)
    refine My.ps_ifT e23 (et_is (et_or (a := true) (b := true) (et_is (et_not (et_B (ev_isTuE (p_var (i := 2) (p := IsE K (it 1 d)) rfl n2)))) (by rw [hn.1]; rfl)) fun z => nomatch z) rfl) fun H4 e4 => ?_
    exact retN _ H4 e4 _ rfl hn.2
  obtain ⟨ns, hns⟩ := hx1
  rw [hns] at n2 s1
  have hl2 : ∀ {σ : L2.St}, σ[2]? = some (some z2) → EvP (tVar 2) σ B2 (IsE K (.tuple ns)) := fun h => p_var h n2
  have t2 := et_or (a := false) (b := !(decide ((0 : Int) < (ns.length : Int)) && decide ((ns.length : Int) < 4))) (et_is (et_not (et_B (ev_isTuE (hl2 (σ := [some v, some z1, some z2, some z3, none, none]) rfl)))) rfl) fun _ => et_not (et_test (ev_chain (r1 := fun i j => decide (i < j)) (r2 := fun i j => decide (i < j)) (ev_c (v := .int 0)) (ev_lenE (hl2 (σ := [some v, some z1, some z2, some z3, none, none]) rfl) (.inl rfl)) (ev_c (v := .int 4))))
  have e2 : (decide ((0 : Int) < (ns.length : Int)) && decide ((ns.length : Int) < 4)) = (decide (1 ≤ ns.length) && decide (ns.length ≤ 3)) := by
    congr 1 <;> (apply decide_eq_decide.mpr; omega)
  rw [e2] at t2
  have en : nmsB (it 1 d) = ((decide (1 ≤ ns.length) && decide (ns.length ≤ 3)) && (ns.all nameB && decide (ns.map strOf).Nodup)) := by rw [hns]; rfl
  cases c2 : (decide (1 ≤ ns.length) && decide (ns.length ≤ 3)) with
  | false =>
    refine My.ps_ifT e23 (et_is t2 (by rw [c2]; rfl)) fun H4 e4 => ?_
    exact retN _ H4 e4 _ rfl (by rw [en, c2]; rfl)
  | true =>
  refine ps_ifN e23 (et_is t2 (by rw [c2]; rfl)) fun H4 e4 => ?_
  dsimp only
  simp only [Bool.and_eq_true, decide_eq_true_eq] at c2
  have lcN := p_lcS (te := tVar 4) (g := gName 4) (vs := [4]) (tt := tNot (tB (tCall (spP (RBA K nameB)) [] E0 (tCons (tVar 4) tNil)))) (src_tu (K := K) (ps := ns.map (IsE K)) ((hl2 (σ := [some v, some z1, some z2, some z3, none, none]) rfl).imp fun v B1 _ x => tu_e x)) (by rw [List.length_map]; omega) (fun i => !nameB (ns.getD i .none)) (fun i => IsE K (ns.getD i .none)) fun i v4 B5 hi e pv => by
    rw [List.length_map] at hi
    rw [getD_map hi] at pv
    rw [List.getD_eq_getElem?_getD, List.getElem?_eq_getElem hi, Option.getD_some]
    exact ⟨[some v, some z1, some z2, some z3, some v4, none], rfl, fun H2 Q e q => q, et_not (et_B (ev_p (p_callP (R := RBA K nameB) (p := IsV (.bl (nameB ns[i]))) (ps := [IsE K ns[i]]) (q_cons (p_var rfl pv) q_nil) ⟨_, _, to_idE, as_tu s1 _ (List.getElem_mem hi), rfl, rfl⟩))), fun _ => p_var rfl pv⟩
  have t3 := et_test (ev_neNil (K := K) (p_lq lcN) emp)
  rw [List.isEmpty_map, List.length_map, filt_all nameB .none ns] at t3
  cases c3 : ns.all nameB with
  | false =>
    refine My.ps_ifT (e23.trans e4) (et_is t3 (by rw [c3]; rfl)) fun H5 e5 => ?_
    exact retN _ H5 (e4.trans e5) _ rfl (by rw [en, c3, Bool.false_and, Bool.and_false])
  | true =>
  refine ps_ifN (e23.trans e4) (et_is t3 (by rw [c3]; rfl)) fun H5 e5 => ?_
  dsimp only
  have hst : ∀ x ∈ ns, isStB x = true := fun x hx => nm_st (List.all_eq_true.mp c3 x hx)
  have t4 : EvT _ [some v, some z1, some z2, some z3, none, none] B2 (!decide (ns.map strOf).Nodup) := et_is (et_test (ev_op (ev_lenSetU (hl2 rfl) hst (by omega)) (ev_lenE (hl2 rfl) (.inl rfl)) (rv_ne rfl))) (by
    have := dcnt_nd _ (ns.map strOf) rfl
    rw [List.length_map] at this
    refine congrArg _ (decide_eq_decide.mpr ?_)
    rw [← this]
    exact ⟨fun z => by have := V.int.inj z; omega, fun z => by rw [z]⟩)
  cases c4 : decide (ns.map strOf).Nodup with
  | false =>
    refine My.ps_ifT ((e23.trans e4).trans e5) (et_is t4 (by rw [c4]; rfl)) fun H6 e6 => ?_
    exact retN _ H6 ((e4.trans e5).trans e6) _ rfl (by rw [en, c4, Bool.and_false, Bool.and_false])
  | true =>
  refine ps_ifN ((e23.trans e4).trans e5) (et_is t4 (by rw [c4]; rfl)) fun H6 e6 => ?_
  dsimp only
  have e26 := ((e23.trans e4).trans e5).trans e6
  have G6 := G2.trans (Gr.wide g2.c (((e3.trans e4).trans e5).trans e6))
  have hnm : nmsB (it 1 d) = true := by rw [en, c3, c4, decide_eq_true c2.1, decide_eq_true c2.2]; rfl
  clear retN
  -- the axes
  have retA : ∀ (σ : L2.St) (H4 : Hp) (e4 : Ex H6 H4) (D : Ends), D.rt = Q → axsB (it 2 d) = false → tRet (tLst (tCons (tC (.str "ranking")) (tCons (tC (.str "axes")) tNil))) D σ H4 := fun σ H4 e4 D hD hn => by
    refine My.ps_ret (e26.trans e4) (no (te := tC .non) "axes") fun v B4 H5 g hp => ?_
    rw [hD]
    refine q v B4 H5 ((G6.trans (Gr.wide e26 e4)).trans g) ?_
    rw [show rkDue d = some (some ("axes" : Str)) from by unfold rkDue; rw [ht, c1, hnm, hn]; rfl]
    exact hp
  by_cases hx2 : ∃ as, it 2 d = .tuple as
  rotate_left
  · have hn : isTu (it 2 d) = false ∧ axsB (it 2 d) = false := by
      revert hx2
      cases it 2 d <;> first | (intro _; exact ⟨rfl, rfl⟩) | (intro h; exact absurd ⟨_, rfl⟩ h)
    refine My.ps_ifT e26 (et_is (et_or (a := true) (b := true) (et_is (et_not (et_B (ev_isTuE (p_var (i := 3) (p := IsE K (it 2 d)) rfl n3)))) (by rw [hn.1]; rfl)) fun z => nomatch z) rfl) fun H7 e7 => ?_
    exact retA _ H7 e7 _ rfl hn.2
  obtain ⟨as, has⟩ := hx2
  have la := hxl as has
  rw [has] at n3 s2
  have hl3 : ∀ {σ : L2.St}, σ[3]? = some (some z3) → EvP (tVar 3) σ B2 (IsE K (.tuple as)) := fun h => p_var h n3
  have ea : axsB (it 2 d) = (as.all isStB && decide (as.map strOf ∈ axs3)) := by rw [has]; rfl
  have lcA := p_lcS (te := tVar 5) (g := gName 5) (vs := [5]) (tt := tNot (tB (tCB (rIsi K) (tCons (tVar 5) (tCons (tC (.ty "str")) tNil))))) (src_tu (K := K) (ps := as.map (IsE K)) ((hl3 (σ := [some v, some z1, some z2, some z3, none, none]) rfl).imp fun v B1 _ x => tu_e x)) (by rw [List.length_map]; omega) (fun i => !isStB (as.getD i .none)) (fun i => IsE K (as.getD i .none)) fun i v5 B5 hi e pv => by
    rw [List.length_map] at hi
    rw [getD_map hi] at pv
    rw [List.getD_eq_getElem?_getD, List.getElem?_eq_getElem hi, Option.getD_some]
    exact ⟨[some v, some z1, some z2, some z3, none, some v5], rfl, fun H2 Q e q => q, et_not (et_B (ev_isStE (p_var (p := IsE K as[i]) rfl pv))), fun _ => p_var rfl pv⟩
  have t5 := ev_neNil (K := K) (p_lq lcA) emp
  rw [List.isEmpty_map, List.length_map, filt_all isStB .none as] at t5
  have t6 := et_or (a := false) (b := !as.all isStB) (et_is (et_not (et_B (ev_isTuE (hl3 (σ := [some v, some z1, some z2, some z3, none, none]) rfl)))) rfl) fun _ => et_test t5
  cases c5 : as.all isStB with
  | false =>
    refine My.ps_ifT e26 (et_is t6 (by rw [c5]; rfl)) fun H7 e7 => ?_
    exact retA _ H7 e7 _ rfl (by rw [ea, c5]; rfl)
  | true =>
  refine ps_ifN e26 (et_is t6 (by rw [c5]; rfl)) fun H7 e7 => ?_
  dsimp only
  have hsa : ∀ x ∈ as, isStB x = true := List.all_eq_true.mp c5
  have h3 := hl3 (σ := [some v, some z1, some z2, some z3, none, none]) rfl
  rw [strs_back hsa] at h3
  have sp := sh_strs (ss := as.map strOf) fun x hx => by
    obtain ⟨y, hy, rfl⟩ := List.mem_map.mp hx
    have := as_tu s2 y hy
    rw [isSt_ex (hsa y hy)] at this
    exact as_can this
  have tup : EvP (tTup (tCons (tTup (tCons (tC (.str "x")) tNil)) (tCons (tTup (tCons (tC (.str "x")) (tCons (tC (.str "y")) tNil))) (tCons (tTup (tCons (tC (.str "y")) (tCons (tC (.str "x")) tNil))) tNil)))) [some v, some z1, some z2, some z3, none, none] B2 (IsD K (.tuple [PyData.tuple [.str "x"], .tuple [.str "x", .str "y"], .tuple [.str "y", .str "x"]])) :=
    p_to (p_tup (K := K) (q_cons (p_tup (K := K) (q_cons p_c q_nil) (by show 1 ≤ 100000; decide)) (q_cons (p_tup (K := K) (q_cons p_c (q_cons p_c q_nil)) (by show 2 ≤ 100000; decide)) (q_cons (p_tup (K := K) (q_cons p_c (q_cons p_c q_nil)) (by show 2 ≤ 100000; decide)) q_nil))) (by show 3 ≤ 100000; decide)) (to_tup (.cons (to_tup (.cons to_str .nil)) (.cons (to_tup (.cons to_str (.cons to_str .nil))) (.cons (to_tup (.cons to_str (.cons to_str .nil))) .nil))))
  have t7 := et_test (ev_inDT (p_eD h3 (nd_strs _)) tup sp (by decide +kernel))
  rw [any_axs] at t7
  cases c6 : decide (as.map strOf ∈ axs3) with
  | false =>
    refine My.ps_ret (e26.trans e7) (p := dueP (some (some "axes"))) (ed_if t7 (fun h => by rw [c6] at h; cases h) fun _ => no (te := tC .non) "axes") fun v B4 H8 g hp => q v B4 H8 ((G6.trans (Gr.wide e26 e7)).trans g) ?_
    rw [show rkDue d = some (some ("axes" : Str)) from by unfold rkDue; rw [ht, c1, hnm, ea, c5, c6]; rfl]
    exact hp
  | true =>
    refine My.ps_ret (e26.trans e7) (p := dueP none) (ed_if t7 (fun _ => p_c) fun h => by rw [c6] at h; cases h) fun v B4 H8 g hp => q v B4 H8 ((G6.trans (Gr.wide e26 e7)).trans g) ?_
    rw [show rkDue d = none from by unfold rkDue; rw [ht, c1, hnm, ea, c5, c6]; rfl]
    exact hp

end
end K12
namespace Nd
set_option autoImplicit false
open PySem PySem.Spec PySem.W PyProof.Rows L2 My Evl LamX NdefX Gd
section
variable {te ta tb : TE} {σ : L2.St} {B : Hp} {K : PySem.W.Frag} {ps qs : List Pr} {p : Pr}
theorem AllP.drop {H : Hp} : ∀ {ps : List Pr} {vs : List V} (n : Nat), AllP ps vs H → AllP (ps.drop n) (vs.drop n) H
  | _, _, 0, h => h
  | [], [], _ + 1, _ => trivial
  | _ :: _, _ :: _, n + 1, h => AllP.drop n h.2
theorem p_catU (ha : EvP ta σ B (TuP K ps)) (hb : EvP tb σ B (TuP K qs)) (hl : ps.length + qs.length ≤ 100000) : EvP (tOp (rCatA K) ta tb) σ B (TuP K (ps ++ qs)) := fun H1 e Q k =>
  ha H1 e _ fun v B2 H2 g x => hb H2 (g.b.trans g.c) _ fun w B3 H3 g3 x3 => by
    obtain ⟨p, xs, rfl, hp, hx⟩ := x
    obtain ⟨q, ys, rfl, hq, hy⟩ := x3
    have l1 := hx.len
    have l2 := hy.len
    have gj := g.join g3
    have hx' := hx.m (both_l (B := B2) (C := B3))
    have hy' := hy.m (both_r (g.c.trans g3.a) g3.c)
    refine ⟨p, q, xs, ys, rfl, rfl, ex_t (g.c.trans g3.a) hp, ex_t g3.c hq, sz_of (by omega), fun e0 => ?_, fun _ e0 => ?_, fun _ _ r hr => ?_⟩
    · subst e0
      have : ps = [] := List.length_eq_zero_iff.mp l1.symm
      subst this
      exact k _ _ _ gj ⟨q, ys, rfl, ex_t (both_r (g.c.trans g3.a) g3.c) hq, hy'⟩
    · subst e0
      have : qs = [] := List.length_eq_zero_iff.mp l2.symm
      subst this
      refine k _ _ _ gj ?_
      rw [List.append_nil]
      exact ⟨p, xs, rfl, ex_t both_l hp, hx'⟩
    · have en : Ex (both B2 B3) (upd (both B2 B3) r (.tup (xs ++ ys))) := Ex.new (fresh_back gj.c hr)
      exact k _ _ _ (gj.trans (Gr.new _ gj.c hr)) ⟨r, xs ++ ys, rfl, st_of upd_same, (hx'.m en).app (hy'.m en)⟩
theorem p_slTo {k : Nat} (h : EvP te σ B (TuP K ps)) (hk : Ev tb σ B (.int (k : Int))) : EvP (tSl (rSlA K) te tNoPart (tPart tb)) σ B (TuP K (ps.take k)) := fun H1 a Q q =>
  h H1 a _ fun v B2 H2 g x => hk H2 (g.b.trans g.c) _ fun H3 e3 => ⟨k, rfl, by
    obtain ⟨l, xs, rfl, hl, al⟩ := x
    refine ⟨l, xs, rfl, ex_t (g.c.trans e3) hl, fun e => ?_, fun _ r hr => ?_⟩
    · rw [HT.sIx_none, HT.sIx_nat] at e
      have := al.len
      refine q _ B2 H3 (g.trans (Gr.wide g.c e3)) ⟨l, xs, rfl, hl, ?_⟩
      rw [List.take_of_length_le (by omega)]
      exact al
    · rw [cutTo]
      exact q _ _ _ ((g.trans (Gr.wide g.c e3)).trans (Gr.new (.tup (xs.take k)) (g.c.trans e3) hr)) ⟨r, _, rfl, st_of upd_same, (AllP.take k al).m (Ex.new (fresh_back (g.c.trans e3) hr))⟩⟩
theorem cutFrom (xs : List V) (k : Nat) : cutV xs (some (k : Int)) none = xs.drop k := by
  unfold cutV
  rw [HT.sIx_none, HT.sIx_nat]
  by_cases h : k ≤ xs.length
  · rw [Nat.min_eq_left h, List.take_of_length_le (by rw [List.length_drop]; exact Nat.le_refl _)]
  · rw [Nat.min_eq_right (by omega), Nat.sub_self, List.take_zero, List.drop_of_length_le (by omega)]
theorem p_slFrom {k : Nat} (h : EvP te σ B (TuP K ps)) (hk : Ev tb σ B (.int (k : Int))) : EvP (tSl (rSlA K) te (tPart tb) tNoPart) σ B (TuP K (ps.drop k)) := fun H1 a Q q =>
  h H1 a _ fun v B2 H2 g x => hk H2 (g.b.trans g.c) _ fun H3 e3 => ⟨k, rfl, by
    obtain ⟨l, xs, rfl, hl, al⟩ := x
    refine ⟨l, xs, rfl, ex_t (g.c.trans e3) hl, fun e => ?_, fun _ r hr => ?_⟩
    · rw [HT.sIx_none, HT.sIx_nat] at e
      have := al.len
      refine q _ B2 H3 (g.trans (Gr.wide g.c e3)) ⟨l, xs, rfl, hl, ?_⟩
      rcases Nat.eq_zero_or_pos k with h0 | h0
      · rw [h0]
        exact al
      · have : xs.length = 0 := by omega
        rw [List.drop_of_length_le (by omega)]
        have e1 : ps = [] := List.length_eq_zero_iff.mp (by omega)
        rw [e1] at al
        exact al
    · rw [cutFrom]
      exact q _ _ _ ((g.trans (Gr.wide g.c e3)).trans (Gr.new (.tup (xs.drop k)) (g.c.trans e3) hr)) ⟨r, _, rfl, st_of upd_same, (AllP.drop k al).m (Ex.new (fresh_back (g.c.trans e3) hr))⟩⟩
theorem AllP.rev {H : Hp} : ∀ {ps : List Pr} {vs : List V}, AllP ps vs H → AllP ps.reverse vs.reverse H
  | [], [], _ => trivial
  | p :: ps, v :: vs, h => by
    rw [List.reverse_cons, List.reverse_cons]
    exact (AllP.rev h.2).app ⟨h.1, trivial⟩
theorem p_revU (h : EvP te σ B (TuP K ps)) : EvP (tRevT K te) σ B (TuP K ps.reverse) := fun H1 a Q k =>
  h H1 a _ fun v B2 H2 g x => by
    obtain ⟨p, xs, rfl, hp, hx⟩ := x
    exact ⟨p, xs, rfl, ex_t g.c hp, fun r hr => k _ _ _ (g.trans (Gr.new _ g.c hr)) ⟨r, _, rfl, st_of upd_same, (AllP.rev hx).m (Ex.new (fresh_back g.c hr))⟩⟩
theorem p_slLast (h : EvP te σ B (TuP K ps)) (hk : Ev tb σ B (.int (-1))) : EvP (tSl (rSlA K) te (tPart tb) tNoPart) σ B (TuP K (ps.drop (ps.length - 1))) := fun H1 a Q q =>
  h H1 a _ fun v B2 H2 g x => hk H2 (g.b.trans g.c) _ fun H3 e3 => ⟨-1, rfl, by
    obtain ⟨l, xs, rfl, hl, al⟩ := x
    have lx := al.len
    have s1 : HT.sIx xs.length 0 (some (-1)) = ps.length - 1 := by
      show (if (-1 : Int) < 0 then ((-1 : Int) + (xs.length : Int)).toNat else min (-1 : Int).toNat xs.length) = _
      rw [if_pos (by decide)]
      omega
    refine ⟨l, xs, rfl, ex_t (g.c.trans e3) hl, fun e => ?_, fun _ r hr => ?_⟩
    · rw [s1] at e
      refine q _ B2 H3 (g.trans (Gr.wide g.c e3)) ⟨l, xs, rfl, hl, ?_⟩
      rw [e.1]
      exact al
    · have e1 : cutV xs (some (-1)) none = xs.drop (ps.length - 1) := by
        unfold cutV
        rw [s1, HT.sIx_none, List.take_of_length_le (by rw [List.length_drop]; omega)]
      rw [e1]
      exact q _ _ _ ((g.trans (Gr.wide g.c e3)).trans (Gr.new (.tup (xs.drop (ps.length - 1))) (g.c.trans e3) hr)) ⟨r, _, rfl, st_of upd_same, (AllP.drop (ps.length - 1) al).m (Ex.new (fresh_back (g.c.trans e3) hr))⟩⟩
/-- list(tuple) -/
theorem p_listU (h : EvP te σ B (TuP K ps)) : EvP (tCB (fun xs H Q => ∃ p ys, xs = [.ref p] ∧ (SqL K H p ys ∨ SqT K H p ys) ∧ ∀ l, H l = none → Q (.ref l) (upd H l (.lst ys))) (tCons te tNil)) σ B (LsP ps) := fun H1 a Q k =>
  h H1 a _ fun v B2 H2 g x => by
    obtain ⟨p, xs, rfl, hp, hx⟩ := x
    exact ⟨p, xs, rfl, .inr (ex_t g.c hp), fun r hr => k _ _ _ (g.trans (Gr.new _ g.c hr)) ⟨r, xs, rfl, upd_same, hx.m (Ex.new (fresh_back g.c hr))⟩⟩
theorem p_dnewE : EvP tDNewK σ B (IsE K (.dict [])) := fun H1 e Q k p hp => k _ _ _ (Gr.new (.dK []) e hp) (De.dct upd_same)
end
/-! ### what the law's things are made of -/
def leafB : PyData → Bool
  | .none => true
  | .bool _ => true
  | .int _ => true
  | .str x => asB (.str x)
  | .dict [] => true
  | _ => false
/-- leaves, or rows of at most so many, level by level -/
def Wd : List Nat → PyData → Prop
  | [], d => leafB d = true
  | w :: r, d => leafB d = true ∨ ∃ xs, (d = .tuple xs ∨ d = .list xs) ∧ xs.length ≤ w ∧ ∀ x ∈ xs, Wd r x
theorem Wd.leaf {d : PyData} (h : leafB d = true) : ∀ {ws : List Nat}, Wd ws d
  | [] => h
  | _ :: _ => .inl h
theorem Wd.tu {w : Nat} {r : List Nat} {xs : List PyData} (h : Wd (w :: r) (.tuple xs)) : xs.length ≤ w ∧ ∀ x ∈ xs, Wd r x := by
  rcases h with h | ⟨ys, h1, h2, h3⟩
  · exact absurd h (by simp [leafB])
  · rcases h1 with h1 | h1
    · cases h1
      exact ⟨h2, h3⟩
    · cases h1
theorem wd_tu {w : Nat} {r : List Nat} {xs : List PyData} (h : xs.length ≤ w) (k : ∀ x ∈ xs, Wd r x) : Wd (w :: r) (.tuple xs) := .inr ⟨xs, .inl rfl, h, k⟩
theorem as_wd : ∀ {ws : List Nat} {d : PyData}, Wd ws d → asB d = true := by
  have lf : ∀ {d : PyData}, leafB d = true → asB d = true := fun {d} h => by
    cases d with
    | str x => exact h
    | tuple xs => exact absurd h (by simp [leafB])
    | list xs => exact absurd h (by simp [leafB])
    | _ => unfold asB; rfl
  intro ws
  induction ws with
  | nil => exact fun h => lf h
  | cons w r ih =>
    intro d h
    rcases h with h | ⟨xs, h1, h2, h3⟩
    · exact lf h
    · have : asAll xs = true := as_of fun x hx => ih (h3 x hx)
      rcases h1 with rfl | rfl <;> (unfold asB; exact this)
def leW : List Nat → List Nat → Prop
  | [], [] => True
  | a :: r, b :: s => a ≤ b ∧ leW r s
  | _, _ => False
theorem Wd.mono : ∀ {ws vs : List Nat} {d : PyData}, leW ws vs → Wd ws d → Wd vs d
  | [], [], _, _, h => h
  | _ :: _, _ :: _, _, ⟨a, b⟩, h => by
    rcases h with h | ⟨xs, h1, h2, h3⟩
    · exact .inl h
    · exact .inr ⟨xs, h1, Nat.le_trans h2 a, fun x hx => (h3 x hx).mono b⟩
  | [], _ :: _, _, h, _ => h.elim
  | _ :: _, [], _, h, _ => h.elim
/-! ### the odd ones -/
def OD : List PyData := [.none, .bool true, .int 0, .int 1, .int (-1), .int 13, .str "", .str "x", .str "y", .str "z", .str "u", .str "total", .str "names", .str "Total", .str "A", .str "ninelongs", .tuple [], .list [], .dict [], .tuple [.str "x"], .tuple [.str "y"], .tuple [.str "x", .str "x"], .list [.str "x"], .tuple [.str "u", .str "v"], .tuple [.str "u", .int 0, .int 0]]
def oddB : PyData → Bool
  | .tuple xs => decide (xs.length ≤ 3) && xs.all leafB
  | .list xs => decide (xs.length ≤ 3) && xs.all leafB
  | d => leafB d
theorem od_all : OD.all oddB = true := by decide +kernel
theorem od_wd {x : PyData} (h : x ∈ OD) {w : Nat} {r : List Nat} (hw : 3 ≤ w) : Wd (w :: r) x := by
  have h1 := List.all_eq_true.mp od_all x h
  have row : ∀ xs : List PyData, (decide (xs.length ≤ 3) && xs.all leafB) = true → xs.length ≤ w ∧ ∀ y ∈ xs, Wd r y := fun xs h => by
    rw [Bool.and_eq_true, List.all_eq_true] at h
    exact ⟨Nat.le_trans (of_decide_eq_true h.1) hw, fun y hy => Wd.leaf (h.2 y hy)⟩
  cases x with
  | tuple xs => exact .inr ⟨xs, .inl rfl, row xs h1⟩
  | list xs => exact .inr ⟨xs, .inr rfl, row xs h1⟩
  | _ => exact .inl h1
/-- what comes of a row that is bent -/
def BentF (ds : List PyData) (x : PyData) : Prop := (∃ es, (x = .tuple es ∨ x = .list es) ∧ es.length ≤ 2 * ds.length + 1 ∧ ∀ e ∈ es, e ∈ ds ∨ e ∈ OD) ∨ x ∈ OD
theorem BentF.wd {w v : Nat} {r : List Nat} {ds : List PyData} {x : PyData} (h : BentF ds x) (hd : Wd (w :: v :: r) (.tuple ds)) (h2 : 1 ≤ w) (h3 : 3 ≤ v) : Wd ((2 * w + 1) :: v :: r) x := by
  obtain ⟨l, a⟩ := hd.tu
  rcases h with ⟨es, e, hl, ha⟩ | h
  · refine .inr ⟨es, e, by omega, fun y hy => ?_⟩
    rcases ha y hy with h | h
    · exact a y h
    · exact od_wd h h3
  · exact od_wd h (by omega)
theorem BentF.put {ds : List PyData} {od : PyData} (h : od ∈ OD) (i j : Nat) (hij : i ≤ j + 1) : BentF ds (.tuple (ds.take i ++ [od] ++ ds.drop j)) := by
  refine .inl ⟨_, .inl rfl, by simp only [List.length_append, List.length_take, List.length_drop, List.length_singleton]; omega, fun e he => ?_⟩
  simp only [List.mem_append, List.mem_singleton] at he
  rcases he with (he | rfl) | he
  · exact .inl (List.mem_of_mem_take he)
  · exact .inr h
  · exact .inl (List.mem_of_mem_drop he)
theorem BentF.of {ds es : List PyData} (hl : es.length ≤ 2 * ds.length + 1) (h : ∀ e ∈ es, e ∈ ds) : BentF ds (.tuple es) := .inl ⟨es, .inl rfl, hl, fun e he => .inl (h e he)⟩
/-- a thing that the law bends and asks of -/
def RkW (d : PyData) : Prop := Wd [7, 7, 3] d
theorem RkW.a {d : PyData} (h : RkW d) : asB d = true := as_wd h
theorem RkW.l {d : PyData} (h : RkW d) : ∀ xs, it 2 d = .tuple xs → xs.length ≤ 1000 := fun xs e => by
  cases d with
  | tuple ds =>
    have hi := (Wd.tu h).2
    have e : ds.getD 2 .none = .tuple xs := e
    rw [List.getD_eq_getElem?_getD] at e
    cases h2 : ds[2]? with
    | none => rw [h2] at e; cases e
    | some y =>
      rw [h2] at e
      have e : y = .tuple xs := e
      have := hi y (List.mem_of_getElem? h2)
      rw [e] at this
      have := (Wd.tu this).1
      omega
  | _ => cases e
theorem RkW.h {d : PyData} (h : RkW d) : RkH d := ⟨as_sm h.a, fun xs e => Nat.le_trans (h.l xs e) (by decide)⟩
/-! ### tuples, known by their items alone or as they stand -/
def TxP (ps : List Pr) : Pr := ⟨fun v H => ∃ a xs, v = .ref a ∧ H a = some (.tup xs) ∧ AllP ps xs H, fun e ⟨a, xs, h1, h2, h3⟩ => ⟨a, xs, h1, e _ _ h2, h3.m e⟩⟩
structure TK (K : PySem.W.Frag) (F : List Pr → Pr) : Prop where
  tu : ∀ ps v H, (F ps).P v H → (TuP K ps).P v H
  ix : ∀ ps v H, (TxP ps).P v H → (F ps).P v H
  cat : ∀ {ta tb : TE} {σ : L2.St} {B : Hp} {ps qs : List Pr}, EvP ta σ B (F ps) → EvP tb σ B (F qs) → ps.length + qs.length ≤ 100000 → EvP (tOp (rCatA K) ta tb) σ B (F (ps ++ qs))
  to : ∀ {te tb : TE} {σ : L2.St} {B : Hp} {ps : List Pr} {k : Nat}, EvP te σ B (F ps) → Ev tb σ B (.int (k : Int)) → EvP (tSl (rSlA K) te tNoPart (tPart tb)) σ B (F (ps.take k))
  fr : ∀ {te tb : TE} {σ : L2.St} {B : Hp} {ps : List Pr} {k : Nat}, EvP te σ B (F ps) → Ev tb σ B (.int (k : Int)) → EvP (tSl (rSlA K) te (tPart tb) tNoPart) σ B (F (ps.drop k))
  la : ∀ {te tb : TE} {σ : L2.St} {B : Hp} {ps : List Pr}, EvP te σ B (F ps) → Ev tb σ B (.int (-1)) → EvP (tSl (rSlA K) te (tPart tb) tNoPart) σ B (F (ps.drop (ps.length - 1)))
  rv : ∀ {te : TE} {σ : L2.St} {B : Hp} {ps : List Pr}, EvP te σ B (F ps) → EvP (tRevT K te) σ B (F ps.reverse)
  lit : ∀ {t : TA} {σ : L2.St} {B : Hp} {ps : List Pr}, EvPs t σ B ps → ps.length ≤ 100000 → EvP (tTup t) σ B (F ps)
theorem tk_u (K : PySem.W.Frag) : TK K (TuP K) := ⟨fun _ _ _ h => h, fun ps v H ⟨a, xs, h1, h2, h3⟩ => ⟨a, xs, h1, st_of h2, h3⟩, p_catU, p_slTo, p_slFrom, p_slLast, p_revU, p_tup⟩
section
variable {te ta tb : TE} {t : TA} {σ : L2.St} {B : Hp} {ps qs : List Pr} {K : PySem.W.Frag}
theorem p_litX (h : EvPs t σ B ps) (hl : ps.length ≤ 100000) : EvP (tTup t) σ B (TxP ps) := fun H1 a _ k =>
  h H1 a _ fun vs B2 H2 g b => ⟨sz_of (by rw [b.len]; exact hl), fun r hr => k _ _ _ (g.trans (Gr.new _ g.c hr)) ⟨r, vs, rfl, upd_same, b.m (Ex.new (fresh_back g.c hr))⟩⟩
theorem p_catX (ha : EvP ta σ B (TxP ps)) (hb : EvP tb σ B (TxP qs)) (hl : ps.length + qs.length ≤ 100000) : EvP (tOp (rCatA K) ta tb) σ B (TxP (ps ++ qs)) := fun H1 e Q k =>
  ha H1 e _ fun v B2 H2 g x => hb H2 (g.b.trans g.c) _ fun w B3 H3 g3 x3 => by
    obtain ⟨p, xs, rfl, hp, hx⟩ := x
    obtain ⟨q, ys, rfl, hq, hy⟩ := x3
    have l1 := hx.len
    have l2 := hy.len
    have gj := g.join g3
    have hx' := hx.m (both_l (B := B2) (C := B3))
    have hy' := hy.m (both_r (g.c.trans g3.a) g3.c)
    refine ⟨p, q, xs, ys, rfl, rfl, ex_t (g.c.trans g3.a) (st_of hp), ex_t g3.c (st_of hq), sz_of (by omega), fun e0 => ?_, fun _ e0 => ?_, fun _ _ r hr => ?_⟩
    · subst e0
      have : ps = [] := List.length_eq_zero_iff.mp l1.symm
      subst this
      exact k _ _ _ gj ⟨q, ys, rfl, both_r (g.c.trans g3.a) g3.c _ _ hq, hy'⟩
    · subst e0
      have : qs = [] := List.length_eq_zero_iff.mp l2.symm
      subst this
      refine k _ _ _ gj ?_
      rw [List.append_nil]
      exact ⟨p, xs, rfl, both_l _ _ hp, hx'⟩
    · have en : Ex (both B2 B3) (upd (both B2 B3) r (.tup (xs ++ ys))) := Ex.new (fresh_back gj.c hr)
      exact k _ _ _ (gj.trans (Gr.new _ gj.c hr)) ⟨r, xs ++ ys, rfl, upd_same, (hx'.m en).app (hy'.m en)⟩
theorem p_slToX {k : Nat} (h : EvP te σ B (TxP ps)) (hk : Ev tb σ B (.int (k : Int))) : EvP (tSl (rSlA K) te tNoPart (tPart tb)) σ B (TxP (ps.take k)) := fun H1 a Q q =>
  h H1 a _ fun v B2 H2 g x => hk H2 (g.b.trans g.c) _ fun H3 e3 => ⟨k, rfl, by
    obtain ⟨l, xs, rfl, hl, al⟩ := x
    refine ⟨l, xs, rfl, ex_t (g.c.trans e3) (st_of hl), fun e => ?_, fun _ r hr => ?_⟩
    · rw [HT.sIx_none, HT.sIx_nat] at e
      have := al.len
      refine q _ B2 H3 (g.trans (Gr.wide g.c e3)) ⟨l, xs, rfl, hl, ?_⟩
      rw [List.take_of_length_le (by omega)]
      exact al
    · rw [cutTo]
      exact q _ _ _ ((g.trans (Gr.wide g.c e3)).trans (Gr.new (.tup (xs.take k)) (g.c.trans e3) hr)) ⟨r, _, rfl, upd_same, (AllP.take k al).m (Ex.new (fresh_back (g.c.trans e3) hr))⟩⟩
theorem p_slFromX {k : Nat} (h : EvP te σ B (TxP ps)) (hk : Ev tb σ B (.int (k : Int))) : EvP (tSl (rSlA K) te (tPart tb) tNoPart) σ B (TxP (ps.drop k)) := fun H1 a Q q =>
  h H1 a _ fun v B2 H2 g x => hk H2 (g.b.trans g.c) _ fun H3 e3 => ⟨k, rfl, by
    obtain ⟨l, xs, rfl, hl, al⟩ := x
    refine ⟨l, xs, rfl, ex_t (g.c.trans e3) (st_of hl), fun e => ?_, fun _ r hr => ?_⟩
    · rw [HT.sIx_none, HT.sIx_nat] at e
      have := al.len
      refine q _ B2 H3 (g.trans (Gr.wide g.c e3)) ⟨l, xs, rfl, hl, ?_⟩
      rcases Nat.eq_zero_or_pos k with h0 | h0
      · rw [h0]
        exact al
      · have : xs.length = 0 := by omega
        rw [List.drop_of_length_le (by omega)]
        have e1 : ps = [] := List.length_eq_zero_iff.mp (by omega)
        rw [e1] at al
        exact al
    · rw [cutFrom]
      exact q _ _ _ ((g.trans (Gr.wide g.c e3)).trans (Gr.new (.tup (xs.drop k)) (g.c.trans e3) hr)) ⟨r, _, rfl, upd_same, (AllP.drop k al).m (Ex.new (fresh_back (g.c.trans e3) hr))⟩⟩
theorem p_revX (h : EvP te σ B (TxP ps)) : EvP (tRevT K te) σ B (TxP ps.reverse) := fun H1 a Q k =>
  h H1 a _ fun v B2 H2 g x => by
    obtain ⟨p, xs, rfl, hp, hx⟩ := x
    exact ⟨p, xs, rfl, ex_t g.c (st_of hp), fun r hr => k _ _ _ (g.trans (Gr.new _ g.c hr)) ⟨r, _, rfl, upd_same, (AllP.rev hx).m (Ex.new (fresh_back g.c hr))⟩⟩
theorem p_slLastX (h : EvP te σ B (TxP ps)) (hk : Ev tb σ B (.int (-1))) : EvP (tSl (rSlA K) te (tPart tb) tNoPart) σ B (TxP (ps.drop (ps.length - 1))) := fun H1 a Q q =>
  h H1 a _ fun v B2 H2 g x => hk H2 (g.b.trans g.c) _ fun H3 e3 => ⟨-1, rfl, by
    obtain ⟨l, xs, rfl, hl, al⟩ := x
    have lx := al.len
    have s1 : HT.sIx xs.length 0 (some (-1)) = ps.length - 1 := by
      show (if (-1 : Int) < 0 then ((-1 : Int) + (xs.length : Int)).toNat else min (-1 : Int).toNat xs.length) = _
      rw [if_pos (by decide)]
      omega
    refine ⟨l, xs, rfl, ex_t (g.c.trans e3) (st_of hl), fun e => ?_, fun _ r hr => ?_⟩
    · rw [s1] at e
      refine q _ B2 H3 (g.trans (Gr.wide g.c e3)) ⟨l, xs, rfl, hl, ?_⟩
      rw [e.1]
      exact al
    · have e1 : cutV xs (some (-1)) none = xs.drop (ps.length - 1) := by
        unfold cutV
        rw [s1, HT.sIx_none, List.take_of_length_le (by rw [List.length_drop]; omega)]
      rw [e1]
      exact q _ _ _ ((g.trans (Gr.wide g.c e3)).trans (Gr.new (.tup (xs.drop (ps.length - 1))) (g.c.trans e3) hr)) ⟨r, _, rfl, upd_same, (AllP.drop (ps.length - 1) al).m (Ex.new (fresh_back (g.c.trans e3) hr))⟩⟩
end
theorem tk_x (K : PySem.W.Frag) : TK K TxP := ⟨fun ps v H ⟨a, xs, h1, h2, h3⟩ => ⟨a, xs, h1, st_of h2, h3⟩, fun _ _ _ h => h, p_catX, p_slToX, p_slFromX, p_slLastX, p_revX, p_litX⟩
theorem tx_dv {K : PySem.W.Frag} {u : Dv} {v : V} {H : Hp} (h : (TxP ([.str u.n, .int u.i, .int u.j].map (IsE K))).P v H) : (DvP u).P v H := by
  obtain ⟨a, xs, rfl, h2, h3⟩ := h
  obtain ⟨y1, y2, y3, rfl, b1, b2, b3⟩ := K12.all3 h3
  have b1 : De K H y1 (.str u.n) := b1
  have b2 : De K H y2 (.int u.i) := b2
  have b3 : De K H y3 (.int u.j) := b3
  cases b1
  cases b2
  cases b3
  exact ⟨a, rfl, h2⟩
theorem dv_tx {K : PySem.W.Frag} {u : Dv} {v : V} {H : Hp} (h : (DvP u).P v H) : (TxP ([.str u.n, .int u.i, .int u.j].map (IsE K))).P v H := by
  obtain ⟨a, rfl, h2⟩ := h
  exact ⟨a, _, rfl, h2, De.str _, De.int _, De.int _, trivial⟩
end Nd
namespace Nd
set_option autoImplicit false
open PySem PySem.Spec PySem.W PyProof.Rows L2 My Evl LamX NdefX
def goodK (d : PyData) : Bool := wholeB d && decide (0 ≤ intOf d)
theorem kn_eq {r : Rk} (h : r.Ok) (d : PyData) : fitsB r d = ((tupN 3 d && (isStB (it 0 d) && decide (strOf (it 0 d) ∈ r.ns))) && ((goodK (it 1 d) && goodK (it 2 d)) && (decide (intOf (it 2 d) = 0) || decide ((Str.ofString "y") ∈ r.axs)))) := by
  rw [Bool.eq_iff_iff]
  constructor
  · intro hf
    unfold fitsB at hf
    rw [Bool.and_eq_true] at hf
    obtain ⟨h1, h2⟩ := hf
    obtain ⟨u, rfl, hn, hi, hj⟩ := dvB_ex h1
    rw [dvOf_D] at h2
    unfold Rk.stB at h2
    rw [Bool.and_eq_true] at h2
    show ((true && (true && decide (u.n ∈ r.ns))) && (((true && decide (0 ≤ u.i)) && (true && decide (0 ≤ u.j))) && (decide (u.j = 0) || decide ((Str.ofString "y") ∈ r.axs)))) = true
    rw [h2.1, h2.2, decide_eq_true hi, decide_eq_true hj]
    rfl
  · intro hf
    unfold goodK at hf
    simp only [Bool.and_eq_true, decide_eq_true_eq] at hf
    obtain ⟨⟨h3, hs, hm⟩, ⟨⟨w1, i0⟩, w2, j0⟩, hy⟩ := hf
    have e : d = (⟨strOf (it 0 d), intOf (it 1 d), intOf (it 2 d)⟩ : Dv).D := by
      conv => lhs; rw [tpl3 h3, isSt_ex hs, wholeB_ex w1, wholeB_ex w2]
      rfl
    generalize strOf (it 0 d) = x at e hm
    generalize intOf (it 1 d) = i at e i0
    generalize intOf (it 2 d) = j at e j0 hy
    subst e
    unfold fitsB
    rw [dvOf_D, dvB_of (h.nm _ hm) i0 j0, Bool.true_and]
    unfold Rk.stB
    rw [decide_eq_true hm, Bool.true_and]
    exact hy
/-- data, and tuples among them as F knows them -/
def FeP (K : PySem.W.Frag) (F : List Pr → Pr) (x : PyData) : Pr := ⟨fun v H => De K H v x ∧ ∀ es, x = .tuple es → (F (es.map (IsE K))).P v H, fun e ⟨h1, h2⟩ => ⟨de_m e h1, fun es q => (F _).m e (h2 es q)⟩⟩
section
variable {K : PySem.W.Frag} {F : List Pr → Pr} {te : TE} {σ : L2.St} {B : Hp}
theorem f_tup {ps : List Pr} {ds : List PyData} (tk : TK K F) (h : EvP te σ B (F ps)) (e : ps = ds.map (IsE K)) : EvP te σ B (FeP K F (.tuple ds)) := by
  subst e
  exact h.imp fun v B1 _ x => ⟨e_tu (tk.tu _ _ _ x), fun es q => by cases q; exact x⟩
theorem f_lst {ps : List Pr} {ds : List PyData} (h : EvP te σ B (LsP ps)) (e : ps = ds.map (IsE K)) : EvP te σ B (FeP K F (.list ds)) := by
  subst e
  exact h.imp fun v B1 _ x => ⟨e_ls x, fun es q => nomatch q⟩
theorem f_one {p : Pr} {x : PyData} (h : EvP te σ B p) (t : ToE K p x) (n : ∀ es, x ≠ .tuple es) : EvP te σ B (FeP K F x) := h.imp fun v B1 _ y => ⟨t _ _ y, fun es q => absurd q (n es)⟩
theorem f_dict : EvP tDNewK σ B (FeP K F (.dict [])) := p_dnewE.imp fun v B1 _ y => ⟨y, fun es q => nomatch q⟩
end
end Nd
namespace K12
set_option autoImplicit false
open PySem PySem.Spec PySem.W PyProof.Rows L2 Evl My Nd LamX NdefX Gd
section
variable {T : List (Addr × Str)} {d : Addr} {n : Nat} {B H : Hp} {K : PySem.W.Frag} {Q : VK}
theorem x_pickP {ps : List Pr} {ta : TA} {σ : L2.St} {i : Nat} {z : Int} {Q : VK} (k : Kx T d n B H) (hl : EvPs ta σ B ps) (hi : σ[i]? = some (some (.ref d))) (hz : z = (ps.length : Nat)) (h0 : 0 < ps.length) (h1 : ps.length < 1000) (hn : n ≤ 2 ^ 38)
    (q : ∀ (j : Nat) p v B' H', ps[j]? = some p → Kx T d (n + 4) B' H' → GX d B H B' H' → p.P v B' → Q v H') : tOp (rIxL K) (tLst ta) (tCall spDigit [] E0 (tCons (tVar i) (tCons (tC (.int z)) tNil))) σ H Q := by
  subst hz
  refine p_lst hl (by omega) H k.e _ fun v B1 H1 g hv => ?_
  refine x_digit (k.gr g) hi ev_c (by omega) (by omega) (by omega) fun m H2 m0 m1 k2 g2 => ?_
  obtain ⟨l, xs, rfl, hx, al⟩ := hv
  obtain ⟨j, p, w, hj, rfl, hp, hat, hw⟩ := pick al m0 m1
  exact ⟨l, xs, _, _, rfl, rfl, sq_of (k2.e _ _ hx), hat, q j p w B1 H2 hp k2 ((GX.gr g).trans g2) hw⟩
theorem x_at {ps : List Pr} {v : V} {m : Int} (e : Ex B H) (hv : (LsP ps).P v B) (m0 : 0 ≤ m) (m1 : m < ps.length) (q : ∀ (j : Nat) p w, ps[j]? = some p → p.P w B → Q w H) : rIxL K v (.int m) H Q := by
  obtain ⟨l, xs, rfl, hx, al⟩ := hv
  obtain ⟨j, p, w, hj, rfl, hp, hat, hw⟩ := pick al m0 m1
  exact ⟨l, xs, _, _, rfl, rfl, sq_of (e _ _ hx), hat, q j p w hp hw⟩
end
theorem b_par {i j : Nat} {t : TA} {D : Ends} {σ : L2.St} {H : Hp} (h : t σ H fun vs H1 => ∃ v w, vs = [v, w] ∧ D.nx ((σ.set i (some v)).set j (some w)) H1) : tPar i j t D σ H := h
theorem c_call {sp : Sp} {t : TA} {σ : L2.St} {H : Hp} {Q : VK} (h : t σ H fun vs H1 => sp (vs ++ []) H1 Q E0) : tCall sp [] E0 t σ H Q := h
theorem b_c {v : V} {σ : L2.St} {H : Hp} {Q : VK} (h : Q v H) : tC v σ H Q := h
theorem b_nil {σ : L2.St} {H : Hp} {Q : List V → Hp → Prop} (h : Q [] H) : tNil σ H Q := h
theorem b_ifAnd {c1 c2 : TT} {t u : TS} {D : Ends} {σ : L2.St} {B H : Hp} (h : EvT c1 σ B true) (e : Ex B H) (k : ∀ H1, Ex H H1 → tIfS c2 t u D σ H1) : tIfS (tAnd c1 c2) t u D σ H := h H e _ fun H1 e1 => by
  rw [if_pos rfl]
  exact k H1 e1
theorem b_ifOp {ta tb : TE} {t u : TS} {D : Ends} {σ : L2.St} {H : Hp} {R : R2} (h : ta σ H fun v H1 => tb σ H1 fun w H2 => R v w H2 fun z H3 => ∃ b, z = V.bl b ∧ (if b = true then t D σ H3 else u D σ H3)) : tIfS (tTest (tOp R ta tb)) t u D σ H := h
theorem op_raw {R : R2} {σ : L2.St} {v u : V} {H : Hp} {Q : VK} (h : tOp R (tC v) (tC u) σ H Q) : R v u H Q := h
theorem p_cv {σ : L2.St} {B : Hp} {v : V} {p : Pr} (h : p.P v B) : EvP (tC v) σ B p := fun H1 a _ k => k v B H1 (Gr.refl a) h
/-- what is never asked -/
theorem pe_never {X : Cx} {e : Expr} : PE X e (fun _ _ _ => False) := ⟨fun pins s σ H Q I h => h.elim⟩
section
variable {K : PySem.W.Frag} {te ta tb : TE} {σ : L2.St} {B : Hp}
theorem e_int {i : Int} : EvP (tC (.int i)) σ B (IsE K (.int i)) := p_toE p_c (toE_of to_int)
theorem e_str {x : Str} : EvP (tC (.str x)) σ B (IsE K (.str x)) := p_toE p_c (toE_of to_str)
end
section
variable {T : List (Addr × Str)} {d : Addr} {n : Nat} {B H : Hp} {K : PySem.W.Frag} {Q : VK} {σ : L2.St} {te : TE} {ds : List PyData}
/-- row[:at] + (a drawn one,) + row[at + 1:] -/
theorem x_put {i1 j at' m : Nat} {v : V} {R : PyData → Prop} (k : Kx T d n B H) (hi : σ[i1]? = some (some v)) (hv : De K B v (.tuple ds)) (hj : σ[j]? = some (some (.int (at' : Nat)))) (hl : ds.length ≤ 1000)
    (step : ∀ (B1 H1 : Hp) (Q' : VK), Kx T d n B1 H1 → GX d B H B1 H1 → (∀ (x : PyData) vx B2 H2, R x → Kx T d m B2 H2 → GX d B1 H1 B2 H2 → De K B2 vx x → Q' vx H2) → te σ H1 Q')
    (q : ∀ (x : PyData) vr B' H', R x → Kx T d m B' H' → GX d B H B' H' → De K B' vr (.tuple (ds.take at' ++ [x] ++ ds.drop (at' + 1))) → Q vr H') :
    tOp (rCatA K) (tOp (rCatA K) (tSl (rSlA K) (tVar i1) tNoPart (tPart (tVar j))) (tTup (tCons te tNil))) (tSl (rSlA K) (tVar i1) (tPart (tOp (rI0 fun i j => .int (i + j)) (tVar j) (tC (.int 1)))) tNoPart) σ H Q := by
  refine b_op (b_op (p_slTo (p_var hi (tu_e hv)) (ev_var hj) H k.e _ fun v1 B1 H1 g1 h1 => b_tup (b_cons ?_)))
  refine step B1 H1 _ (k.gr g1) (GX.gr g1) fun x vx B2 H2 hx k2 g2 hvx => b_nil ⟨by show 1 ≤ sizeLine; decide, fun r hr => ?_⟩
  have n1 := Gr.new (B := B2) (.tup [vx]) k2.e hr
  have k3 := k2.gr n1
  have t1 : (TuP K [IsE K x]).P (.ref r) (upd B2 r (.tup [vx])) := ⟨r, _, rfl, st_of upd_same, de_m n1.b hvx, trivial⟩
  have l1 : ((ds.map (IsE K)).take at').length ≤ 1000 := by rw [List.length_take, List.length_map]; omega
  have l2 : ((ds.map (IsE K)).drop (at' + 1)).length ≤ 1000 := by rw [List.length_drop, List.length_map]; omega
  have c1 := p_catU (σ := σ) (p_cv ((TuP K ((ds.map (IsE K)).take at')).m (g2.b.trans n1.b) h1)) (p_cv (σ := σ) t1) (by show _ + 1 ≤ _; omega)
  refine op_raw (σ := σ) ?_
  refine c1 _ k3.e _ fun v4 B4 H4 g4 h4 => ?_
  have k4 := k3.gr g4
  have e4 := ((g1.b.trans g2.b).trans n1.b).trans g4.b
  refine p_slFrom (σ := σ) (k := at' + 1) (p_var hi (tu_e (de_m e4 hv))) (ev_is (ev_op (ev_var hj) ev_c rv_I0) (congrArg V.int (by omega))) _ k4.e _ fun v5 B5 H5 g5 h5 => ?_
  have k5 := k4.gr g5
  have c2 := p_catU (σ := σ) (p_cv ((TuP K _).m g5.b h4)) (p_cv (σ := σ) h5) (by rw [List.length_append]; show _ + 1 + _ ≤ _; omega)
  refine op_raw (σ := σ) ?_
  refine c2 _ k5.e _ fun v6 B6 H6 g6 h6 => ?_
  refine q x v6 B6 H6 hx (k5.gr g6) (((GX.gr g1).trans g2).trans (((GX.gr n1).trans (GX.gr g4)).trans ((GX.gr g5).trans (GX.gr g6)))) ?_
  have e6 : (ds.map (IsE K)).take at' ++ [IsE K x] ++ (ds.map (IsE K)).drop (at' + 1) = (ds.take at' ++ [x] ++ ds.drop (at' + 1)).map (IsE K) := by simp
  rw [e6] at h6
  exact e_tu h6
end
def spOdd (K : PySem.W.Frag) (T : List (Addr × Str)) : Sp := fun vs H Q _ => ∃ (B : Hp) (d : Addr) (n : Nat), vs = [.ref d] ∧ Kx T d n B H ∧ n ≤ 2 ^ 37 ∧ ∀ (x : PyData) (v : V) (B' H' : Hp), x ∈ OD → Kx T d (n + 4) B' H' → GX d B H B' H' → (FeP K TxP x).P v B' → Q v H'
/-- of a flat row -/
def spBent0 (K : PySem.W.Frag) (T : List (Addr × Str)) (F : List Pr → Pr) : Sp := fun vs H Q _ => ∃ (B : Hp) (d : Addr) (n : Nat) (ds : List PyData) (vt : V), vs = [.ref d, vt] ∧ (F (ds.map (IsE K))).P vt B ∧ ds.length ≤ 100 ∧ (∀ x ∈ ds, isTu x = false) ∧ Kx T d n B H ∧ n ≤ 2 ^ 36 ∧ ∀ (x : PyData) (v : V) (B' H' : Hp), BentF ds x → Kx T d (n + 20) B' H' → GX d B H B' H' → (FeP K F x).P v B' → Q v H'
/-- of a row of flat rows and leaves -/
def spBent1 (K : PySem.W.Frag) (T : List (Addr × Str)) : Sp := fun vs H Q _ => ∃ (B : Hp) (d : Addr) (n : Nat) (ds : List PyData) (vt : V), vs = [.ref d, vt] ∧ De K B vt (.tuple ds) ∧ ds.length ≤ 100 ∧ (∀ es, .tuple es ∈ ds → es.length ≤ 100 ∧ ∀ x ∈ es, isTu x = false) ∧ Kx T d n B H ∧ n ≤ 2 ^ 35 ∧ ∀ (x : PyData) (v : V) (B' H' : Hp), (BentF ds x ∨ ∃ (i : Nat) (es : List PyData) (y : PyData), ds[i]? = some (.tuple es) ∧ BentF es y ∧ x = .tuple (ds.take i ++ [y] ++ ds.drop (i + 1))) → Kx T d (n + 40) B' H' → GX d B H B' H' → De K B' v x → Q v H'
section
variable {P : Program} {w : World} {K : PySem.W.Frag} {mg : Str → Option Value} {base : Heap} {T : List (Addr × Str)}

/-- _law_is_known -/
abbrev s_Lis_known : Stmt := topS 74
abbrev N_Lis_known : List Str := ["_law_by_here", "_law_it", "_law_k"]
theorem sc_Lis_known : FnScope N_Lis_known ["_law_by_here", "_law_it"] (defScope s_Lis_known) := ⟨rfl, rfl, rfl, by decide +kernel, rfl, by decide +kernel, by decide +kernel⟩
theorem ok_Lis_known {f : Addr} {fd : FuncData} (F : Fun K "_law_is_known" "_law_is_known" s_Lis_known f fd)   (n_isinstance : mg "isinstance" = none) (n_tuple : mg "tuple" = none) (n_len : mg "len" = none) (n_str : mg "str" = none) (n_int : mg "int" = none) (n_bool : mg "bool" = none)  :
    FnOk P w K mg base CX0 2 f fd ["_law_by_here", "_law_it"] (spP (RknE K)) := by
  refine F.ok sc_Lis_known (spP_len (by rintro _ _ ⟨_, _, _, _, _, _, rfl, rfl⟩; rfl)) (fun cdv A outer s H vs Q E hr h => ?_)
  obtain ⟨B, ps, p, eB, hv, ⟨r, qd, d, hok, tq, hs, rfl, rfl⟩, q⟩ := h
  obtain ⟨v0, v1, rfl, h0, h1⟩ := all2 hv
  have hd : De K B v1 d := tq _ _ h1
  have hu := hu_of hr
  refine ⟨_, (pss_cons (ps_if (PW.pt (pw_or (pt_not (pt_val (pe_callB (show CallR _ (.builtin "isinstance") (rIsi K) from call_isi) (by rfl) n_isinstance (by decide +kernel) (pa_cons (pv 1) (pa_cons (pe_bltn (v := .ty "tuple") (u := .type "tuple") (by rfl) n_tuple (by decide +kernel) rfl) pa_nil))))) (pw_or (pt_cmpR op_ne (pe_callB call_len_seq (by rfl) n_len (by decide +kernel) (pa_cons (pv 1) pa_nil)) pe_int (nomark _)) (pw_or (pt_not (pt_val (pe_callB (show CallR _ (.builtin "isinstance") (rIsi K) from call_isi) (by rfl) n_isinstance (by decide +kernel) (pa_cons (pe_ix (show IxR _ (rIxT K) from ix_tup) (pv 1) pe_int (fun _ _ => rfl)) (pa_cons (pe_bltn (v := .ty "str") (u := .type "str") (by rfl) n_str (by decide +kernel) rfl) pa_nil))))) (pw_or1 (pt_cmpR op_notIn_seq (pe_ix (show IxR _ (rIxT K) from ix_tup) (pv 1) pe_int (fun _ _ => rfl)) (pe_ix (show IxR _ (rIxT K) from ix_tup) (pv 0) pe_int (fun _ _ => rfl)) (by rfl))))))) (pss_one (ps_ret pe_bl)) pss_nil)
    (pss_cons (ps_if (pt_cmpR (show OpR _ (compareOp .NotEq) (rNeNil K) from op_neNil hr.units) (pe_lc (own := [("_law_k", 2)]) rfl sc_Lis_known.nd (pi_tup (pe_slice sl_tupA (pv 1) (po_some pe_int) po_none)) (blkOk_by (N := N_Lis_known) (sc := defScope s_Lis_known) (by decide +kernel)) (fun _ _ _ _ _ => (pg_name (i := 2) sc_Lis_known.nd rfl (Or.inl rfl))) (fun _ _ _ _ _ => (pts_one (PW.pt (pw_or (pt_not (pt_val (pe_callB (show CallR _ (.builtin "isinstance") (rIsi K) from call_isi) (by rfl) n_isinstance (by decide +kernel) (pa_cons (pv 2) (pa_cons (pe_bltn (v := .ty "int") (u := .type "int") (by rfl) n_int (by decide +kernel) rfl) pa_nil))))) (pw_or (pt_val (pe_callB (show CallR _ (.builtin "isinstance") (rIsi K) from call_isi) (by rfl) n_isinstance (by decide +kernel) (pa_cons (pv 2) (pa_cons (pe_bltn (v := .ty "bool") (u := .type "bool") (by rfl) n_bool (by decide +kernel) rfl) pa_nil)))) (pw_or1 (pt_cmpR op_lt (pv 2) pe_int (nomark _)))))))) (fun _ _ _ _ _ => (pv 2))) (pe_lst pa_nil) (nomark _)) (pss_one (ps_ret pe_bl)) pss_nil)
    (pss_one (ps_ret (pe_or (pe_cmpR op_eq (pe_ix (show IxR _ (rIxT K) from ix_tup) (pv 1) pe_int (fun _ _ => rfl)) pe_int (nomark _)) (pe_one (pe_cmpR op_in_seq pe_str (pe_ix (show IxR _ (rIxT K) from ix_tup) (pv 0) pe_int (fun _ _ => rfl)) (by rfl)))))))), ?_⟩
  have hd1 : ∀ x, EvP (tVar 1) [some v0, some v1, x] B (IsE K d) := fun _ => p_var rfl hd
  have hr0 : ∀ x, EvP (tVar 0) [some v0, some v1, x] B (RkP K r) := fun _ => p_var rfl h0
  have no : ∀ {H5 : Hp}, Ex H H5 → fitsB r d = false → ∀ (σ : L2.St) (D : Ends), D.rt = Q → tRet (tC (.bl false)) D σ H5 := fun {H5} e5 hf σ D hD => My.ps_ret (eB.trans e5) (p_c (v := .bl false)) fun v5 B5 H6 g5 hv5 => by
    rw [hD]
    refine q v5 B5 H6 ((Gr.wide eB e5).trans g5) ?_
    rw [hf]
    exact hv5
  have t1 := et_tupCE (n := 3) (hd1 none) fun ht => et_or (a := !isStB (it 0 d)) (b := !decide (strOf (it 0 d) ∈ r.ns)) (et_not (et_B (ev_isStE (p_it (k := 0) (hd1 none) ht (by decide))))) fun e => et_is (et_test (ev_inT (K := K) (neg := true) (x := strOf (it 0 d)) (ys := r.ns) (ev_strE (p_it (k := 0) (hd1 none) ht (by decide)) (by simpa using e)) (ed_nm (p_rk1 (hr0 none))))) (by rw [if_pos rfl])
  cases c1 : (tupN 3 d && (isStB (it 0 d) && decide (strOf (it 0 d) ∈ r.ns))) with
  | false =>
    refine My.ps_ifT eB (et_is t1 (by revert c1; cases tupN 3 d <;> cases isStB (it 0 d) <;> simp)) fun H1 e1 => ?_
    exact no e1 (by rw [kn_eq hok, c1]; rfl) _ _ rfl
  | true =>
  refine ps_ifN eB (et_is t1 (by revert c1; cases tupN 3 d <;> cases isStB (it 0 d) <;> simp)) fun H1 e1 => ?_
  dsimp only
  have ht : tupN 3 d = true := (Bool.and_eq_true_iff.mp c1).1
  have lc := p_lcS (te := tVar 2) (g := gName 2) (vs := [2]) (tt := tOr (tNot (tB (tCB (rIsi K) (tCons (tVar 2) (tCons (tC (.ty "int")) tNil))))) (tOr (tB (tCB (rIsi K) (tCons (tVar 2) (tCons (tC (.ty "bool")) tNil)))) (tTest (tOp (rI0 fun i j => .bl (decide (i < j))) (tVar 2) (tC (.int 0)))))) (src_tu (K := K) (ps := [IsE K (it 1 d), IsE K (it 2 d)]) (p_slFrom (K := K) (k := 1) (ps := [IsE K (it 0 d), IsE K (it 1 d), IsE K (it 2 d)]) ((hd1 none).imp fun v B1 _ x => tu_e (ds := [it 0 d, it 1 d, it 2 d]) (by rw [← tpl3 ht]; exact x)) (ev_c (v := .int 1)))) (by show 2 ≤ 100000; decide) (fun i => !goodK ([it 1 d, it 2 d].getD i .none)) (fun i => IsE K ([it 1 d, it 2 d].getD i .none)) fun i v2 B5 hi e pv => by
    have hi : i < 2 := hi
    have pv : De K B5 v2 ([it 1 d, it 2 d].getD i .none) := by
      match i, hi with
      | 0, _ => exact pv
      | 1, _ => exact pv
    generalize [it 1 d, it 2 d].getD i .none = x at pv
    have ev : EvP (tVar 2) [some v0, some v1, some v2] B5 (IsE K x) := p_var rfl pv
    refine ⟨[some v0, some v1, some v2], rfl, fun H2 Q e q => q, et_is (et_or (a := !isI x) (b := isBo x || decide (intOf x < 0)) (et_not (et_B (ev_isIE ev))) fun e1 => et_or (a := isBo x) (b := decide (intOf x < 0)) (et_B (ev_isBE ev)) fun e2 => ?_) ?_, fun _ => ev⟩
    · obtain ⟨n, rfl⟩ : ∃ n, x = .int n := by
        revert e1 e2
        cases x with
        | int n => exact fun _ _ => ⟨_, rfl⟩
        | bool b => simp [isBo]
        | _ => simp [isI]
      exact et_test (ev_op (ev_inE ev) (ev_c (v := .int 0)) rv_I0)
    · cases x <;> first
        | rfl
        | (rename_i n
           show (decide (n < 0)) = !(true && decide (0 ≤ n))
           by_cases h : n < 0
           · rw [decide_eq_true h, decide_eq_false (by omega)]
             rfl
           · rw [decide_eq_false h, decide_eq_true (by omega)]
             rfl)
  have t2 := et_test (ev_neNil (K := K) (p_lq lc) (p_lq (p_lst (t := tNil) (ps := []) q_nil (by show 0 ≤ 100000; decide))))
  rw [List.isEmpty_map] at t2
  have t2 : EvT _ [some v0, some v1, none] B (!([it 1 d, it 2 d].all goodK)) := et_is t2 (by rw [← filt_all goodK .none [it 1 d, it 2 d]]; rfl)
  have ea : [it 1 d, it 2 d].all goodK = (goodK (it 1 d) && goodK (it 2 d)) := by simp
  rw [ea] at t2
  cases c2 : (goodK (it 1 d) && goodK (it 2 d)) with
  | false =>
    refine My.ps_ifT (eB.trans e1) (et_is t2 (by rw [c2]; rfl)) fun H2 e2 => ?_
    exact no (e1.trans e2) (by rw [kn_eq hok, c1, c2]; rfl) _ _ rfl
  | true =>
  refine ps_ifN (eB.trans e1) (et_is t2 (by rw [c2]; rfl)) fun H2 e2 => ?_
  dsimp only
  have w2 : wholeB (it 2 d) = true := by
    rw [Bool.and_eq_true] at c2
    exact (Bool.and_eq_true_iff.mp (show (wholeB (it 2 d) && _) = true from c2.2)).1
  have i2 := p_it (k := 2) (hd1 none) ht (by decide)
  rw [wholeB_ex w2] at i2
  refine My.ps_ret ((eB.trans e1).trans e2) (p_ev (v := .bl (fitsB r d)) (ev_is (ev_orV (a := decide (intOf (it 2 d) = 0)) (b := decide ((Str.ofString "y") ∈ r.axs)) (ev_is (ev_op (ev_inE i2) (ev_c (v := .int 0)) (rv_eq rfl)) ?_) fun _ => ev_is (ev_inT (K := K) (neg := false) (ys := r.axs) ev_c (p_rk2 (hr0 none))) (by rw [if_neg Bool.false_ne_true])) (by rw [kn_eq hok, c1, c2]; rfl))) fun v B4 H4 g hp => q v B4 H4 ((Gr.wide eB (e1.trans e2)).trans g) hp
  exact congrArg V.bl (decide_eq_decide.mpr ⟨fun z => V.int.inj z, fun z => by rw [z]⟩)

/-- _law_odd -/
abbrev s_Lodd : Stmt := topS 72
abbrev N_Lodd : List Str := ["_law_state", "_law_some"]
theorem sc_Lodd : FnScope N_Lodd ["_law_state"] (defScope s_Lodd) := ⟨rfl, rfl, rfl, by decide +kernel, rfl, by decide +kernel, by decide +kernel⟩
theorem ok_Lodd {f : Addr} {fd : FuncData} (F : Fun K "_law_odd" "_law_odd" s_Lodd f fd)  {f_Ldigit : Addr} {d_Ldigit : FuncData} (c_Ldigit : Cal P w K mg base "_law_digit" 2 ["_law_state", "_law_size"] spDigit f_Ldigit d_Ldigit)   :
    FnOk P w K mg base CX0 3 f fd ["_law_state"] (spOdd K T) := by
  refine F.ok sc_Lodd (fun vs H Q E h => by obtain ⟨B, d, n, rfl, _⟩ := h; rfl) (fun cdv A outer s H vs Q E hr h => ?_)
  obtain ⟨B, d, n, rfl, k, hn, q⟩ := h
  have hu := hu_of hr
  refine ⟨_, (pss_cons (ps_set (i := 1) sc_Lodd.nd rfl (by first | exact .inl rfl | exact .inr rfl) (pe_lst (pa_cons pe_non (pa_cons pe_bl (pa_cons pe_int (pa_cons pe_int (pa_cons (pe_un un_neg pe_int) (pa_cons pe_int (pa_cons pe_str (pa_cons pe_str (pa_cons pe_str (pa_cons pe_str (pa_cons pe_str (pa_cons pe_str (pa_cons pe_str (pa_cons pe_str (pa_cons pe_str (pa_cons pe_str (pa_cons (pe_tup pa_nil) (pa_cons (pe_lst pa_nil) (pa_cons pe_dnewK pa_nil)))))))))))))))))))))
    (pss_one (ps_ret (pe_ix ix_list (pe_op op_cat (pv 1) (pe_lst (pa_cons (pe_tup (pa_cons pe_str pa_nil)) (pa_cons (pe_tup (pa_cons pe_str pa_nil)) (pa_cons (pe_tup (pa_cons pe_str (pa_cons pe_str pa_nil))) (pa_cons (pe_lst (pa_cons pe_str pa_nil)) (pa_cons (pe_tup (pa_cons pe_str (pa_cons pe_str pa_nil))) (pa_cons (pe_tup (pa_cons pe_str (pa_cons pe_int (pa_cons pe_int pa_nil)))) pa_nil)))))))) (pe_call c_Ldigit.G (hr.mono (by decide)) (by rfl) c_Ldigit.m c_Ldigit.k c_Ldigit.b .nil pass0 (pa_cons (pv 0) (pa_cons pe_int pa_nil))) (fun _ _ => rfl))))), ?_⟩
  refine b_seq (ps_asgN (fun v => [some (.ref d), some v]) k.e (p_lst (ps := (OD.take 19).map (FeP K TxP)) (q_cons (f_one p_c (toE_of to_non) (fun _ z => nomatch z)) (q_cons (f_one p_c (toE_of to_bl) (fun _ z => nomatch z)) (q_cons (f_one p_c (toE_of to_int) (fun _ z => nomatch z)) (q_cons (f_one p_c (toE_of to_int) (fun _ z => nomatch z)) (q_cons (f_one (p_ev (ev_un ev_c ru_neg)) (toE_of to_int) (fun _ z => nomatch z)) (q_cons (f_one p_c (toE_of to_int) (fun _ z => nomatch z)) (q_cons (f_one p_c (toE_of to_str) (fun _ z => nomatch z)) (q_cons (f_one p_c (toE_of to_str) (fun _ z => nomatch z)) (q_cons (f_one p_c (toE_of to_str) (fun _ z => nomatch z)) (q_cons (f_one p_c (toE_of to_str) (fun _ z => nomatch z)) (q_cons (f_one p_c (toE_of to_str) (fun _ z => nomatch z)) (q_cons (f_one p_c (toE_of to_str) (fun _ z => nomatch z)) (q_cons (f_one p_c (toE_of to_str) (fun _ z => nomatch z)) (q_cons (f_one p_c (toE_of to_str) (fun _ z => nomatch z)) (q_cons (f_one p_c (toE_of to_str) (fun _ z => nomatch z)) (q_cons (f_one p_c (toE_of to_str) (fun _ z => nomatch z)) (q_cons (f_tup (tk_x K) (ds := []) (p_litX q_nil (by decide)) rfl) (q_cons (f_lst (ds := []) (p_lst q_nil (by decide)) rfl) (q_cons f_dict q_nil))))))))))))))))))) (by rw [List.length_map]; decide)) (fun v1 B1 H1 g1 h1 => ?_) (fun _ => rfl))
  have k1 := k.gr g1
  dsimp only
  refine b_ret (b_op ((p_cat (ps := (OD.take 19).map (FeP K TxP)) (qs := (OD.drop 19).map (FeP K TxP)) (p_var rfl h1) (p_lst (q_cons (f_tup (tk_x K) (ds := [.str "x"]) (p_litX (q_cons e_str q_nil) (by show 1 ≤ 100000; decide)) rfl) (q_cons (f_tup (tk_x K) (ds := [.str "y"]) (p_litX (q_cons e_str q_nil) (by show 1 ≤ 100000; decide)) rfl) (q_cons (f_tup (tk_x K) (ds := [.str "x", .str "x"]) (p_litX (q_cons e_str (q_cons e_str q_nil)) (by show 2 ≤ 100000; decide)) rfl) (q_cons (f_lst (ds := [.str "x"]) (p_lst (q_cons e_str q_nil) (by show 1 ≤ 100000; decide)) rfl) (q_cons (f_tup (tk_x K) (ds := [.str "u", .str "v"]) (p_litX (q_cons e_str (q_cons e_str q_nil)) (by show 2 ≤ 100000; decide)) rfl) (q_cons (f_tup (tk_x K) (ds := [.str "u", .int 0, .int 0]) (p_litX (q_cons e_str (q_cons e_int (q_cons e_int q_nil))) (by show 3 ≤ 100000; decide)) rfl) q_nil)))))) (by show 6 ≤ 100000; decide)) (by rw [List.length_map, List.length_map]; show 19 + 6 ≤ 100000; decide)) H1 k1.e _ fun v2 B2 H2 g2 h2 => ?_))
  rw [← List.map_append, List.take_append_drop] at h2
  refine x_digit (z := 25) (k1.gr g2) rfl ev_c (by decide) (by decide) (by omega) fun m H3 m0 m1 k2 g3 => ?_
  refine x_at k2.e h2 m0 m1 fun j p w hj hw => ?_
  rw [List.getElem?_map] at hj
  obtain ⟨x, hx, rfl⟩ := Option.map_eq_some_iff.mp hj
  exact q x w B2 H3 (List.mem_of_getElem? hx) k2 (((GX.gr g1).trans (GX.gr g2)).trans g3) hw

end
end K12
namespace K12
set_option autoImplicit false
open PySem PySem.Spec PySem.W PyProof.Rows L2 Evl My Nd LamX NdefX Gd
section
variable {P : Program} {w : World} {K : PySem.W.Frag} {mg : Str → Option Value} {base : Heap} {T : List (Addr × Str)}

/-- _law_bent -/
abbrev s_Lbent : Stmt := topS 73
abbrev N_Lbent : List Str := ["_law_state", "_law_it", "_law_at", "_law_odd_here", "_law_inner", "_law_k", "_law_spot", "_law_some"]
theorem sc_Lbent : FnScope N_Lbent ["_law_state", "_law_it"] (defScope s_Lbent) := ⟨rfl, rfl, rfl, by decide +kernel, rfl, by decide +kernel, by decide +kernel⟩
theorem ok_Lbent0 {f : Addr} {fd : FuncData} (F : Fun K "_law_bent" "_law_bent" s_Lbent f fd) {Fm : List Pr → Pr} (tk : TK K Fm) {f_Ldigit : Addr} {d_Ldigit : FuncData} (c_Ldigit : Cal P w K mg base "_law_digit" 2 ["_law_state", "_law_size"] spDigit f_Ldigit d_Ldigit) {f_Lodd : Addr} {d_Lodd : FuncData} (c_Lodd : Cal P w K mg base "_law_odd" 3 ["_law_state"] (spOdd K T) f_Lodd d_Lodd) (n_len : mg "len" = none) (n_range : mg "range" = none) (n_isinstance : mg "isinstance" = none) (n_tuple : mg "tuple" = none) (n_list : mg "list" = none)  :
    FnOk P w K mg base CX0 4 f fd ["_law_state", "_law_it"] (spBent0 K T Fm) := by
  refine F.ok sc_Lbent (fun vs H Q E h => by obtain ⟨_, _, _, _, _, rfl, _⟩ := h; rfl) (fun cdv A outer s H vs Q E hr h => ?_)
  obtain ⟨B, d, n, ds, vt, rfl, hF, hl, hfl, k, hn, q⟩ := h
  have hT : De K B vt (.tuple ds) := e_tu (tk.tu _ _ _ hF)
  have hu := hu_of hr
  refine ⟨_, (pss_cons (ps_par (i := 2) (j := 3) rfl sc_Lbent.nd rfl rfl (by decide) rfl rfl (pa_cons (pe_call c_Ldigit.G (hr.mono (by decide)) (by rfl) c_Ldigit.m c_Ldigit.k c_Ldigit.b .nil pass0 (pa_cons (pv 0) (pa_cons (pe_op op_add (pe_callB call_len_seq (by rfl) n_len (by decide +kernel) (pa_cons (pv 1) pa_nil)) pe_int) pa_nil))) (pa_cons (pe_call c_Lodd.G (hr.mono (by decide)) (by rfl) c_Lodd.m c_Lodd.k c_Lodd.b .nil pass0 (pa_cons (pv 0) pa_nil)) pa_nil)) (by rfl))
    (pss_cons (ps_setLc (i := 4) (own := [("_law_k", 5)]) rfl sc_Lbent.nd rfl rfl (sw_true rfl rfl rfl (by decide +kernel)) (pi_range1 (by rfl) n_range (pa_cons (pe_callB call_len_seq (by rfl) n_len (by decide +kernel) (pa_cons (pv 1) pa_nil)) pa_nil)) (blkOk_by (N := N_Lbent) (sc := defScope s_Lbent) (by decide +kernel)) (fun _ _ _ _ _ => (pg_name (i := 5) sc_Lbent.nd rfl (Or.inl rfl))) (fun _ _ _ _ _ => (pts_one (pt_val (pe_callB (show CallR _ (.builtin "isinstance") (rIsi K) from call_isi) (by rfl) n_isinstance (by decide +kernel) (pa_cons (pe_ix (show IxR _ (rIxT K) from ix_tup) (pv 1) (pv 5) (fun _ _ => rfl)) (pa_cons (pe_bltn (v := .ty "tuple") (u := .type "tuple") (by rfl) n_tuple (by decide +kernel) rfl) pa_nil)))))) (fun _ _ _ _ _ => (pv 5)))
    (pss_cons (ps_if (PW.pt (pw_and (pt_cmpR (show OpR _ (compareOp .NotEq) (rNeNil K) from op_neNil hr.units) (pv 4) (pe_lst pa_nil) (nomark _)) (pw_and1 (pt_cmpR op_gt (pe_call c_Ldigit.G (hr.mono (by decide)) (by rfl) c_Ldigit.m c_Ldigit.k c_Ldigit.b .nil pass0 (pa_cons (pv 0) (pa_cons pe_int pa_nil))) pe_int (nomark _))))) (pss_cons (ps_set (i := 6) sc_Lbent.nd rfl (by first | exact .inl rfl | exact .inr rfl) (pe_ix ix_list (pv 4) (pe_call c_Ldigit.G (hr.mono (by decide)) (by rfl) c_Ldigit.m c_Ldigit.k c_Ldigit.b .nil pass0 (pa_cons (pv 0) (pa_cons (pe_callB call_len_seq (by rfl) n_len (by decide +kernel) (pa_cons (pv 4) pa_nil)) pa_nil))) (fun _ _ => rfl)))
    (pss_one (ps_ret (pe_op op_catA (pe_op op_catA (pe_slice sl_tupA (pv 1) po_none (po_some (pv 6))) (pe_tup (pa_cons (pe_never) pa_nil))) (pe_slice sl_tupA (pv 1) (po_some (pe_op op_add (pv 6) pe_int)) po_none))))) pss_nil)
    (pss_cons (ps_set (i := 7) sc_Lbent.nd rfl (by first | exact .inl rfl | exact .inr rfl) (pe_lst (pa_cons (pe_op op_catA (pe_op op_catA (pe_slice sl_tupA (pv 1) po_none (po_some (pv 2))) (pe_tup (pa_cons (pv 3) pa_nil))) (pe_slice sl_tupA (pv 1) (po_some (pe_op op_add (pv 2) pe_int)) po_none)) (pa_cons (pe_op op_catA (pe_slice sl_tupA (pv 1) po_none (po_some (pv 2))) (pe_slice sl_tupA (pv 1) (po_some (pe_op op_add (pv 2) pe_int)) po_none)) (pa_cons (pe_op op_catA (pe_op op_catA (pe_slice sl_tupA (pv 1) po_none (po_some (pv 2))) (pe_tup (pa_cons (pv 3) pa_nil))) (pe_slice sl_tupA (pv 1) (po_some (pv 2)) po_none)) pa_nil)))))
    (pss_cons (ps_set (i := 7) sc_Lbent.nd rfl (by first | exact .inl rfl | exact .inr rfl) (pe_op op_cat (pv 7) (pe_lst (pa_cons (pe_callTy call_list_of (by rfl) n_list (by decide +kernel) (pa_cons (pv 1) pa_nil)) (pa_cons (pv 3) (pa_cons (Gd.pe_revT (pv 1)) (pa_cons (pe_op op_catA (pv 1) (pe_slice sl_tupA (pv 1) (po_some (pe_un un_neg pe_int)) po_none)) (pa_cons (pe_op op_catA (pv 1) (pv 1)) pa_nil))))))))
    (pss_one (ps_ret (pe_ix ix_list (pv 7) (pe_ix ix_list (pe_lst (pa_cons pe_int (pa_cons pe_int (pa_cons pe_int (pa_cons pe_int (pa_cons pe_int (pa_cons pe_int (pa_cons pe_int (pa_cons pe_int (pa_cons pe_int (pa_cons pe_int pa_nil))))))))))) (pe_call c_Ldigit.G (hr.mono (by decide)) (by rfl) c_Ldigit.m c_Ldigit.k c_Ldigit.b .nil pass0 (pa_cons (pv 0) (pa_cons pe_int pa_nil))) (fun _ _ => rfl)) (fun _ _ => rfl))))))))), ?_⟩
  have ln : ∀ {σ : L2.St} {B' : Hp}, Ex B B' → σ[1]? = some (some vt) → Ev (tCB (rLenS K) (tCons (tVar 1) tNil)) σ B' (.int ((ds.length : Nat) : Int)) := fun e h => ev_lenE (p_var h (de_m e hT)) (.inl rfl)
  refine b_seq (b_par (b_cons ?_))
  refine x_digit (z := ((ds.length + 1 : Nat) : Int)) k rfl (ev_is (ev_op (ln (Ex.refl B) rfl) ev_c rv_I0) (congrArg V.int (by omega))) (by omega) (by omega) (by omega) fun m1 H1 m10 m11 k1 g1 => b_cons (c_call (b_cons ⟨_, rfl, b_nil ⟨B, d, _, rfl, k1, by omega, fun od vo B3 H3 ho k3 g3 hv => b_nil ⟨_, _, rfl, ?_⟩⟩⟩))
  obtain ⟨i, rfl, hi⟩ : ∃ i : Nat, m1 = (i : Int) ∧ i ≤ ds.length := ⟨m1.toNat, by omega, by omega⟩
  dsimp only [gName, List.set_cons_succ, List.set_cons_zero]
  have hT3 := de_m g3.b hT
  have lc := p_lcS (te := tVar 5) (g := gName 5) (vs := [5]) (tt := tB (tCB (rIsi K) (tCons (tOp (rIxT K) (tVar 1) (tVar 5)) (tCons (tC (.ty "tuple")) tNil)))) (src_rng (j := ds.length) (t := tCons (tCB (rLenS K) (tCons (tVar 1) tNil)) tNil) (σ := [some (.ref d), some vt, some (.int (i : Nat)), some vo, none, none, none, none]) (B := B3) (q_cons (p_ev (ln g3.b rfl)) q_nil) (by omega)) (by omega) (fun j => isTu (ds.getD j .none)) (fun j => IsV (.int (j : Int))) fun j v5 B5 hj e5 pv => by
    obtain rfl : v5 = .int (j : Int) := pv
    have hjt : (ds.map (IsE K))[j]? = some (IsE K (ds.getD j .none)) := by
      rw [List.getElem?_map, List.getD_eq_getElem?_getD, List.getElem?_eq_getElem hj]
      rfl
    exact ⟨[some (.ref d), some vt, some (.int (i : Nat)), some vo, none, some (.int (j : Int)), none, none], rfl, fun H2 Q e q => q, et_B (ev_isTuE (p_ixT (K := K) (ps := ds.map (IsE K)) (p_var rfl (tu_e (de_m e5 hT3))) (p_varV rfl) (atI_nat hjt))), fun _ => p_varV rfl⟩
  refine b_seq (ps_asgN (fun v => [some (.ref d), some vt, some (.int (i : Nat)), some vo, some v, none, none, none]) k3.e lc (fun vi B4 H4 g4 hvi => ?_) (fun _ => rfl))
  have k4 := k3.gr g4
  have hT4 := de_m g4.b hT3
  have hv4 := (FeP K TxP od).m g4.b hv
  dsimp only
  have t1 := et_test (ev_neNil (K := K) (p_lq (p_var (σ := [some (.ref d), some vt, some (.int (i : Nat)), some vo, some vi, none, none, none]) (i := 4) rfl hvi)) (p_lq (p_lst (t := tNil) (ps := []) q_nil (by show 0 ≤ 100000; decide))))
  rw [List.isEmpty_map] at t1
  have hF4 := (Fm _).m (g3.b.trans g4.b) hF
  have rest : ∀ (x6 : Option V) (H9 : Hp) (m : Nat), Kx T d m B4 H9 → GX d B H B4 H9 → m ≤ n + 12 → ∀ D : Ends, D.rt = Q → (tSeq (tAsg (tLst (tCons (tOp (rCatA K) (tOp (rCatA K) (tSl (rSlA K) (tVar 1) tNoPart (tPart (tVar 2))) (tTup (tCons (tVar 3) tNil))) (tSl (rSlA K) (tVar 1) (tPart (tOp (rI0 fun i j => .int (i + j)) (tVar 2) (tC (.int 1)))) tNoPart)) (tCons (tOp (rCatA K) (tSl (rSlA K) (tVar 1) tNoPart (tPart (tVar 2))) (tSl (rSlA K) (tVar 1) (tPart (tOp (rI0 fun i j => .int (i + j)) (tVar 2) (tC (.int 1)))) tNoPart)) (tCons (tOp (rCatA K) (tOp (rCatA K) (tSl (rSlA K) (tVar 1) tNoPart (tPart (tVar 2))) (tTup (tCons (tVar 3) tNil))) (tSl (rSlA K) (tVar 1) (tPart (tVar 2)) tNoPart)) tNil)))) (gName 7)) (tSeq (tAsg (tOp rCat (tVar 7) (tLst (tCons (tCB (fun xs H Q => ∃ p ys, xs = [.ref p] ∧ (SqL K H p ys ∨ SqT K H p ys) ∧ ∀ l, H l = none → Q (.ref l) (upd H l (.lst ys))) (tCons (tVar 1) tNil)) (tCons (tVar 3) (tCons (tRevT K (tVar 1)) (tCons (tOp (rCatA K) (tVar 1) (tSl (rSlA K) (tVar 1) (tPart (tUn (rU fun i => .int (-i)) (tC (.int 1)))) tNoPart)) (tCons (tOp (rCatA K) (tVar 1) (tVar 1)) tNil))))))) (gName 7)) (tRet (tOp (rIxL K) (tVar 7) (tOp (rIxL K) (tLst (tCons (tC (.int 0)) (tCons (tC (.int 0)) (tCons (tC (.int 0)) (tCons (tC (.int 1)) (tCons (tC (.int 2)) (tCons (tC (.int 3)) (tCons (tC (.int 4)) (tCons (tC (.int 5)) (tCons (tC (.int 6)) (tCons (tC (.int 7)) tNil))))))))))) (tCall spDigit [] E0 (tCons (tVar 0) (tCons (tC (.int 10)) tNil)))))))) D [some (.ref d), some vt, some (.int (i : Nat)), some vo, some vi, none, x6, none] H9 := fun x6 H9 m k9 G9 hm D hD => by
    have t1 : ∀ {σ : L2.St}, σ[1]? = some (some vt) → EvP (tVar 1) σ B4 (Fm (ds.map (IsE K))) := fun h => p_var h hF4
    have od1 : ∀ {σ : L2.St}, σ[3]? = some (some vo) → EvP (tTup (tCons (tVar 3) tNil)) σ B4 (Fm [IsE K od]) := fun h => tk.lit (q_cons ((p_var h hv4).imp fun v B1 _ x => x.1) q_nil) (by show 1 ≤ 100000; decide)
    have at2 : ∀ {σ : L2.St}, σ[2]? = some (some (.int (i : Nat))) → Ev (tOp (rI0 fun i j => .int (i + j)) (tVar 2) (tC (.int 1))) σ B4 (.int ((i + 1 : Nat) : Int)) := fun h => ev_is (ev_op (ev_var h) ev_c rv_I0) (congrArg V.int (by omega))
    have l1 : ∀ j, ((ds.map (IsE K)).take j).length ≤ 100 := fun j => by rw [List.length_take, List.length_map]; omega
    have l2 : ∀ j, ((ds.map (IsE K)).drop j).length ≤ 100 := fun j => by rw [List.length_drop, List.length_map]; omega
    have l0 : (ds.map (IsE K)).length ≤ 100 := by rw [List.length_map]; exact hl
    let L1 : List PyData := [.tuple (ds.take i ++ [od] ++ ds.drop (i + 1)), .tuple (ds.take i ++ ds.drop (i + 1)), .tuple (ds.take i ++ [od] ++ ds.drop i)]
    let L4 : List PyData := [.list ds, od, .tuple ds.reverse, .tuple (ds ++ ds.drop (ds.length - 1)), .tuple (ds ++ ds)]
    refine b_seq (ps_asgN (fun v => [some (.ref d), some vt, some (.int (i : Nat)), some vo, some vi, none, x6, some v]) k9.e (p_lst (ps := L1.map (FeP K Fm)) (q_cons (f_tup tk (tk.cat (tk.cat (tk.to (t1 rfl) (ev_var rfl)) (od1 rfl) (by have := l1 i; show _ + 1 ≤ _; omega)) (tk.fr (t1 rfl) (at2 rfl)) (by rw [List.length_append]; have := l1 i; have := l2 (i + 1); show _ + 1 + _ ≤ _; omega)) (by simp)) (q_cons (f_tup tk (tk.cat (tk.to (t1 rfl) (ev_var rfl)) (tk.fr (t1 rfl) (at2 rfl)) (by have := l1 i; have := l2 (i + 1); omega)) (by simp)) (q_cons (f_tup tk (tk.cat (tk.cat (tk.to (t1 rfl) (ev_var rfl)) (od1 rfl) (by have := l1 i; show _ + 1 ≤ _; omega)) (tk.fr (t1 rfl) (ev_var rfl)) (by rw [List.length_append]; have := l1 i; have := l2 i; show _ + 1 + _ ≤ _; omega)) (by simp)) q_nil))) (by show 3 ≤ 100000; decide)) (fun v5 B5 H5 g5 h5 => ?_) (fun _ => rfl))
    have k5 := k9.gr g5
    have hF5 := (Fm _).m g5.b hF4
    have hv5 := (FeP K TxP od).m g5.b hv4
    have t1 : ∀ {σ : L2.St}, σ[1]? = some (some vt) → EvP (tVar 1) σ B5 (Fm (ds.map (IsE K))) := fun h => p_var h hF5
    dsimp only
    refine b_seq (ps_asgN (fun v => [some (.ref d), some vt, some (.int (i : Nat)), some vo, some vi, none, x6, some v]) k5.e (p_cat (ps := L1.map (FeP K Fm)) (qs := L4.map (FeP K Fm)) (p_var rfl h5) (p_lst (q_cons (f_lst (p_listU ((t1 rfl).imp fun v B1 _ x => tk.tu _ _ _ x)) rfl) (q_cons ((p_var rfl hv5).imp fun v B1 _ x => ⟨x.1, fun es e => tk.ix _ _ _ (x.2 es e)⟩) (q_cons (f_tup tk (tk.rv (t1 rfl)) (by simp)) (q_cons (f_tup tk (tk.cat (t1 rfl) (tk.la (t1 rfl) (ev_is (ev_un ev_c ru_neg) rfl)) (by have := l2 ((ds.map (IsE K)).length - 1); omega)) (by simp)) (q_cons (f_tup tk (tk.cat (t1 rfl) (t1 rfl) (by omega)) (by simp)) q_nil))))) (by show 5 ≤ 100000; decide)) (by show 3 + 5 ≤ 100000; decide)) (fun v6 B6 H6 g6 h6 => ?_) (fun _ => rfl))
    have k6 := k5.gr g6
    dsimp only
    refine b_ret (b_op ⟨_, rfl, ?_⟩)
    refine x_pickI (K := K) (ks := [0, 0, 0, 1, 2, 3, 4, 5, 6, 7]) k6 (q_cons p_c (q_cons p_c (q_cons p_c (q_cons p_c (q_cons p_c (q_cons p_c (q_cons p_c (q_cons p_c (q_cons p_c (q_cons p_c q_nil)))))))))) rfl rfl (by decide) (by decide) (by omega) fun j hj B7 H7 k7 g7 => ?_
    have hm : ∀ b ∈ [0, 0, 0, 1, 2, 3, 4, 5, 6, (7 : Int)], 0 ≤ b ∧ b < 8 := by decide
    obtain ⟨b0, b1⟩ := hm _ (List.getElem_mem hj)
    refine x_at k7.e ((LsP _).m g7.b h6) b0 b1 fun j2 p wv hj2 hw => ?_
    rw [← List.map_append, List.getElem?_map] at hj2
    obtain ⟨x, hx, rfl⟩ := Option.map_eq_some_iff.mp hj2
    have hx := List.mem_of_getElem? hx
    rw [hD]
    have bx : BentF ds x := by
      simp only [L1, L4, List.cons_append, List.nil_append, List.mem_cons, List.not_mem_nil, or_false] at hx
      rcases hx with rfl | rfl | rfl | rfl | rfl | rfl | rfl | rfl
      · exact BentF.put ho i (i + 1) (by omega)
      · exact BentF.of (by rw [List.length_append, List.length_take, List.length_drop]; omega) fun e he => by
          rcases List.mem_append.mp he with h | h
          · exact List.mem_of_mem_take h
          · exact List.mem_of_mem_drop h
      · exact BentF.put ho i i (by omega)
      · exact .inl ⟨ds, .inr rfl, by omega, fun e he => .inl he⟩
      · exact .inr ho
      · exact BentF.of (by rw [List.length_reverse]; omega) fun e he => List.mem_reverse.mp he
      · exact BentF.of (by rw [List.length_append, List.length_drop]; omega) fun e he => by
          rcases List.mem_append.mp he with h | h
          · exact h
          · exact List.mem_of_mem_drop h
      · exact BentF.of (by rw [List.length_append]; omega) fun e he => by
          rcases List.mem_append.mp he with h | h
          · exact h
          · exact h
    exact q x wv B7 H7 bx (k7.le (by omega)) ((G9.trans ((GX.gr g5).trans (GX.gr g6))).trans g7) hw
  have none' : ((List.range ds.length).filter fun j => isTu (ds.getD j .none)) = [] := List.filter_eq_nil_iff.mpr fun j hj => by
    have hj := List.mem_range.mp hj
    rw [List.getD_eq_getElem?_getD, List.getElem?_eq_getElem hj, Option.getD_some, hfl _ (List.getElem_mem hj)]
    exact Bool.false_ne_true
  rw [none'] at t1
  refine b_seq (ps_ifN k4.e (et_is (et_and (a := false) (b := false) t1 (fun z => nomatch z)) rfl) fun H5 e5 => ?_)
  exact rest none H5 _ (k4.ex e5) (((g1.trans g3).trans (GX.gr g4)).trans (GX.ex e5)) (by omega) _ rfl

theorem ok_Lbent1 {f : Addr} {fd : FuncData} (F : Fun K "_law_bent" "_law_bent" s_Lbent f fd)  {f_Ldigit : Addr} {d_Ldigit : FuncData} (c_Ldigit : Cal P w K mg base "_law_digit" 2 ["_law_state", "_law_size"] spDigit f_Ldigit d_Ldigit) {f_Lodd : Addr} {d_Lodd : FuncData} (c_Lodd : Cal P w K mg base "_law_odd" 3 ["_law_state"] (spOdd K T) f_Lodd d_Lodd) (n_len : mg "len" = none) (n_range : mg "range" = none) (n_isinstance : mg "isinstance" = none) (n_tuple : mg "tuple" = none) (n_list : mg "list" = none) {f_Lbent : Addr} {d_Lbent : FuncData} (c_Lbent : Cal P w K mg base "_law_bent" 4 ["_law_state", "_law_it"] (spBent0 K T (TuP K)) f_Lbent d_Lbent) :
    FnOk P w K mg base CX0 5 f fd ["_law_state", "_law_it"] (spBent1 K T) := by
  refine F.ok sc_Lbent (fun vs H Q E h => by obtain ⟨_, _, _, _, _, rfl, _⟩ := h; rfl) (fun cdv A outer s H vs Q E hr h => ?_)
  obtain ⟨B, d, n, ds, vt, rfl, hT, hl, hfl, k, hn, q⟩ := h
  have hu := hu_of hr
  refine ⟨_, (pss_cons (ps_par (i := 2) (j := 3) rfl sc_Lbent.nd rfl rfl (by decide) rfl rfl (pa_cons (pe_call c_Ldigit.G (hr.mono (by decide)) (by rfl) c_Ldigit.m c_Ldigit.k c_Ldigit.b .nil pass0 (pa_cons (pv 0) (pa_cons (pe_op op_add (pe_callB call_len_seq (by rfl) n_len (by decide +kernel) (pa_cons (pv 1) pa_nil)) pe_int) pa_nil))) (pa_cons (pe_call c_Lodd.G (hr.mono (by decide)) (by rfl) c_Lodd.m c_Lodd.k c_Lodd.b .nil pass0 (pa_cons (pv 0) pa_nil)) pa_nil)) (by rfl))
    (pss_cons (ps_setLc (i := 4) (own := [("_law_k", 5)]) rfl sc_Lbent.nd rfl rfl (sw_true rfl rfl rfl (by decide +kernel)) (pi_range1 (by rfl) n_range (pa_cons (pe_callB call_len_seq (by rfl) n_len (by decide +kernel) (pa_cons (pv 1) pa_nil)) pa_nil)) (blkOk_by (N := N_Lbent) (sc := defScope s_Lbent) (by decide +kernel)) (fun _ _ _ _ _ => (pg_name (i := 5) sc_Lbent.nd rfl (Or.inl rfl))) (fun _ _ _ _ _ => (pts_one (pt_val (pe_callB (show CallR _ (.builtin "isinstance") (rIsi K) from call_isi) (by rfl) n_isinstance (by decide +kernel) (pa_cons (pe_ix (show IxR _ (rIxT K) from ix_tup) (pv 1) (pv 5) (fun _ _ => rfl)) (pa_cons (pe_bltn (v := .ty "tuple") (u := .type "tuple") (by rfl) n_tuple (by decide +kernel) rfl) pa_nil)))))) (fun _ _ _ _ _ => (pv 5)))
    (pss_cons (ps_if (PW.pt (pw_and (pt_cmpR (show OpR _ (compareOp .NotEq) (rNeNil K) from op_neNil hr.units) (pv 4) (pe_lst pa_nil) (nomark _)) (pw_and1 (pt_cmpR op_gt (pe_call c_Ldigit.G (hr.mono (by decide)) (by rfl) c_Ldigit.m c_Ldigit.k c_Ldigit.b .nil pass0 (pa_cons (pv 0) (pa_cons pe_int pa_nil))) pe_int (nomark _))))) (pss_cons (ps_set (i := 6) sc_Lbent.nd rfl (by first | exact .inl rfl | exact .inr rfl) (pe_ix ix_list (pv 4) (pe_call c_Ldigit.G (hr.mono (by decide)) (by rfl) c_Ldigit.m c_Ldigit.k c_Ldigit.b .nil pass0 (pa_cons (pv 0) (pa_cons (pe_callB call_len_seq (by rfl) n_len (by decide +kernel) (pa_cons (pv 4) pa_nil)) pa_nil))) (fun _ _ => rfl)))
    (pss_one (ps_ret (pe_op op_catA (pe_op op_catA (pe_slice sl_tupA (pv 1) po_none (po_some (pv 6))) (pe_tup (pa_cons (pe_call c_Lbent.G (hr.mono (by decide)) (by rfl) c_Lbent.m c_Lbent.k c_Lbent.b .nil pass0 (pa_cons (pv 0) (pa_cons (pe_ix (show IxR _ (rIxT K) from ix_tup) (pv 1) (pv 6) (fun _ _ => rfl)) pa_nil))) pa_nil))) (pe_slice sl_tupA (pv 1) (po_some (pe_op op_add (pv 6) pe_int)) po_none))))) pss_nil)
    (pss_cons (ps_set (i := 7) sc_Lbent.nd rfl (by first | exact .inl rfl | exact .inr rfl) (pe_lst (pa_cons (pe_op op_catA (pe_op op_catA (pe_slice sl_tupA (pv 1) po_none (po_some (pv 2))) (pe_tup (pa_cons (pv 3) pa_nil))) (pe_slice sl_tupA (pv 1) (po_some (pe_op op_add (pv 2) pe_int)) po_none)) (pa_cons (pe_op op_catA (pe_slice sl_tupA (pv 1) po_none (po_some (pv 2))) (pe_slice sl_tupA (pv 1) (po_some (pe_op op_add (pv 2) pe_int)) po_none)) (pa_cons (pe_op op_catA (pe_op op_catA (pe_slice sl_tupA (pv 1) po_none (po_some (pv 2))) (pe_tup (pa_cons (pv 3) pa_nil))) (pe_slice sl_tupA (pv 1) (po_some (pv 2)) po_none)) pa_nil)))))
    (pss_cons (ps_set (i := 7) sc_Lbent.nd rfl (by first | exact .inl rfl | exact .inr rfl) (pe_op op_cat (pv 7) (pe_lst (pa_cons (pe_callTy call_list_of (by rfl) n_list (by decide +kernel) (pa_cons (pv 1) pa_nil)) (pa_cons (pv 3) (pa_cons (Gd.pe_revT (pv 1)) (pa_cons (pe_op op_catA (pv 1) (pe_slice sl_tupA (pv 1) (po_some (pe_un un_neg pe_int)) po_none)) (pa_cons (pe_op op_catA (pv 1) (pv 1)) pa_nil))))))))
    (pss_one (ps_ret (pe_ix ix_list (pv 7) (pe_ix ix_list (pe_lst (pa_cons pe_int (pa_cons pe_int (pa_cons pe_int (pa_cons pe_int (pa_cons pe_int (pa_cons pe_int (pa_cons pe_int (pa_cons pe_int (pa_cons pe_int (pa_cons pe_int pa_nil))))))))))) (pe_call c_Ldigit.G (hr.mono (by decide)) (by rfl) c_Ldigit.m c_Ldigit.k c_Ldigit.b .nil pass0 (pa_cons (pv 0) (pa_cons pe_int pa_nil))) (fun _ _ => rfl)) (fun _ _ => rfl))))))))), ?_⟩
  have ln : ∀ {σ : L2.St} {B' : Hp}, Ex B B' → σ[1]? = some (some vt) → Ev (tCB (rLenS K) (tCons (tVar 1) tNil)) σ B' (.int ((ds.length : Nat) : Int)) := fun e h => ev_lenE (p_var h (de_m e hT)) (.inl rfl)
  refine b_seq (b_par (b_cons ?_))
  refine x_digit (z := ((ds.length + 1 : Nat) : Int)) k rfl (ev_is (ev_op (ln (Ex.refl B) rfl) ev_c rv_I0) (congrArg V.int (by omega))) (by omega) (by omega) (by omega) fun m1 H1 m10 m11 k1 g1 => b_cons (c_call (b_cons ⟨_, rfl, b_nil ⟨B, d, _, rfl, k1, by omega, fun od vo B3 H3 ho k3 g3 hv => b_nil ⟨_, _, rfl, ?_⟩⟩⟩))
  obtain ⟨i, rfl, hi⟩ : ∃ i : Nat, m1 = (i : Int) ∧ i ≤ ds.length := ⟨m1.toNat, by omega, by omega⟩
  dsimp only [gName, List.set_cons_succ, List.set_cons_zero]
  have hT3 := de_m g3.b hT
  have lc := p_lcS (te := tVar 5) (g := gName 5) (vs := [5]) (tt := tB (tCB (rIsi K) (tCons (tOp (rIxT K) (tVar 1) (tVar 5)) (tCons (tC (.ty "tuple")) tNil)))) (src_rng (j := ds.length) (t := tCons (tCB (rLenS K) (tCons (tVar 1) tNil)) tNil) (σ := [some (.ref d), some vt, some (.int (i : Nat)), some vo, none, none, none, none]) (B := B3) (q_cons (p_ev (ln g3.b rfl)) q_nil) (by omega)) (by omega) (fun j => isTu (ds.getD j .none)) (fun j => IsV (.int (j : Int))) fun j v5 B5 hj e5 pv => by
    obtain rfl : v5 = .int (j : Int) := pv
    have hjt : (ds.map (IsE K))[j]? = some (IsE K (ds.getD j .none)) := by
      rw [List.getElem?_map, List.getD_eq_getElem?_getD, List.getElem?_eq_getElem hj]
      rfl
    exact ⟨[some (.ref d), some vt, some (.int (i : Nat)), some vo, none, some (.int (j : Int)), none, none], rfl, fun H2 Q e q => q, et_B (ev_isTuE (p_ixT (K := K) (ps := ds.map (IsE K)) (p_var rfl (tu_e (de_m e5 hT3))) (p_varV rfl) (atI_nat hjt))), fun _ => p_varV rfl⟩
  refine b_seq (ps_asgN (fun v => [some (.ref d), some vt, some (.int (i : Nat)), some vo, some v, none, none, none]) k3.e lc (fun vi B4 H4 g4 hvi => ?_) (fun _ => rfl))
  have k4 := k3.gr g4
  have hT4 := de_m g4.b hT3
  have hv4 := (FeP K TxP od).m g4.b hv
  dsimp only
  have t1 := et_test (ev_neNil (K := K) (p_lq (p_var (σ := [some (.ref d), some vt, some (.int (i : Nat)), some vo, some vi, none, none, none]) (i := 4) rfl hvi)) (p_lq (p_lst (t := tNil) (ps := []) q_nil (by show 0 ≤ 100000; decide))))
  rw [List.isEmpty_map] at t1
  have hF4 := tu_e hT4
  have tk := tk_u K
  have rest : ∀ (x6 : Option V) (H9 : Hp) (m : Nat), Kx T d m B4 H9 → GX d B H B4 H9 → m ≤ n + 12 → ∀ D : Ends, D.rt = Q → (tSeq (tAsg (tLst (tCons (tOp (rCatA K) (tOp (rCatA K) (tSl (rSlA K) (tVar 1) tNoPart (tPart (tVar 2))) (tTup (tCons (tVar 3) tNil))) (tSl (rSlA K) (tVar 1) (tPart (tOp (rI0 fun i j => .int (i + j)) (tVar 2) (tC (.int 1)))) tNoPart)) (tCons (tOp (rCatA K) (tSl (rSlA K) (tVar 1) tNoPart (tPart (tVar 2))) (tSl (rSlA K) (tVar 1) (tPart (tOp (rI0 fun i j => .int (i + j)) (tVar 2) (tC (.int 1)))) tNoPart)) (tCons (tOp (rCatA K) (tOp (rCatA K) (tSl (rSlA K) (tVar 1) tNoPart (tPart (tVar 2))) (tTup (tCons (tVar 3) tNil))) (tSl (rSlA K) (tVar 1) (tPart (tVar 2)) tNoPart)) tNil)))) (gName 7)) (tSeq (tAsg (tOp rCat (tVar 7) (tLst (tCons (tCB (fun xs H Q => ∃ p ys, xs = [.ref p] ∧ (SqL K H p ys ∨ SqT K H p ys) ∧ ∀ l, H l = none → Q (.ref l) (upd H l (.lst ys))) (tCons (tVar 1) tNil)) (tCons (tVar 3) (tCons (tRevT K (tVar 1)) (tCons (tOp (rCatA K) (tVar 1) (tSl (rSlA K) (tVar 1) (tPart (tUn (rU fun i => .int (-i)) (tC (.int 1)))) tNoPart)) (tCons (tOp (rCatA K) (tVar 1) (tVar 1)) tNil))))))) (gName 7)) (tRet (tOp (rIxL K) (tVar 7) (tOp (rIxL K) (tLst (tCons (tC (.int 0)) (tCons (tC (.int 0)) (tCons (tC (.int 0)) (tCons (tC (.int 1)) (tCons (tC (.int 2)) (tCons (tC (.int 3)) (tCons (tC (.int 4)) (tCons (tC (.int 5)) (tCons (tC (.int 6)) (tCons (tC (.int 7)) tNil))))))))))) (tCall spDigit [] E0 (tCons (tVar 0) (tCons (tC (.int 10)) tNil)))))))) D [some (.ref d), some vt, some (.int (i : Nat)), some vo, some vi, none, x6, none] H9 := fun x6 H9 m k9 G9 hm D hD => by
    have t1 : ∀ {σ : L2.St}, σ[1]? = some (some vt) → EvP (tVar 1) σ B4 ((TuP K) (ds.map (IsE K))) := fun h => p_var h hF4
    have od1 : ∀ {σ : L2.St}, σ[3]? = some (some vo) → EvP (tTup (tCons (tVar 3) tNil)) σ B4 ((TuP K) [IsE K od]) := fun h => tk.lit (q_cons ((p_var h hv4).imp fun v B1 _ x => x.1) q_nil) (by show 1 ≤ 100000; decide)
    have at2 : ∀ {σ : L2.St}, σ[2]? = some (some (.int (i : Nat))) → Ev (tOp (rI0 fun i j => .int (i + j)) (tVar 2) (tC (.int 1))) σ B4 (.int ((i + 1 : Nat) : Int)) := fun h => ev_is (ev_op (ev_var h) ev_c rv_I0) (congrArg V.int (by omega))
    have l1 : ∀ j, ((ds.map (IsE K)).take j).length ≤ 100 := fun j => by rw [List.length_take, List.length_map]; omega
    have l2 : ∀ j, ((ds.map (IsE K)).drop j).length ≤ 100 := fun j => by rw [List.length_drop, List.length_map]; omega
    have l0 : (ds.map (IsE K)).length ≤ 100 := by rw [List.length_map]; exact hl
    let L1 : List PyData := [.tuple (ds.take i ++ [od] ++ ds.drop (i + 1)), .tuple (ds.take i ++ ds.drop (i + 1)), .tuple (ds.take i ++ [od] ++ ds.drop i)]
    let L4 : List PyData := [.list ds, od, .tuple ds.reverse, .tuple (ds ++ ds.drop (ds.length - 1)), .tuple (ds ++ ds)]
    refine b_seq (ps_asgN (fun v => [some (.ref d), some vt, some (.int (i : Nat)), some vo, some vi, none, x6, some v]) k9.e (p_lst (ps := L1.map (FeP K (TuP K))) (q_cons (f_tup tk (tk.cat (tk.cat (tk.to (t1 rfl) (ev_var rfl)) (od1 rfl) (by have := l1 i; show _ + 1 ≤ _; omega)) (tk.fr (t1 rfl) (at2 rfl)) (by rw [List.length_append]; have := l1 i; have := l2 (i + 1); show _ + 1 + _ ≤ _; omega)) (by simp)) (q_cons (f_tup tk (tk.cat (tk.to (t1 rfl) (ev_var rfl)) (tk.fr (t1 rfl) (at2 rfl)) (by have := l1 i; have := l2 (i + 1); omega)) (by simp)) (q_cons (f_tup tk (tk.cat (tk.cat (tk.to (t1 rfl) (ev_var rfl)) (od1 rfl) (by have := l1 i; show _ + 1 ≤ _; omega)) (tk.fr (t1 rfl) (ev_var rfl)) (by rw [List.length_append]; have := l1 i; have := l2 i; show _ + 1 + _ ≤ _; omega)) (by simp)) q_nil))) (by show 3 ≤ 100000; decide)) (fun v5 B5 H5 g5 h5 => ?_) (fun _ => rfl))
    have k5 := k9.gr g5
    have hF5 := ((TuP K) _).m g5.b hF4
    have hv5 := (FeP K TxP od).m g5.b hv4
    have t1 : ∀ {σ : L2.St}, σ[1]? = some (some vt) → EvP (tVar 1) σ B5 ((TuP K) (ds.map (IsE K))) := fun h => p_var h hF5
    dsimp only
    refine b_seq (ps_asgN (fun v => [some (.ref d), some vt, some (.int (i : Nat)), some vo, some vi, none, x6, some v]) k5.e (p_cat (ps := L1.map (FeP K (TuP K))) (qs := L4.map (FeP K (TuP K))) (p_var rfl h5) (p_lst (q_cons (f_lst (p_listU ((t1 rfl).imp fun v B1 _ x => tk.tu _ _ _ x)) rfl) (q_cons ((p_var rfl hv5).imp fun v B1 _ x => ⟨x.1, fun es e => tk.ix _ _ _ (x.2 es e)⟩) (q_cons (f_tup tk (tk.rv (t1 rfl)) (by simp)) (q_cons (f_tup tk (tk.cat (t1 rfl) (tk.la (t1 rfl) (ev_is (ev_un ev_c ru_neg) rfl)) (by have := l2 ((ds.map (IsE K)).length - 1); omega)) (by simp)) (q_cons (f_tup tk (tk.cat (t1 rfl) (t1 rfl) (by omega)) (by simp)) q_nil))))) (by show 5 ≤ 100000; decide)) (by show 3 + 5 ≤ 100000; decide)) (fun v6 B6 H6 g6 h6 => ?_) (fun _ => rfl))
    have k6 := k5.gr g6
    dsimp only
    refine b_ret (b_op ⟨_, rfl, ?_⟩)
    refine x_pickI (K := K) (ks := [0, 0, 0, 1, 2, 3, 4, 5, 6, 7]) k6 (q_cons p_c (q_cons p_c (q_cons p_c (q_cons p_c (q_cons p_c (q_cons p_c (q_cons p_c (q_cons p_c (q_cons p_c (q_cons p_c q_nil)))))))))) rfl rfl (by decide) (by decide) (by omega) fun j hj B7 H7 k7 g7 => ?_
    have hm : ∀ b ∈ [0, 0, 0, 1, 2, 3, 4, 5, 6, (7 : Int)], 0 ≤ b ∧ b < 8 := by decide
    obtain ⟨b0, b1⟩ := hm _ (List.getElem_mem hj)
    refine x_at k7.e ((LsP _).m g7.b h6) b0 b1 fun j2 p wv hj2 hw => ?_
    rw [← List.map_append, List.getElem?_map] at hj2
    obtain ⟨x, hx, rfl⟩ := Option.map_eq_some_iff.mp hj2
    have hx := List.mem_of_getElem? hx
    rw [hD]
    have bx : BentF ds x := by
      simp only [L1, L4, List.cons_append, List.nil_append, List.mem_cons, List.not_mem_nil, or_false] at hx
      rcases hx with rfl | rfl | rfl | rfl | rfl | rfl | rfl | rfl
      · exact BentF.put ho i (i + 1) (by omega)
      · exact BentF.of (by rw [List.length_append, List.length_take, List.length_drop]; omega) fun e he => by
          rcases List.mem_append.mp he with h | h
          · exact List.mem_of_mem_take h
          · exact List.mem_of_mem_drop h
      · exact BentF.put ho i i (by omega)
      · exact .inl ⟨ds, .inr rfl, by omega, fun e he => .inl he⟩
      · exact .inr ho
      · exact BentF.of (by rw [List.length_reverse]; omega) fun e he => List.mem_reverse.mp he
      · exact BentF.of (by rw [List.length_append, List.length_drop]; omega) fun e he => by
          rcases List.mem_append.mp he with h | h
          · exact h
          · exact List.mem_of_mem_drop h
      · exact BentF.of (by rw [List.length_append]; omega) fun e he => by
          rcases List.mem_append.mp he with h | h
          · exact h
          · exact h
    exact q x wv B7 H7 (.inl bx) (k7.le (by omega)) ((G9.trans ((GX.gr g5).trans (GX.gr g6))).trans g7) hw.1
  have G4 := (g1.trans g3).trans (GX.gr g4)
  cases hin : ((List.range ds.length).filter fun j => isTu (ds.getD j .none)) with
  | nil =>
    rw [hin] at t1
    refine b_seq (ps_ifN k4.e (et_is (et_and (a := false) (b := false) t1 (fun z => nomatch z)) rfl) fun H5 e5 => ?_)
    exact rest none H5 _ (k4.ex e5) (G4.trans (GX.ex e5)) (by omega) _ rfl
  | cons a0 l0 =>
    have hlen : ((List.range ds.length).filter fun j => isTu (ds.getD j .none)).length ≤ 100 := Nat.le_trans (List.length_filter_le _ _) (by rw [List.length_range]; exact hl)
    have t1' : EvT _ [some (.ref d), some vt, some (.int (i : Nat)), some vo, some vi, none, none, none] B4 true := et_is t1 (by rw [hin]; rfl)
    refine b_seq (b_ifAnd t1' k4.e fun H5 e5 => b_ifOp ?_)
    refine x_digit (z := 2) (k4.ex e5) rfl ev_c (by decide) (by decide) (by omega) fun m H6 m0 m1 k6 g6 => ⟨m, 0, rfl, rfl, _, rfl, ?_⟩
    have G6 := (G4.trans (GX.ex e5)).trans g6
    by_cases hm : (0 : Int) < m
    · rw [if_pos (_root_.decide_eq_true hm)]
      refine b_seq (b_asg (b_op ⟨_, rfl, ?_⟩))
      refine x_digit (z := ((((List.range ds.length).filter fun j => isTu (ds.getD j .none)).map fun j => IsV (.int ((j : Nat) : Int))).length : Nat)) k6 rfl (ev_lenQ (K := K) (p_lq (p_var (i := 4) rfl hvi))) (by rw [List.length_map, hin, List.length_cons]; omega) (by rw [List.length_map]; omega) (by omega) fun m2 H7 m20 m21 k7 g7 => ?_
      refine x_at k7.e hvi m20 m21 fun j2 p w6 hj2 hw6 => ?_
      rw [List.getElem?_map] at hj2
      obtain ⟨j, hj, rfl⟩ := Option.map_eq_some_iff.mp hj2
      obtain rfl : w6 = .int ((j : Nat) : Int) := hw6
      have hjm := List.mem_filter.mp (List.mem_of_getElem? hj)
      have hjl := List.mem_range.mp hjm.1
      obtain ⟨es, hes⟩ : ∃ es, ds[j] = .tuple es := by
        have := hjm.2
        rw [List.getD_eq_getElem?_getD, List.getElem?_eq_getElem hjl, Option.getD_some] at this
        revert this
        cases ds[j] <;> first | (intro _; exact ⟨_, rfl⟩) | (intro h; exact absurd h (by simp [isTu]))
      have hje : ds[j]? = some (.tuple es) := by rw [List.getElem?_eq_getElem hjl, hes]
      have hfe := hfl es (List.mem_of_getElem? hje)
      have hjt : (ds.map (IsE K))[j]? = some (IsE K (.tuple es)) := by
        rw [List.getElem?_map, hje]
        rfl
      dsimp only [gName, List.set_cons_succ, List.set_cons_zero]
      refine b_ret (x_put (K := K) (R := BentF es) (m := n + 4 + 4 + 4 + 4 + 20) k7 rfl hT4 rfl (by omega) (fun B6 H8 Q' k8 g8 st => ?_) fun x vr B' H' hx k' g' hv => ?_)
      · refine c_call (b_cons ⟨_, rfl, b_cons ?_⟩)
        refine p_ixT (K := K) (ps := ds.map (IsE K)) (σ := [some (.ref d), some vt, some (.int (i : Nat)), some vo, some vi, none, some (.int ((j : Nat) : Int)), none]) (p_var rfl (tu_e (de_m g8.b hT4))) (p_varV rfl) (atI_nat hjt) H8 k8.e _ fun v9 B9 H9 g9 hv9 => b_nil ?_
        exact ⟨B9, d, _, es, v9, rfl, tu_e hv9, hfe.1, hfe.2, k8.gr g9, by omega, fun x vx B2 H2 hx k2 g2 hvx => st x vx B2 H2 hx (k2.le (by omega)) ((GX.gr g9).trans g2) hvx.1⟩
      · exact q _ vr B' H' (.inr ⟨j, es, x, hje, hx, rfl⟩) (k'.le (by omega)) ((G6.trans g7).trans g') hv
    · rw [if_neg (by simpa using hm)]
      exact rest none H6 _ k6 G6 (by omega) _ rfl

end
end K12
namespace Nd
set_option autoImplicit false
open PySem PySem.Spec PySem.W PyProof.Rows L2 My Evl LamX NdefX
/-! ### x is True, x is False -/
def rIsBl : R2 := fun x y H Q => ∃ b, y = V.bl b ∧ Q (.bl (decide (x = V.bl b))) H
theorem op_isBlo {X : Cx} : OpR X (compareOp .Is) rIsBl := by
  intro pins s σ H x y v u Q I rx ry h
  obtain ⟨b, rfl, q⟩ := h
  cases (show u = Value.bool b from ry)
  have key : plainIs v (.bool b) = true ∧ (v == Value.bool b) = decide (x = V.bl b) := by
    cases x <;> first
      | (cases rx; exact ⟨rfl, rfl⟩)
      | (obtain ⟨t, rfl⟩ := rx; exact ⟨rfl, rfl⟩)
      | (rename_i c; cases (show v = Value.bool c from rx); cases c <;> cases b <;> exact ⟨rfl, rfl⟩)
  exact wpAny_is_plain key.1 (fin_bl I q key.2.symm)
def rNotBl : R2 := fun x y H Q => ∃ b, y = V.bl b ∧ Q (.bl (!decide (x = V.bl b))) H
theorem op_notBlo {X : Cx} : OpR X (compareOp .IsNot) rNotBl := by
  intro pins s σ H x y v u Q I rx ry h
  obtain ⟨b, rfl, q⟩ := h
  cases (show u = Value.bool b from ry)
  have key : plainIs v (.bool b) = true ∧ (v == Value.bool b) = decide (x = V.bl b) := by
    cases x <;> first
      | (cases rx; exact ⟨rfl, rfl⟩)
      | (obtain ⟨t, rfl⟩ := rx; exact ⟨rfl, rfl⟩)
      | (rename_i c; cases (show v = Value.bool c from rx); cases c <;> cases b <;> exact ⟨rfl, rfl⟩)
  exact wpAny_isNot_plain key.1 (fin_bl I q (by rw [key.2]))
theorem ev_isB {te : TE} {σ : L2.St} {B : Hp} {b c : Bool} (h : Ev te σ B (.bl b)) : Ev (tOp rIsBl te (tC (.bl c))) σ B (.bl (decide (b = c))) := fun H1 a Q k =>
  h H1 a _ fun H2 e => ⟨c, rfl, by
    rw [show decide (V.bl b = V.bl c) = decide (b = c) from decide_eq_decide.mpr ⟨fun z => by cases z; rfl, fun z => by rw [z]⟩]
    exact k H2 e⟩
theorem ev_notB {te : TE} {σ : L2.St} {B : Hp} {b c : Bool} (h : Ev te σ B (.bl b)) : Ev (tOp rNotBl te (tC (.bl c))) σ B (.bl (!decide (b = c))) := fun H1 a Q k =>
  h H1 a _ fun H2 e => ⟨c, rfl, by
    rw [show decide (V.bl b = V.bl c) = decide (b = c) from decide_eq_decide.mpr ⟨fun z => by cases z; rfl, fun z => by rw [z]⟩]
    exact k H2 e⟩
def wordD : Option Str → PyData
  | none => .none
  | some x => .str x
def dueD (w : Option Str) : PyData := .list [.str "ranking", wordD w]
theorem to_due {K : PySem.W.Frag} (w : Option Str) : To K (dueP (some w)) (dueD w) := to_lst (.cons to_str (.cons (by cases w with | none => exact to_non | some x => exact to_str) .nil))
theorem due_w {d : PyData} {w : Option Str} (h : rkDue d = some w) : w ∈ [none, some ("sort" : Str), some "names", some "axes"] := by
  unfold rkDue at h
  split at h
  · cases h; simp
  · split at h
    · cases h; simp
    · split at h
      · cases h; simp
      · split at h
        · cases h; simp
        · cases h
theorem due_sh : ∀ w ∈ [none, some ("sort" : Str), some "names", some "axes"], SeqAt.shaped (.list (List.replicate 6 (dueD w))) = true ∧ PyData.eqv (.list (List.replicate 6 (dueD w))) (.list (List.replicate 6 (dueD w))) = true := by decide +kernel
end Nd
namespace K12
set_option autoImplicit false
open PySem PySem.Spec PySem.W PyProof.Rows L2 Evl My Nd LamX NdefX
/-- a list under way, beside what is known -/
structure Ls (T : List (Addr × Str)) (d : Addr) (n : Nat) (B0 H0 B H : Hp) (l : Addr) (ps : List Pr) : Prop where
  k : Kx T d n B H
  g : GX d B0 H0 B H
  f : H0 l = none
  h : ∃ xs, H l = some (.lst xs) ∧ AllP ps xs B
  b : B l = none
  n : l ≠ d
section
variable {T : List (Addr × Str)} {d l : Addr} {n m : Nat} {B0 H0 B H B' H' : Hp} {ps qs : List Pr} {p : Pr} {xs : List V} {v : V} {D : Ends} {σ : L2.St} {te : TE} {K : PySem.W.Frag} {i : Nat}
theorem Ls.new (k : Kx T d n B H) (g : GX d B0 H0 B H) (hf : H0 l = none) (hl : H l = none) (al : AllP ps xs B) : Ls T d n B0 H0 B (upd H l (.lst xs)) l ps := ⟨k.ex (Ex.new hl), g.trans (GX.ex (Ex.new hl)), hf, ⟨xs, upd_same, al⟩, fresh_back k.e hl, fun e => k.s.ne0 (e ▸ hl)⟩
theorem Ls.gx (t : Ls T d n B0 H0 B H l ps) (k : Kx T d m B' H') (g : GX d B H B' H') : Ls T d m B0 H0 B' H' l ps := by
  obtain ⟨_, g0, hf, ⟨xs, h1, h2⟩, h3, h4⟩ := t
  exact ⟨k, g0.trans g, hf, ⟨xs, g.a l _ h4 h1 (fun _ z => nomatch z), h2.m g.b⟩, g.f l _ h4 h3 h1 (fun _ z => nomatch z), h4⟩
/-- l.append(e) -/
theorem Ls.app (t : Ls T d n B0 H0 B H l ps) (hs : σ[i]? = some (some (.ref l))) (hl : ps.length < 1000) (he : ∀ Q : VK, (∀ v B' H', Kx T d m B' H' → GX d B H B' H' → p.P v B' → Q v H') → te σ H Q) (q : ∀ B' H', Ex B B' → Ls T d m B0 H0 B' H' l (ps ++ [p]) → D.nx σ H') : tDrop (tBM K "list" rAppend (tVar i) (tCons te tNil)) D σ H := by
  obtain ⟨xs0, h10, _⟩ := t.h
  refine ⟨.ref l, hs, .inl ⟨rfl, xs0, sq_of h10⟩, he _ fun v B' H' k g hv => ?_⟩
  obtain ⟨k2, g2, hf, ⟨xs, h1, h2⟩, h3, h4⟩ := t.gx k g
  have hlen := h2.len
  refine ⟨l, xs, v, rfl, rfl, h1, sz_of (by omega), q B' _ g.b ⟨?_, ?_, hf, ⟨_, upd_same, h2.app ⟨hv, trivial⟩⟩, h3, h4⟩⟩
  · exact ⟨Ex.mut k2.e h3, k2.nt, tabs_lst k2.t h1, k2.z, k2.s.upd h4.symm⟩
  · exact g2.lst hf
theorem Ls.fin (t : Ls T d n B0 H0 B H l ps) : ∃ B', Kx T d n B' H ∧ GX d B0 H0 B' H ∧ Ex B B' ∧ (LsP ps).P (.ref l) B' := by
  obtain ⟨k, g, hf, ⟨xs, h1, h2⟩, h3, h4⟩ := t
  have e : Ex B (L2.upd B l (.lst xs)) := Ex.new h3
  refine ⟨_, ⟨fun b o eb => ?_, (show NoTab (L2.upd B l (.lst xs)) from nt_upd k.nt (fun _ z => nomatch z)), k.t, by rw [upd_ne h4.symm]; exact k.z, k.s⟩, ⟨g.a, g.b.trans e, fun x o n0 hb hh z => ?_⟩, e, ⟨l, xs, rfl, upd_same, h2.m e⟩⟩
  · by_cases z : b = l
    · subst z
      rw [upd_same] at eb
      rw [h1]
      exact eb
    · rw [upd_ne z] at eb
      exact k.e b o eb
  · rw [upd_ne (fun e => by subst e; rw [hf] at hh; cases hh)]
    exact g.f x o n0 hb hh z
end
theorem b_lst {tx : TA} {σ : L2.St} {H : Hp} {Q : VK} (h : tx σ H fun xs H1 => xs.length ≤ sizeLine ∧ ∀ p, H1 p = none → Q (.ref p) (upd H1 p (.lst xs))) : tLst tx σ H Q := h
/-- of what is no ranking -/
def spBad (K : PySem.W.Frag) (T : List (Addr × Str)) : Sp := fun vs H Q _ => ∃ (B : Hp) (d : Addr) (n : Nat) (b : PyData) (w : Option Str) (vb vr va : V), vs = [vb, vr, va] ∧ De K B vb b ∧ RkW b ∧ rkDue b = some w ∧ Kx T d n B H ∧ ∀ (B' H' : Hp), Kx T d n B' H' → GX d B H B' H' → Q (.bl true) H'
section
variable {P : Program} {w : World} {K : PySem.W.Frag} {mg : Str → Option Value} {base : Heap} {T : List (Addr × Str)}

/-- _law_bad_right -/
abbrev s_Lbad_right : Stmt := topS 75
abbrev N_Lbad_right : List Str := ["_law_bad", "_law_by_here", "_law_a", "_law_due_here", "_law_told_here"]
theorem sc_Lbad_right : FnScope N_Lbad_right ["_law_bad", "_law_by_here", "_law_a"] (defScope s_Lbad_right) := ⟨rfl, rfl, rfl, by decide +kernel, rfl, by decide +kernel, by decide +kernel⟩
theorem ok_Lbad_right {f c tb : Addr} {fd : FuncData} (F : FunC K "_law_bad_right" "_law_bad_right" s_Lbad_right c f fd) {cx : Nat → Addr} {f_Ldue : Addr} {d_Ldue : FuncData} (c_Ldue : Cal P w K mg base "_law_due" 3 ["_law_it"] (spP (RdueR K)) f_Ldue d_Ldue) {f_need_ranking : Addr} {d_need_ranking : FuncData} (c_need_ranking : CalX P w K mg base "need_ranking" 4 ["ranking"] (spO (RrkG K (cx 2))) f_need_ranking d_need_ranking) {f_is_of : Addr} {d_is_of : FuncData} (c_is_of : CalX P w K mg base "is_of" 5 ["ranking", "thing"] (spO (RisO K (cx 2))) f_is_of d_is_of) {f_holds_of : Addr} {d_holds_of : FuncData} (c_holds_of : CalX P w K mg base "holds_of" 10 ["ranking", "thing"] (spO (RhoO K (cx 2))) f_holds_of d_holds_of) {f_rank_compared : Addr} {d_rank_compared : FuncData} (c_rank_compared : CalX P w K mg base "rank_compared" 6 ["ranking", "one", "other"] (spO (RrcO K (cx 2) (cx 13))) f_rank_compared d_rank_compared) {f_in_rank : Addr} {d_in_rank : FuncData} (c_in_rank : CalX P w K mg base "in_rank" 6 ["ranking", "some"] (spOT T (RirO K (cx 2) (cx 13))) f_in_rank d_in_rank) {f_all_to : Addr} {d_all_to : FuncData} (c_all_to : CalX P w K mg base "all_to" 6 ["ranking", "order"] (spOT T (RatO K (cx 2) (cx 13))) f_all_to d_all_to) {f_is_ranking : Addr} {d_is_ranking : FuncData} (c_is_ranking : Cal P w K mg base "is_ranking" 5 ["thing"] (spP (RkB K)) f_is_ranking d_is_ranking) {f_Lkinds : Addr} {d_Lkinds : FuncData} (c_Lkinds : Cal P w K mg base "_law_kinds" 1 ["_law_error"] (spKinds cx) f_Lkinds d_Lkinds)  {f_Ltold : Addr} {d_Ltold : FuncData} (F_Ltold : Fun K "_law_told" "_law_told" s_Ltold f_Ltold d_Ltold) (m_Ltold : mg "_law_told" = some (.ref f_Ltold)) (k_Ltold : PySem.W.keepIn K (.ref f_Ltold) = true) (b_Ltold : L2.Binds K d_Ltold ["_law_deed"] []) (Tx : XT K mg cx) (hx : ∀ i, i < 16 → (kb i).getD 16 false = true → PySem.W.exmOne K (.ref (cx i)) (.ref (cx 16)) = some true) (TB : TabB base mg c tb) (hT : TO T tb "_law_bad_right.<locals>.<lambda>") :
    FnOk P w K mg base CX0 14 f fd ["_law_bad", "_law_by_here", "_law_a"] (spBad K T) := by
  refine F.ok sc_Lbad_right (fun vs H Q E h => by obtain ⟨_, _, _, _, _, _, _, _, rfl, _⟩ := h; rfl) (fun A outer s H vs Q E hr h => ?_)
  obtain ⟨B, d, n, b, w0, vb, vr, va, rfl, hb, hw, hdue, k, q⟩ := h
  have hu := hu_of hr
  refine ⟨_, (pss_cons (ps_set (i := 3) sc_Lbad_right.nd rfl (by first | exact .inl rfl | exact .inr rfl) (pe_call c_Ldue.G (hr.mono (by decide)) (by rfl) c_Ldue.m c_Ldue.k c_Ldue.b .nil pass0 (pa_cons (pv 0) pa_nil)))
    (pss_cons (ps_set (i := 4) sc_Lbad_right.nd rfl (by first | exact .inl rfl | exact .inr rfl) (pe_lst (pa_cons (pe_told (T := T) (k := 11) (t := fun E => tCallS (spO (RrkG K (cx 2))) (WE fun cls d _ H => E cls d H) _) F_Ltold m_Ltold k_Ltold b_Ltold Tx hx c_Lkinds TB rfl hT (hr.mono (by decide)) (by decide) (by rfl) (lamS_by (sc := defScope s_Lbad_right) (by decide +kernel)) rfl (fun _ _ _ _ _ => rfl)
      (fun A' outer' s0 H0 E0 f' c' hr' => pe_callS c_need_ranking.G (hr'.mono (by decide)) (by rfl) c_need_ranking.m c_need_ranking.k c_need_ranking.b (fun σ => passAt (L2.takes_of rfl rfl rfl rfl) σ) (pa_cons (pv 0) pa_nil))) pa_nil)))
    (pss_cons (ps_expr (pe_bm PySem.F.plainAttrs_list PySem.F.slot_list_append PySem.F.type_list_append mt_append (pv 4) (pa_cons (pe_told (T := T) (k := 11) (t := fun E => tCallS (spO (RisO K (cx 2))) (WE fun cls d _ H => E cls d H) _) F_Ltold m_Ltold k_Ltold b_Ltold Tx hx c_Lkinds TB rfl hT (hr.mono (by decide)) (by decide) (by rfl) (lamS_by (sc := defScope s_Lbad_right) (by decide +kernel)) rfl (fun _ _ _ _ _ => rfl)
      (fun A' outer' s0 H0 E0 f' c' hr' => pe_callS c_is_of.G (hr'.mono (by decide)) (by rfl) c_is_of.m c_is_of.k c_is_of.b (fun σ => passAt (L2.takes_of rfl rfl rfl rfl) σ) (pa_cons (pv 0) (pa_cons pe_non pa_nil)))) pa_nil)))
    (pss_cons (ps_expr (pe_bm PySem.F.plainAttrs_list PySem.F.slot_list_append PySem.F.type_list_append mt_append (pv 4) (pa_cons (pe_told (T := T) (k := 11) (t := fun E => tCallS (spO (RhoO K (cx 2))) (WE fun cls d _ H => E cls d H) _) F_Ltold m_Ltold k_Ltold b_Ltold Tx hx c_Lkinds TB rfl hT (hr.mono (by decide)) (by decide) (by rfl) (lamS_by (sc := defScope s_Lbad_right) (by decide +kernel)) rfl (fun _ _ _ _ _ => rfl)
      (fun A' outer' s0 H0 E0 f' c' hr' => pe_callS c_holds_of.G (hr'.mono (by decide)) (by rfl) c_holds_of.m c_holds_of.k c_holds_of.b (fun σ => passAt (L2.takes_of rfl rfl rfl rfl) σ) (pa_cons (pv 0) (pa_cons (pv 2) pa_nil)))) pa_nil)))
    (pss_cons (ps_expr (pe_bm PySem.F.plainAttrs_list PySem.F.slot_list_append PySem.F.type_list_append mt_append (pv 4) (pa_cons (pe_told (T := T) (k := 11) (t := fun E => tCallS (spO (RrcO K (cx 2) (cx 13))) (WE fun cls d _ H => E cls d H) _) F_Ltold m_Ltold k_Ltold b_Ltold Tx hx c_Lkinds TB rfl hT (hr.mono (by decide)) (by decide) (by rfl) (lamS_by (sc := defScope s_Lbad_right) (by decide +kernel)) rfl (fun _ _ _ _ _ => rfl)
      (fun A' outer' s0 H0 E0 f' c' hr' => pe_callS c_rank_compared.G (hr'.mono (by decide)) (by rfl) c_rank_compared.m c_rank_compared.k c_rank_compared.b (fun σ => passAt (L2.takes_of rfl rfl rfl rfl) σ) (pa_cons (pv 0) (pa_cons (pv 2) (pa_cons pe_non pa_nil))))) pa_nil)))
    (pss_cons (ps_expr (pe_bm PySem.F.plainAttrs_list PySem.F.slot_list_append PySem.F.type_list_append mt_append (pv 4) (pa_cons (pe_told (T := T) (k := 11) (t := fun E => tCallS (spOT T (RirO K (cx 2) (cx 13))) (WE fun cls d _ H => E cls d H) _) F_Ltold m_Ltold k_Ltold b_Ltold Tx hx c_Lkinds TB rfl hT (hr.mono (by decide)) (by decide) (by rfl) (lamS_by (sc := defScope s_Lbad_right) (by decide +kernel)) rfl (fun _ _ _ _ _ => rfl)
      (fun A' outer' s0 H0 E0 f' c' hr' => pe_callS c_in_rank.G (hr'.mono (by decide)) (by rfl) c_in_rank.m c_in_rank.k c_in_rank.b (fun σ => passAt (L2.takes_of rfl rfl rfl rfl) σ) (pa_cons (pv 0) (pa_cons pe_int pa_nil)))) pa_nil)))
    (pss_cons (ps_expr (pe_bm PySem.F.plainAttrs_list PySem.F.slot_list_append PySem.F.type_list_append mt_append (pv 4) (pa_cons (pe_told (T := T) (k := 11) (t := fun E => tCallS (spOT T (RatO K (cx 2) (cx 13))) (WE fun cls d _ H => E cls d H) _) F_Ltold m_Ltold k_Ltold b_Ltold Tx hx c_Lkinds TB rfl hT (hr.mono (by decide)) (by decide) (by rfl) (lamS_by (sc := defScope s_Lbad_right) (by decide +kernel)) rfl (fun _ _ _ _ _ => rfl)
      (fun A' outer' s0 H0 E0 f' c' hr' => pe_callS c_all_to.G (hr'.mono (by decide)) (by rfl) c_all_to.m c_all_to.k c_all_to.b (fun σ => passAt (L2.takes_of rfl rfl rfl rfl) σ) (pa_cons (pv 0) (pa_cons pe_non pa_nil)))) pa_nil)))
    (pss_one (ps_ret (pe_and (pe_cmpR (show OpR _ (compareOp .Eq) (rEqD K) from op_eqD hr.units) (pv 4) (pe_op op_rep (pe_lst (pa_cons (pv 3) pa_nil)) pe_int) (nomark _)) (pe_one (pe_cmpR op_isBlo (pe_call c_is_ranking.G (hr.mono (by decide)) (by rfl) c_is_ranking.m c_is_ranking.k c_is_ranking.b .nil pass0 (pa_cons (pv 0) pa_nil)) pe_bl (nomark _))))))))))))), ?_⟩
  have hd := hb
  have bk : ∀ {v : V} {B' : Hp}, Ex B B' → De K B' vb b := fun {_ _} e => de_m e hd
  refine b_seq (ps_asgN (fun v => [some vb, some vr, some va, some v, none]) k.e (p_callP (R := RdueR K) (p := dueP (rkDue b)) (ps := [IsE K b]) (q_cons (p_var (i := 0) (p := IsE K b) rfl hd) q_nil) ⟨_, b, to_idE, hw.a, hw.l, rfl, rfl⟩) (fun vd B1 H1 g1 hvd => ?_) (fun _ => rfl))
  have k1 := k.gr g1
  rw [hdue] at hvd
  dsimp only
  have bad : ∀ {B' : Hp}, BadRk K (IsE K b) w0 := fun {_} => ⟨b, to_idE, hw.h, hdue⟩
  have fl : ∀ f, fldOf 2 = some f → ∃ p, [(("place" : Str), wordP w0)] = [(f, p)] := fun f e => by
    obtain rfl : ("place" : Str) = f := Option.some.inj e
    exact ⟨_, rfl⟩
  refine b_seq (b_asg (b_lst (b_cons ?_)))
  refine x_told k1.kn (ps := [IsE K b]) (i := 2) (fs := [("place", wordP w0)]) (q_cons (p_var (i := 0) (p := IsE K b) rfl (de_m g1.b hd)) q_nil) (rk_bad (bad (B' := B))) (by decide) (by decide) fl fun v1 B2 H2 g2 h1 => b_nil ⟨by show 1 ≤ sizeLine; decide, fun l hl => ?_⟩
  have k2 := k1.gt g2
  have G2 : GX d B H B2 H2 := (GX.gr g1).trans (GX.gt g2)
  have t := Ls.new (xs := [v1]) (ps := [dueP (some w0)]) k2 GX.refl hl hl ⟨h1, trivial⟩
  have e2 : Ex B B2 := g1.b.trans g2.b
  have hvd2 := (dueP (some w0)).m g2.b hvd
  generalize upd H2 l (.lst [v1]) = H3 at t ⊢
  dsimp only [gName, List.set_cons_succ, List.set_cons_zero]
  have app : ∀ {te : TE} {ps : List Pr} {B3 H3 : Hp} (D : Ends), Ls T d n B2 H2 B3 H3 l ps → ps.length < 1000 → (∀ Q : VK, (∀ v B' H', GT T B3 H3 B' H' → (dueP (some w0)).P v B' → Q v H') → te [some vb, some vr, some va, some vd, some (.ref l)] H3 Q) → (∀ B' H', Ex B3 B' → Ls T d n B2 H2 B' H' l (ps ++ [dueP (some w0)]) → D.nx [some vb, some vr, some va, some vd, some (.ref l)] H') → tDrop (tBM K "list" rAppend (tVar 4) (tCons te tNil)) D [some vb, some vr, some va, some vd, some (.ref l)] H3 := fun {_ _ _ _} D t hl he q => t.app rfl hl (fun Q q2 => he Q fun v B' H' g hv => q2 v B' H' (t.k.gt g) (GX.gt g) hv) q
  refine b_seq (app _ t (by show 1 < 1000; decide) (fun Q2 qq => x_told t.k.kn (ps := [IsE K b, IsV .non]) (i := 2) (fs := [("place", wordP w0)]) (q_cons (p_var (i := 0) (p := IsE K b) rfl (de_m e2 hd)) (q_cons p_c q_nil)) (.inr ⟨_, _, _, bad (B' := B), rfl, rfl⟩) (by decide) (by decide) fl qq) fun B3 H4 e13 t3 => ?_)
  have e3 := e2.trans e13
  refine b_seq (app _ t3 (by show 2 < 1000; decide) (fun Q2 qq => x_told t3.k.kn (ps := [IsE K b, AnyP]) (i := 2) (fs := [("place", wordP w0)]) (q_cons (p_var (i := 0) (p := IsE K b) rfl (de_m e3 hd)) (q_cons (p_var (i := 2) (p := AnyP) rfl trivial) q_nil)) (.inr ⟨_, _, _, bad (B' := B), rfl, rfl⟩) (by decide) (by decide) fl qq) fun B4 H5 e14 t4 => ?_)
  have e4 := e3.trans e14
  refine b_seq (app _ t4 (by show 3 < 1000; decide) (fun Q2 qq => x_told t4.k.kn (ps := [IsE K b, AnyP, IsV .non]) (i := 2) (fs := [("place", wordP w0)]) (q_cons (p_var (i := 0) (p := IsE K b) rfl (de_m e4 hd)) (q_cons (p_var (i := 2) (p := AnyP) rfl trivial) (q_cons p_c q_nil))) (.inr (.inr ⟨_, _, _, _, bad (B' := B), rfl, rfl⟩)) (by decide) (by decide) fl qq) fun B5 H6 e15 t5 => ?_)
  have e5 := e4.trans e15
  refine b_seq (app _ t5 (by show 4 < 1000; decide) (fun Q2 qq => x_toldT t5.k.kn (ps := [IsE K b, IsV (.int 5)]) (i := 2) (fs := [("place", wordP w0)]) (q_cons (p_var (i := 0) (p := IsE K b) rfl (de_m e5 hd)) (q_cons p_c q_nil)) (.inr (.inr ⟨_, _, _, bad (B' := B), rfl, rfl⟩)) (by decide) (by decide) fl qq) fun B6 H7 e16 t6 => ?_)
  have e6 := e5.trans e16
  refine b_seq (app _ t6 (by show 5 < 1000; decide) (fun Q2 qq => x_toldT t6.k.kn (ps := [IsE K b, IsV .non]) (i := 2) (fs := [("place", wordP w0)]) (q_cons (p_var (i := 0) (p := IsE K b) rfl (de_m e6 hd)) (q_cons p_c q_nil)) (.inr ⟨_, _, _, bad (B' := B), rfl, rfl⟩) (by decide) (by decide) fl qq) fun B7 H8 e17 t7 => ?_)
  have e7 := e6.trans e17
  obtain ⟨B9, k9, g9, e19, hL⟩ := t7.fin
  have e9 := e7.trans e19
  have hL : (LsP (List.replicate 6 (dueP (some w0)))).P (.ref l) B9 := hL
  have hvd9 := (dueP (some w0)).m ((((e13.trans e14).trans (e15.trans e16)).trans e17).trans e19) hvd2
  obtain ⟨sh, eq⟩ := due_sh w0 (due_w hdue)
  have cmp := ev_eqD (K := K) (σ := [some vb, some vr, some va, some vd, some (.ref l)]) (B := B9) (d := .list (List.replicate 6 (dueD w0))) (e := .list (List.replicate 6 (dueD w0))) (p_to (p_var (i := 4) rfl hL) (to_lst (toAll_map (List.replicate 6 w0) fun w => to_due w))) (p_to (p_rep (ps := [dueP (some w0)]) (n := 6) (p_lst (q_cons (p_var (i := 3) rfl hvd9) q_nil) (by show 1 ≤ 100000; decide)) p_c (by decide) (by show 1 * 6 ≤ 100000; decide)) (to_lst (toAll_map (List.replicate 6 w0) fun w => to_due w))) sh sh
  rw [eq] at cmp
  refine My.ps_ret k9.e (p_ev (v := .bl true) (ev_is (ev_andV (a := true) (b := true) cmp fun _ => ev_is (ev_isB (b := (rkDue b).isNone) (c := false) (ev_p (p_callP (R := RkB K) (p := IsV (.bl (rkDue b).isNone)) (ps := [IsE K b]) (q_cons (p_var (i := 0) (p := IsE K b) rfl (de_m e9 hd)) q_nil) ⟨_, b, to_idE, hw.h, rfl, rfl⟩))) (by rw [hdue]; rfl)) rfl)) fun v B10 H10 g10 hv => ?_
  obtain rfl : v = .bl true := hv
  exact q B10 H10 (k9.gr g10) ((G2.trans g9).trans (GX.gr g10))

end
end K12
namespace Gd
set_option autoImplicit false
open PySem PySem.Spec PyProof.Rows L2 LamX My
theorem okGC {P : Program} {w : World} {K : PySem.W.Frag} {mg : Str → Option Value} {base : Heap} {k : Nat} {f c : Addr} {fd : FuncData} {ps : List Str} {sp : Sp} {x qual : Str} {st : Stmt} {N : List Str} (F : Nd.FunC K x qual st c f fd) (S : FnScope N ps (defScope st)) (len : ∀ vs H Q E, sp vs H Q E → vs.length = ps.length)
    (go : ∀ (A : Around) (outer : List Env) (s : Shared) (H : Hp) (vs : List V) (Q : VK) (E : XK), Room k (A.deeper (envOfC qual (defScope st) s.heap.objs.size f (.ref c))) → (A.deeper (envOfC qual (defScope st) s.heap.objs.size f (.ref c))).guards = some [] → sp vs H Q E →
      ∃ t, PSs (cxOf CX0 P w K mg base N qual (defScope st) f (.ref c) A outer s H E).nox (defBody st) t ∧ t { nx := fun _ H' => Q .non H', rt := Q } (start N vs) H) : FnG P w K mg base (k + 1) f fd ps sp := by
  obtain ⟨oc, od, kV, doc, pm, an, ct, osl, rfl, lk, hcd⟩ := F.ex
  exact fnG_of lk hcd S len fun A outer s H vs Q E hr hg hsp => let ⟨t, h1, h2⟩ := go A outer s H vs Q E hr hg hsp; ⟨t, h1.nox, h2⟩
end Gd
namespace Gd
set_option autoImplicit false
open PySem PySem.Spec PyProof.Rows L2 LamX My Evl Nd
section
variable {X : Cx} {k n : Nat} {f : Addr} {fd : FuncData} {ps ks : List Str} {sp : Sp} {E : XK} {x : Str} {p pos : Pos} {kws : List Keyword} {tk : TA} {g : List Value → List Value → List Value} {gV : List V → List V → List V} {CX : CXT}
/-- f(k = v, ..), keywords alone, of a def that may raise too -/
theorem pe_callN0X (F : FnOk X.prog X.w X.K X.mg X.base CX k f fd ps sp) (hr : Room k X.A) (hg : Gl X x) (hm : X.mg x = some (.ref f)) (hk : PySem.W.keepIn X.K (.ref f) = true) (hb : KBn X.K fd ps 0 ks g gV) (hx : Passes CX X E) (hkw : PK X kws tk)
    (hall : (backToKw pos (keywordEach kws X.env)).all (·.1.isSome) = true := by rfl) (hks : (backToKw pos (keywordEach kws X.env)).filterMap (·.1) = ks := by rfl) (hdb : (x == ("__debug__" : Str)) = false := by decide)
    (hpl : ((backTo pos (starEach [] X.env)).any (·.1) || (backToKw pos (keywordEach kws X.env)).any (·.1.isNone)) = false := by rfl) : PE X (.Call (.Name x p) [] kws pos) (tCallN 0 ks.length sp gV E tNil tk) :=
  ⟨fun pins s σ H Q I h => wpAny_Call_Name_kw (ld_glob I hg hm (PySem.W.callWith_KW0 (h₀ := X.base) I.ok.mod.kin hk hall (thn (hkw.run pos pins s σ H _ I h) fun ws s2 ⟨zs, H2, I2, rz, l1, l2, q2⟩ => ⟨I2.kIn, by
    rw [hks]
    exact run_fnN (us := []) (vs := []) F hr hb hx I2 .nil rz rfl l2 q2⟩) hpl) hdb)⟩
end
section
variable {R : List Pr → Out → Prop} {RP' : List Pr → Pr → Prop} {ts : TA} {σ : L2.St} {B : Hp} {ps : List Pr} {p : Pr} {m : Nat}
theorem p_callNO (h : EvPs ts σ B ps) (hm : ps.length = m) (hr : R ps (.ret p)) : EvP (tCallN 0 m (spO R) Gd.gKs E0 tNil ts) σ B p := fun H e Q q =>
  h H e _ fun zs B2 H2 g b => ⟨rfl, by rw [b.len]; exact hm, B2, ps, .ret p, g.c, b, hr, fun v B3 H3 g3 hp => q v B3 H3 (g.trans g3) hp⟩
theorem p_callNP (h : EvPs ts σ B ps) (hm : ps.length = m) (hr : RP' ps p) : EvP (tCallN 0 m (spP RP') Gd.gKs E0 tNil ts) σ B p := fun H e Q q =>
  h H e _ fun zs B2 H2 g b => ⟨rfl, by rw [b.len]; exact hm, B2, ps, p, g.c, b, hr, fun v B3 H3 g3 hp => q v B3 H3 (g.trans g3) hp⟩
end
end Gd
namespace Nd
set_option autoImplicit false
open PySem PySem.Spec PySem.W PyProof.Rows L2 My Evl LamX NdefX
theorem p_callO {t : TA} {σ : L2.St} {B : Hp} {ps : List Pr} {p : Pr} {R : List Pr → Out → Prop} (h : EvPs t σ B ps) (hr : R ps (.ret p)) : EvP (tCall (spO R) [] E0 t) σ B p := fun H1 a Q k =>
  h H1 a _ fun vs B2 H2 g b => by
    rw [List.append_nil]
    exact ⟨B2, ps, .ret p, g.c, b, hr, fun v B3 H3 g3 x => k v B3 H3 (g.trans g3) x⟩
/-- a dict -/
def DcT : Pr := ⟨fun v H => ∃ a kvs, v = .ref a ∧ H a = some (.dT kvs), fun e ⟨a, kvs, h1, h2⟩ => ⟨a, kvs, h1, e _ _ h2⟩⟩
theorem dct_ty {K : PySem.W.Frag} {v : V} {H : Hp} (h : DcT.P v H) : TyX K H v (.type "dict") := by
  obtain ⟨a, kvs, rfl, h2⟩ := h
  exact .base (.dT h2)
theorem p_disp1 {tk tv : TE} {σ : L2.St} {B : Hp} {u : Dv} {y : V} (hk : EvP tk σ B (DvP u)) (hv : ∀ B, Ev tv σ B y) : EvP (tDisp1T tk tv) σ B DcT := fun H1 e Q q p hp => by
  have hBp : B p = none := fresh_back e hp
  refine hk _ (Ex.mut e hBp) _ fun v B2 H2 g hv2 => ?_
  refine hv B2 H2 g.c _ fun H3 e3 => ?_
  obtain ⟨b, rfl, hb⟩ := hv2
  have h3p : H3 p = some (.dT []) := e3 _ _ (g.a _ _ upd_same)
  have B2p : B2 p = none := g.d p hBp (by rw [upd_same]; exact fun z => nomatch z)
  refine ⟨h3p, b, dvK u, rfl, e3 _ _ (g.c _ _ hb), ?_⟩
  have hf : Ex B2 (L2.upd B2 p (.dT (putK [] (dvK u) y))) := Ex.new B2p
  refine q (.ref p) (L2.upd B2 p (.dT (putK [] (dvK u) y))) _ ⟨?_, g.b.trans hf, fun c o ec => ?_, fun x hx hh => ?_, fun z => ?_⟩ ⟨p, _, rfl, upd_same⟩
  · exact Ex.mut (((Ex.new hp).trans g.a).trans e3) hp
  · by_cases n : c = p
    · subst n
      rw [upd_same] at ec ⊢
      exact ec
    · rw [upd_ne n] at ec ⊢
      exact e3 _ _ (g.c _ _ ec)
  · have n : x ≠ p := fun z => hh (by rw [z]; exact hp)
    rw [upd_ne n]
    exact g.d x hx (by rw [upd_ne n]; exact hh)
  · exact nt_upd (g.e z) (fun ps w => nomatch w)
end Nd
namespace K12
set_option autoImplicit false
open PySem PySem.Spec PySem.W PyProof.Rows L2 Evl My Nd LamX NdefX
/-- a told thing: anything, or that it is out of place -/
def tP (b : Bool) : Pr := if b = true then AnyP else toldP 13 []
def PLp : Pr := LsP [LsP [IsV (.str "place"), IsV (.str "ours"), IsV (.str "value")]]
def PLd : PyData := .list [.list [.str "place", .str "ours", .str "value"]]
theorem to_PL {K : PySem.W.Frag} : To K PLp PLd := to_lst (.cons (to_lst (.cons to_str (.cons to_str (.cons to_str .nil)))) .nil)
theorem to_13 {K : PySem.W.Frag} : To K (toldP 13 []) PLd := fun v H h => by
  rw [toldP_no rfl] at h
  unfold txts at h
  rw [show kinds 13 = [("place" : Str), "ours", "value"] from by decide +kernel] at h
  exact to_PL v H h
theorem pl_facts : SeqAt.shaped (.list [PLd, PLd, PLd]) = true ∧ PyData.eqv (.list [PLd, PLd, PLd]) (.list [PLd, PLd, PLd]) = true ∧ SeqAt.shaped (.list [PLd, PLd]) = true ∧ PyData.eqv (.list [PLd, PLd]) (.list [PLd, PLd]) = true := by decide +kernel
section
variable {T : List (Addr × Str)} {R : List Pr → Out → Prop} {ts : TA} {σ : L2.St} {B H : Hp} {ps : List Pr} {Q : VK} {cx : Nat → Addr} {d : Addr} {n : Nat} {K : PySem.W.Frag}
theorem x_tO {b : Bool} (k : Kx T d n B H) (h : EvPs ts σ B ps) (hr : (b = true ∧ ∃ p, R ps (.ret p)) ∨ (b = false ∧ R ps (.exc (cx 13) []))) (q : ∀ v B' H', Kx T d n B' H' → GX d B H B' H' → (tP b).P v B' → Q v H') :
    tLam T (TTold cx) (fun E => tCallS (spO R) (WE fun cls d _ H => E cls d H) ts) σ H Q := by
  rcases hr with ⟨rfl, p, hr⟩ | ⟨rfl, hr⟩
  · exact ⟨k.t, fun H1 eN T1 H2 e2 Q2 hQ => by
      have k1 := k.kn.next eN T1
      have g := (GT.xn k.kn eN T1).trans (GT.gr (Gr.wide k1.e e2))
      exact o_call (E := WE _) (k1.ex e2).e h hr fun v B' H' g2 hv => hQ _ _ (q v B' H' (k.gt (g.trans (GT.gr g2))) (GX.gt (g.trans (GT.gr g2))) trivial)⟩
  · exact x_told k.kn h hr (by decide) (by decide) (fun f e => nomatch e) fun v B' H' g hv => q v B' H' (k.gt g) (GX.gt g) hv
theorem x_tT {b : Bool} (k : Kx T d n B H) (h : EvPs ts σ B ps) (hr : (b = true ∧ ∃ p, R ps (.ret p)) ∨ (b = false ∧ R ps (.exc (cx 13) []))) (q : ∀ v B' H', Kx T d n B' H' → GX d B H B' H' → (tP b).P v B' → Q v H') :
    tLam T (TTold cx) (fun E => tCallS (spOT T R) (WE fun cls d _ H => E cls d H) ts) σ H Q := by
  rcases hr with ⟨rfl, p, hr⟩ | ⟨rfl, hr⟩
  · exact ⟨k.t, fun H1 eN T1 H2 e2 Q2 hQ => by
      have k1 := k.kn.next eN T1
      have g := (GT.xn k.kn eN T1).trans (GT.gr (Gr.wide k1.e e2))
      exact o_callT (E := WE _) (k1.ex e2) h hr fun v B' H' g2 hv => hQ _ _ (q v B' H' (k.gt (g.trans g2)) (GX.gt (g.trans g2)) trivial)⟩
  · exact x_toldT k.kn h hr (by decide) (by decide) (fun f e => nomatch e) fun v B' H' g hv => q v B' H' (k.gt g) (GX.gt g) hv
/-- the last one's argument drawn -/
theorem x_tDraw {te : TE} {v1 : V} {i1 : Nat} {p1 : Pr} {qs : List Pr} (k : Kx T d n B H) (hn : n ≤ 2 ^ 36) (h1 : σ[i1]? = some (some v1)) (hp1 : p1.P v1 B)
    (he : ∀ (B1 H1 : Hp) (Q' : VK), Kx T d n B1 H1 → (∀ (p : Pr) v B2 H2, p ∈ qs → Kx T d (n + 4) B2 H2 → GX d B1 H1 B2 H2 → p.P v B2 → Q' v H2) → te σ H1 Q')
    (hr : ∀ p ∈ qs, R [p1, p] (.exc (cx 13) [])) (q : ∀ v B' H', Kx T d (n + 4) B' H' → GX d B H B' H' → (toldP 13 []).P v B' → Q v H') :
    tLam T (TTold cx) (fun E => tCallS (spOT T R) (WE fun cls d _ H => E cls d H) (tCons (tVar i1) (tCons te tNil))) σ H Q := ⟨k.t, fun H1 eN T1 H2 e2 Q2 _ => by
  have g0 := GT.xn k.kn eN T1
  have k2 : Kx T d n B H2 := (k.gt g0).ex e2
  have g2 : GX d B H B H2 := (GX.gt g0).trans (GX.ex e2)
  refine ⟨v1, h1, he B H2 _ k2 fun p v B3 H3 hp k3 g3 hv => ?_⟩
  exact ⟨B3, [p1, p], .exc (cx 13) [], k3.kn, ⟨p1.m g3.b hp1, hv, trivial⟩, hr p hp, fun d' B' H' g hd => ⟨13, [], B', by decide, by decide, rfl, g.c, hd, (fun f e => nomatch e), fun v4 B4 H4 g4 hv4 => q v4 B4 H4 ((k3.gt g).gr g4) ((g2.trans g3).trans ((GX.gt g).trans (GX.gr g4))) hv4⟩⟩⟩
end
def polyP (K : PySem.W.Frag) (x : PyData) : Pr := TuP K [TuP K [TuP K [TuP K [FeP K TxP x, IsV (.int 2)]], TuP K [IsV (.int 1), IsV (.int 1)]]]
def onePo (u : Dv) : Po := [([(u, 2)], (1, 1))]
theorem one_in (u : Dv) : dvsIn (onePo u) = [u] := by
  have h : ∀ v, v ∈ dvsIn (onePo u) ↔ v = u := fun v => by
    rw [mem_in]
    show v ∈ [u] ↔ _
    rw [List.mem_singleton]
  have hl : (dvsIn (onePo u)).length = 1 := by
    unfold dvsIn srtD
    rw [List.length_mergeSort]
    rfl
  obtain ⟨w, hw⟩ := List.length_eq_one_iff.mp hl
  rw [hw]
  have := (h w).mp (by rw [hw]; exact List.mem_cons_self)
  rw [this]
theorem one_po {u : Dv} (h : dvB u.D = true) : poB (poD (onePo u)) = true := by
  rw [show poD (onePo u) = .tuple [tmD ([(u, 2)], (1, 1))] from rfl, poB_tu]
  have m1 : moB (moD [(u, 2)]) = true := by
    show chainB pwB none [pwD (u, 2)] = true
    rw [chainB, chainB, pwB_of h (by show (0 : Int) < 2; decide)]
    rfl
  have t1 : tmB (tmD ([(u, 2)], (1, 1))) = true := by
    show (true && (moB (moD [(u, 2)]) && (frB (frD (1, 1)) && !decide ((1 : Int) = 0)))) = true
    rw [m1]
    decide +kernel
  rw [chainB, chainB, t1]
  rfl
/-- the polynomial of such a thing, as it is asked of -/
theorem ev_poly {K : PySem.W.Frag} {te : TE} {σ : L2.St} {B : Hp} {x : PyData} {r : Rk} (h : EvP te σ B (polyP K x)) (hs : asB x = true) : ∃ q, EvP te σ B q ∧ RpfG K [RkP K r, q] (IsV (.bl (fitsB r x))) := by
  cases hd : dvB x with
  | true =>
    obtain ⟨u, rfl, hn, hi, hj⟩ := dvB_ex hd
    refine ⟨poP K (onePo u), h.imp fun v B1 _ y => ?_, .inr ⟨r, onePo u, one_po hd, ?_, by show 1 ≤ 1000; decide, rfl, ?_⟩⟩
    · obtain ⟨a, xs, rfl, h1, h2⟩ := y
      obtain ⟨w, rfl, ⟨a2, xs2, rfl, h3, h4⟩⟩ := all1 h2
      obtain ⟨w1, w2, rfl, ⟨a3, xs3, rfl, h5, h6⟩, h7⟩ := all2 h4
      obtain ⟨w3, rfl, ⟨a4, xs4, rfl, h8, h9⟩⟩ := all1 h6
      obtain ⟨w4, w5, rfl, ⟨_, b2⟩, h10⟩ := all2 h9
      exact ⟨a, _, rfl, h1, ⟨a2, _, rfl, h3, ⟨a3, _, rfl, h5, ⟨a4, _, rfl, h8, tx_dv (K := K) (b2 _ rfl), h10, trivial⟩, trivial⟩, h7, trivial⟩, trivial⟩
    · have := as_sm (d := poD (onePo u)) (by
        show asB (.tuple [.tuple [.tuple [.tuple [u.D, .int 2]], .tuple [.int 1, .int 1]]]) = true
        simp only [asB, asAll, hs, Bool.and_self, Bool.true_and])
      exact this
    · rw [one_in]
      show IsV (.bl (fitsB r u.D)) = IsV (.bl (Rk.stB r u && true))
      unfold fitsB
      rw [hd, dvOf_D, Bool.true_and, Bool.and_true]
  | false =>
    have ef : fitsB r x = false := by unfold fitsB; rw [hd]; rfl
    refine ⟨IsE K (.tuple [.tuple [.tuple [.tuple [x, .int 2]], .tuple [.int 1, .int 1]]]), h.imp fun v B1 _ y => ?_, .inl ⟨r, _, _, to_idE, ?_, ?_, rfl, by rw [ef]⟩⟩
    · obtain ⟨a, xs, rfl, h1, h2⟩ := y
      obtain ⟨w, rfl, ⟨a2, xs2, rfl, h3, h4⟩⟩ := all1 h2
      obtain ⟨w1, w2, rfl, ⟨a3, xs3, rfl, h5, h6⟩, ⟨a5, xs5, rfl, h11, h12⟩⟩ := all2 h4
      obtain ⟨w3, rfl, ⟨a4, xs4, rfl, h8, h9⟩⟩ := all1 h6
      obtain ⟨w4, w5, rfl, ⟨b1, _⟩, h10⟩ := all2 h9
      obtain ⟨w6, w7, rfl, h13, h14⟩ := all2 h12
      obtain rfl : w5 = _ := h10
      obtain rfl : w6 = _ := h13
      obtain rfl : w7 = _ := h14
      exact .tup h1 (.cons (.tup h3 (.cons (.tup h5 (.cons (.tup h8 (.cons b1 (.cons (.int 2) .nil))) .nil)) (.cons (.tup h11 (.cons (.int 1) (.cons (.int 1) .nil))) .nil))) .nil)
    · refine as_sm ?_
      simp only [asB, asAll, hs, Bool.and_self, Bool.true_and]
    · rw [poB_tu, chainB]
      have : tmB (.tuple [.tuple [.tuple [x, .int 2]], .tuple [.int 1, .int 1]]) = false := by
        show (true && (moB (.tuple [.tuple [x, .int 2]]) && _)) = false
        have : moB (.tuple [.tuple [x, .int 2]]) = false := by
          show chainB pwB none [.tuple [x, .int 2]] = false
          rw [chainB]
          have : pwB (.tuple [x, .int 2]) = false := by
            show (true && (dvB x && _)) = false
            rw [hd]
            rfl
          rw [this]
          rfl
        rw [this]
        rfl
      rw [this]
      rfl
end K12
namespace K12
set_option autoImplicit false
open PySem PySem.Spec PySem.W PyProof.Rows L2 Evl My Nd LamX NdefX
theorem atI_zero {α : Type} (x : α) (l : List α) : atI (x :: l) 0 = some x := by
  unfold atI ixN
  rw [if_pos (Int.le_refl 0), if_pos (by rw [List.length_cons]; omega)]
  rfl
def threeD (b : Bool) : PyData := .list [.bool b, .bool b, .bool b]
theorem three_sh (b : Bool) : (threeD b).showable = true ∧ (threeD b).depth ≤ 60 ∧ (threeD b).shown.length ≤ 1000000 := by cases b <;> decide +kernel
/-- no order -/
def six (K : PySem.W.Frag) : List Pr := [IsV (.int 13), IsV (.int (-1)), IsV (.bl true), IsV .non, IsV (.str "1"), TuP K [IsV (.int 1)]]
theorem six_bad {K : PySem.W.Frag} {p : Pr} (h : p ∈ six K) : ∃ d, ToE K p d ∧ smB d = true ∧ amgB 0 12 d = false := by
  simp only [six, List.mem_cons, List.not_mem_nil, or_false] at h
  rcases h with rfl | rfl | rfl | rfl | rfl | rfl
  · exact ⟨_, toE_of to_int, smd_int, by decide⟩
  · exact ⟨_, toE_of to_int, smd_int, by decide⟩
  · exact ⟨_, toE_of to_bl, smd_bl, by decide⟩
  · exact ⟨_, toE_of to_non, smd_non, by decide⟩
  · exact ⟨_, toE_of to_str, smd_str (by decide +kernel), by decide⟩
  · exact ⟨.tuple [.int 1], toE_of (to_tup (.cons to_int .nil)), smd_of (fun x hx => by rw [List.mem_singleton.mp hx]; exact smd_int), by decide⟩
def spGood (K : PySem.W.Frag) (T : List (Addr × Str)) : Sp := fun vs H Q _ => ∃ (B : Hp) (d : Addr) (n : Nat) (r : Rk) (x : PyData) (vr v : V), vs = [.ref d, vr, v] ∧ r.Ok ∧ (RkP K r).P vr B ∧ (FeP K TxP x).P v B ∧ asB x = true ∧ Kx T d n B H ∧ n ≤ 2 ^ 35 ∧ ∀ (B' H' : Hp), Kx T d (n + 4) B' H' → GX d B H B' H' → Q (.bl true) H'
section
variable {P : Program} {w : World} {K : PySem.W.Frag} {mg : Str → Option Value} {base : Heap} {T : List (Addr × Str)}

/-- _law_good_right -/
abbrev s_Lgood_right : Stmt := topS 76
abbrev N_Lgood_right : List Str := ["_law_state", "_law_by_here", "_law_it", "_law_due_here", "_law_place", "_law_poly", "_law_good", "_law_told_here"]
theorem sc_Lgood_right : FnScope N_Lgood_right ["_law_state", "_law_by_here", "_law_it"] (defScope s_Lgood_right) := ⟨rfl, rfl, rfl, by decide +kernel, rfl, by decide +kernel, by decide +kernel⟩
theorem ok_Lgood_right {f c tb : Addr} {fd : FuncData} (F : FunC K "_law_good_right" "_law_good_right" s_Lgood_right c f fd) {cx : Nat → Addr} {f_Lis_known : Addr} {d_Lis_known : FuncData} (c_Lis_known : Cal P w K mg base "_law_is_known" 2 ["_law_by_here", "_law_it"] (spP (RknE K)) f_Lis_known d_Lis_known) {f_is_of : Addr} {d_is_of : FuncData} (c_is_of : CalX P w K mg base "is_of" 5 ["ranking", "thing"] (spO (RisO K (cx 2))) f_is_of d_is_of) {f_holds_of : Addr} {d_holds_of : FuncData} (c_holds_of : CalX P w K mg base "holds_of" 10 ["ranking", "thing"] (spO (RhoO K (cx 2))) f_holds_of d_holds_of) {f_rank_compared : Addr} {d_rank_compared : FuncData} (c_rank_compared : CalX P w K mg base "rank_compared" 6 ["ranking", "one", "other"] (spO (RrcO K (cx 2) (cx 13))) f_rank_compared d_rank_compared) {f_in_rank : Addr} {d_in_rank : FuncData} (c_in_rank : CalX P w K mg base "in_rank" 6 ["ranking", "some"] (spOT T (RirO K (cx 2) (cx 13))) f_in_rank d_in_rank) {f_all_to : Addr} {d_all_to : FuncData} (c_all_to : CalX P w K mg base "all_to" 6 ["ranking", "order"] (spOT T (RatO K (cx 2) (cx 13))) f_all_to d_all_to) {f_Lkinds : Addr} {d_Lkinds : FuncData} (c_Lkinds : Cal P w K mg base "_law_kinds" 1 ["_law_error"] (spKinds cx) f_Lkinds d_Lkinds) {f_Ldigit : Addr} {d_Ldigit : FuncData} (c_Ldigit : Cal P w K mg base "_law_digit" 2 ["_law_state", "_law_size"] spDigit f_Ldigit d_Ldigit) (n_repr : mg "repr" = none) {f_Ltold : Addr} {d_Ltold : FuncData} (F_Ltold : Fun K "_law_told" "_law_told" s_Ltold f_Ltold d_Ltold) (m_Ltold : mg "_law_told" = some (.ref f_Ltold)) (k_Ltold : PySem.W.keepIn K (.ref f_Ltold) = true) (b_Ltold : L2.Binds K d_Ltold ["_law_deed"] []) (Tx : XT K mg cx) (hx : ∀ i, i < 16 → (kb i).getD 16 false = true → PySem.W.exmOne K (.ref (cx i)) (.ref (cx 16)) = some true) (TB : TabB base mg c tb) (hT : TO T tb "_law_good_right.<locals>.<lambda>") (KB_is_of : KBn K d_is_of ["ranking", "thing"] 0 ["ranking", "thing"] Gd.gKu Gd.gKs) :
    Gd.FnG P w K mg base 14 f fd ["_law_state", "_law_by_here", "_law_it"] (spGood K T) := by
  refine Gd.okGC F sc_Lgood_right (fun vs H Q E h => by obtain ⟨_, _, _, _, _, _, _, rfl, _⟩ := h; rfl) (fun A outer s H vs Q E hr hG h => ?_)
  obtain ⟨B, d, n, r, x, vr, v, rfl, hok, hR, hxx, hs, k, hn, q⟩ := h
  have hu := hu_of hr
  refine ⟨_, (pss_cons (ps_par (i := 3) (j := 4) rfl sc_Lgood_right.nd rfl rfl (by decide) rfl rfl (pa_cons (pe_call c_Lis_known.G (hr.mono (by decide)) (by rfl) c_Lis_known.m c_Lis_known.k c_Lis_known.b .nil pass0 (pa_cons (pv 1) (pa_cons (pv 2) pa_nil))) (pa_cons (pe_lst (pa_cons (pe_lst (pa_cons pe_str (pa_cons pe_str (pa_cons pe_str pa_nil)))) pa_nil)) pa_nil)) (by rfl))
    (pss_cons (ps_set (i := 5) sc_Lgood_right.nd rfl (by first | exact .inl rfl | exact .inr rfl) (pe_tup (pa_cons (pe_tup (pa_cons (pe_tup (pa_cons (pe_tup (pa_cons (pv 2) (pa_cons pe_int pa_nil))) pa_nil)) (pa_cons (pe_tup (pa_cons pe_int (pa_cons pe_int pa_nil))) pa_nil))) pa_nil)))
    (pss_cons (ps_if (pt_cmpR op_ne (pe_callB (Gd.call_reprG hG hr.units) (by rfl) n_repr (by decide +kernel) (pa_cons (pe_lst (pa_cons (pe_call c_is_of.G (hr.mono (by decide)) (by rfl) c_is_of.m c_is_of.k c_is_of.b .nil L2.passL (pa_cons (pv 1) (pa_cons (pv 2) pa_nil))) (pa_cons (Gd.pe_callN0X c_is_of.G (hr.mono (by decide)) (by rfl) c_is_of.m c_is_of.k KB_is_of L2.passL (pk_cons (pv 1) (pk_cons (pv 2) pk_nil))) (pa_cons (pe_call c_holds_of.G (hr.mono (by decide)) (by rfl) c_holds_of.m c_holds_of.k c_holds_of.b .nil L2.passL (pa_cons (pv 1) (pa_cons (pv 5) pa_nil))) pa_nil)))) pa_nil)) (pe_callB (Gd.call_reprG hG hr.units) (by rfl) n_repr (by decide +kernel) (pa_cons (pe_op op_rep (pe_lst (pa_cons (pv 3) pa_nil)) pe_int) pa_nil)) (nomark _)) (pss_one (ps_ret pe_bl)) pss_nil)
    (pss_cons (ps_set (i := 6) sc_Lgood_right.nd rfl (by first | exact .inl rfl | exact .inr rfl) (pe_tup (pa_cons (pe_ix (show IxR _ (rIxT K) from ix_tup) (pe_ix (show IxR _ (rIxT K) from ix_tup) (pv 1) pe_int (fun _ _ => rfl)) pe_int (fun _ _ => rfl)) (pa_cons pe_int (pa_cons pe_int pa_nil)))))
    (pss_cons (ps_set (i := 7) sc_Lgood_right.nd rfl (by first | exact .inl rfl | exact .inr rfl) (pe_lst (pa_cons (pe_told (T := T) (k := 11) (t := fun E => tCallS (spO (RrcO K (cx 2) (cx 13))) (WE fun cls d _ H => E cls d H) _) F_Ltold m_Ltold k_Ltold b_Ltold Tx hx c_Lkinds TB rfl hT (hr.mono (by decide)) (by decide) (by rfl) (lamS_by (sc := defScope s_Lgood_right) (by decide +kernel)) rfl (fun _ _ _ _ _ => rfl)
      (fun A' outer' s0 H0 E0 f' c' hr' => pe_callS c_rank_compared.G (hr'.mono (by decide)) (by rfl) c_rank_compared.m c_rank_compared.k c_rank_compared.b (fun σ => passAt (L2.takes_of rfl rfl rfl rfl) σ) (pa_cons (pv 1) (pa_cons (pv 2) (pa_cons (pv 6) pa_nil))))) pa_nil)))
    (pss_cons (ps_expr (pe_bm PySem.F.plainAttrs_list PySem.F.slot_list_append PySem.F.type_list_append mt_append (pv 7) (pa_cons (pe_told (T := T) (k := 11) (t := fun E => tCallS (spO (RrcO K (cx 2) (cx 13))) (WE fun cls d _ H => E cls d H) _) F_Ltold m_Ltold k_Ltold b_Ltold Tx hx c_Lkinds TB rfl hT (hr.mono (by decide)) (by decide) (by rfl) (lamS_by (sc := defScope s_Lgood_right) (by decide +kernel)) rfl (fun _ _ _ _ _ => rfl)
      (fun A' outer' s0 H0 E0 f' c' hr' => pe_callS c_rank_compared.G (hr'.mono (by decide)) (by rfl) c_rank_compared.m c_rank_compared.k c_rank_compared.b (fun σ => passAt (L2.takes_of rfl rfl rfl rfl) σ) (pa_cons (pv 1) (pa_cons (pv 6) (pa_cons (pv 2) pa_nil))))) pa_nil)))
    (pss_cons (ps_expr (pe_bm PySem.F.plainAttrs_list PySem.F.slot_list_append PySem.F.type_list_append mt_append (pv 7) (pa_cons (pe_told (T := T) (k := 11) (t := fun E => tCallS (spOT T (RirO K (cx 2) (cx 13))) (WE fun cls d _ H => E cls d H) _) F_Ltold m_Ltold k_Ltold b_Ltold Tx hx c_Lkinds TB rfl hT (hr.mono (by decide)) (by decide) (by rfl) (lamS_by (sc := defScope s_Lgood_right) (by decide +kernel)) rfl (fun _ _ _ _ _ => rfl)
      (fun A' outer' s0 H0 E0 f' c' hr' => pe_callS c_in_rank.G (hr'.mono (by decide)) (by rfl) c_in_rank.m c_in_rank.k c_in_rank.b (fun σ => passAt (L2.takes_of rfl rfl rfl rfl) σ) (pa_cons (pv 1) (pa_cons (pe_lst (pa_cons (pv 6) (pa_cons (pv 2) pa_nil))) pa_nil)))) pa_nil)))
    (pss_cons (ps_if (PW.pt (pw_and (pt_not (pt_val (pv 3))) (pw_and1 (pt_cmpR (show OpR _ (compareOp .NotEq) (rNeD K) from op_neD hr.units) (pv 7) (pe_op op_rep (pe_lst (pa_cons (pv 4) pa_nil)) pe_int) (nomark _))))) (pss_one (ps_ret pe_bl)) pss_nil)
    (pss_cons (ps_set (i := 7) sc_Lgood_right.nd rfl (by first | exact .inl rfl | exact .inr rfl) (pe_lst (pa_cons (pe_told (T := T) (k := 11) (t := fun E => tCallS (spOT T (RirO K (cx 2) (cx 13))) (WE fun cls d _ H => E cls d H) _) F_Ltold m_Ltold k_Ltold b_Ltold Tx hx c_Lkinds TB rfl hT (hr.mono (by decide)) (by decide) (by rfl) (lamS_by (sc := defScope s_Lgood_right) (by decide +kernel)) rfl (fun _ _ _ _ _ => rfl)
      (fun A' outer' s0 H0 E0 f' c' hr' => pe_callS c_in_rank.G (hr'.mono (by decide)) (by rfl) c_in_rank.m c_in_rank.k c_in_rank.b (fun σ => passAt (L2.takes_of rfl rfl rfl rfl) σ) (pa_cons (pv 1) (pa_cons (pe_disp1T (by have h := hr'.un; show (A'.deeper _).units + 1 < cLine; omega) (pv 6) pe_int) pa_nil)))) pa_nil)))
    (pss_cons (ps_expr (pe_bm PySem.F.plainAttrs_list PySem.F.slot_list_append PySem.F.type_list_append mt_append (pv 7) (pa_cons (pe_told (T := T) (k := 11) (t := fun E => tCallS (spOT T (RatO K (cx 2) (cx 13))) (WE fun cls d _ H => E cls d H) _) F_Ltold m_Ltold k_Ltold b_Ltold Tx hx c_Lkinds TB rfl hT (hr.mono (by decide)) (by decide) (by rfl) (lamS_by (sc := defScope s_Lgood_right) (by decide +kernel)) rfl (fun _ _ _ _ _ => rfl)
      (fun A' outer' s0 H0 E0 f' c' hr' => pe_callS c_all_to.G (hr'.mono (by decide)) (by rfl) c_all_to.m c_all_to.k c_all_to.b (fun σ => passAt (L2.takes_of rfl rfl rfl rfl) σ) (pa_cons (pv 1) (pa_cons (pe_ix (show IxR _ (rIxL K) from ix_list) (pe_lst (pa_cons pe_int (pa_cons (pe_un un_neg pe_int) (pa_cons pe_bl (pa_cons pe_non (pa_cons pe_str (pa_cons (pe_tup (pa_cons pe_int pa_nil)) pa_nil))))))) (pe_call c_Ldigit.G (hr'.mono (by decide)) (by rfl) c_Ldigit.m c_Ldigit.k c_Ldigit.b .nil pass0 (pa_cons (pv 0) (pa_cons pe_int pa_nil))) (fun _ _ => rfl)) pa_nil)))) pa_nil)))
    (pss_one (ps_ret (pe_cmpR (show OpR _ (compareOp .Eq) (rEqD K) from op_eqD hr.units) (pv 7) (pe_op op_rep (pe_lst (pa_cons (pv 4) pa_nil)) pe_int) (nomark _)))))))))))))), ?_⟩
  have hxe : De K B v x := hxx.1
  refine b_seq (ps_parX (i := 3) (j := 4) (p := IsV (.bl (fitsB r x))) (q := PLp) k.e (q_cons (p_callP (R := RknE K) (ps := [RkP K r, IsE K x]) (q_cons (p_var (i := 1) rfl hR) (q_cons (p_var (i := 2) (p := IsE K x) rfl hxe) q_nil)) ⟨r, _, x, hok, to_idE, hs, rfl, rfl⟩) (q_cons (p_lst (ps := [LsP [IsV (.str "place"), IsV (.str "ours"), IsV (.str "value")]]) (q_cons (p_lst (ps := [IsV (.str "place"), IsV (.str "ours"), IsV (.str "value")]) (q_cons p_c (q_cons p_c (q_cons p_c q_nil))) (by show 3 ≤ 100000; decide)) q_nil) (by show 1 ≤ 100000; decide)) q_nil)) fun w3 w4 B1 H1 g1 h3 h4 => ?_)
  obtain rfl : w3 = .bl (fitsB r x) := h3
  have k1 := k.gr g1
  have hx1 := (FeP K TxP x).m g1.b hxx
  dsimp only [List.set_cons_succ, List.set_cons_zero]
  refine b_seq (ps_asgN (fun y => [some (.ref d), some vr, some v, some (.bl (fitsB r x)), some w4, some y, none, none]) k1.e (show EvP _ _ _ (polyP K x) from (p_tup (K := K) (q_cons (p_tup (K := K) (q_cons (p_tup (K := K) (q_cons (p_tup (K := K) (q_cons (p_var (i := 2) (p := FeP K TxP x) rfl hx1) (q_cons p_c q_nil)) (by show 2 ≤ 100000; decide)) q_nil) (by show 1 ≤ 100000; decide)) (q_cons (p_tup (K := K) (q_cons p_c (q_cons p_c q_nil)) (by show 2 ≤ 100000; decide)) q_nil)) (by show 2 ≤ 100000; decide)) q_nil) (by show 1 ≤ 100000; decide))) (fun w5 B2 H2 g2 h5 => ?_) (fun _ => rfl))
  have k2 := k1.gr g2
  have e2 := g1.b.trans g2.b
  have hR2 := (RkP K r).m e2 hR
  have hx2 := (FeP K TxP x).m e2 hxx
  have h42 := PLp.m g2.b h4
  dsimp only
  obtain ⟨qp, hq, hRp⟩ := ev_poly (r := r) (p_var (i := 5) (σ := [some (.ref d), some vr, some v, some (.bl (fitsB r x)), some w4, some w5, none, none]) rfl h5) hs
  obtain ⟨sh1, sh2, sh3⟩ := three_sh (fitsB r x)
  have asked : EvP (tCall (spO (RisO K (cx 2))) [] E0 (tCons (tVar 1) (tCons (tVar 2) tNil))) [some (.ref d), some vr, some v, some (.bl (fitsB r x)), some w4, some w5, none, none] B2 (IsV (.bl (fitsB r x))) := p_callO (ps := [RkP K r, IsE K x]) (q_cons (p_var (i := 1) rfl hR2) (q_cons (p_var (i := 2) (p := IsE K x) rfl hx2.1) q_nil)) (.inl ⟨r, _, x, hok, to_idE, as_sm hs, rfl, rfl⟩)
  have askedK : EvP (tCallN 0 2 (spO (RisO K (cx 2))) Gd.gKs E0 tNil (tCons (tVar 1) (tCons (tVar 2) tNil))) [some (.ref d), some vr, some v, some (.bl (fitsB r x)), some w4, some w5, none, none] B2 (IsV (.bl (fitsB r x))) := Gd.p_callNO (ps := [RkP K r, IsE K x]) (q_cons (p_var (i := 1) rfl hR2) (q_cons (p_var (i := 2) (p := IsE K x) rfl hx2.1) q_nil)) rfl (.inl ⟨r, _, x, hok, to_idE, as_sm hs, rfl, rfl⟩)
  have held : EvP (tCall (spO (RhoO K (cx 2))) [] E0 (tCons (tVar 1) (tCons (tVar 5) tNil))) [some (.ref d), some vr, some v, some (.bl (fitsB r x)), some w4, some w5, none, none] B2 (IsV (.bl (fitsB r x))) := p_callO (ps := [RkP K r, qp]) (q_cons (p_var (i := 1) rfl hR2) (q_cons hq q_nil)) (.inl ⟨r, qp, _, hok, hRp, rfl, rfl⟩)
  have l1 : EvP _ [some (.ref d), some vr, some v, some (.bl (fitsB r x)), some w4, some w5, none, none] B2 (IsD K (threeD (fitsB r x))) := p_to (p_lst (q_cons asked (q_cons askedK (q_cons held q_nil))) (by show 3 ≤ 100000; decide)) (to_lst (.cons to_bl (.cons to_bl (.cons to_bl .nil))))
  have l2 : EvP _ [some (.ref d), some vr, some v, some (.bl (fitsB r x)), some w4, some w5, none, none] B2 (IsD K (threeD (fitsB r x))) := p_to (p_rep (ps := [IsV (.bl (fitsB r x))]) (n := 3) (p_lst (q_cons (p_varV (i := 3) rfl) q_nil) (by show 1 ≤ 100000; decide)) p_c (by decide) (by show 1 * 3 ≤ 100000; decide)) (to_lst (.cons to_bl (.cons to_bl (.cons to_bl .nil))))
  refine b_seq (ps_ifN k2.e (et_is (et_test (ev_op (Gd.ev_repr l1 sh1 sh2 sh3) (Gd.ev_repr l2 sh1 sh2 sh3) (rv_ne rfl))) (by simp)) fun H3 e3 => ?_)
  have k3 := k2.ex e3
  dsimp only
  -- a good one
  obtain ⟨n0, ns', hns⟩ : ∃ a b, r.ns = a :: b := List.exists_cons_of_length_pos hok.ne
  obtain ⟨gd, hgd⟩ : ∃ gd : Dv, gd = ⟨n0, 2, 0⟩ := ⟨_, rfl⟩
  have ogd : gd.Of r := ⟨by rw [hgd, hns]; exact List.mem_cons_self, by rw [hgd]; show (0 : Int) ≤ 2; decide, by rw [hgd]; show (0 : Int) ≤ 0; decide, by rw [hgd]; exact .inl rfl⟩
  have egd : EvP (tTup (tCons (tOp (rIxT K) (tOp (rIxT K) (tVar 1) (tC (.int 1))) (tC (.int 0))) (tCons (tC (.int 2)) (tCons (tC (.int 0)) tNil)))) [some (.ref d), some vr, some v, some (.bl (fitsB r x)), some w4, some w5, none, none] B2 (DvP gd) := p_dv (u := gd) (a := .str n0) (b := .int 2) (c := .int 0) (by rw [hgd]) (by rw [hgd]) (by rw [hgd]) (q_cons (p_ev (ev_st (K := K) (ed_ixT (ds := r.ns.map .str) (ed_nm (p_rk1 (p_var (i := 1) rfl hR2))) ev_c (by rw [hns]; exact atI_zero _ _)))) (q_cons p_c (q_cons p_c q_nil)))
  refine b_seq (ps_asgN (fun y => [some (.ref d), some vr, some v, some (.bl (fitsB r x)), some w4, some w5, some y, none]) k3.e egd (fun w6 B4 H4 g4 h6 => ?_) (fun _ => rfl))
  have k4 := k3.gr g4
  have hR4 := (RkP K r).m g4.b hR2
  have hx4 := (FeP K TxP x).m g4.b hx2
  have h44 := PLp.m g4.b h42
  have G4 : GX d B H B4 H4 := (GX.gr g1).trans ((GX.gr g2).trans ((GX.ex e3).trans (GX.gr g4)))
  clear l1 l2 asked askedK held hq egd k1 k2 k3 g1 g2 g4 e2 e3
  dsimp only
  -- as it is asked of
  obtain ⟨px, hpx, rc1, rc2, ir⟩ : ∃ px : Pr, px.P v B4 ∧ ((fitsB r x = true ∧ ∃ p, RrcO K (cx 2) (cx 13) [RkP K r, px, DvP gd] (.ret p)) ∨ (fitsB r x = false ∧ RrcO K (cx 2) (cx 13) [RkP K r, px, DvP gd] (.exc (cx 13) []))) ∧
      ((fitsB r x = true ∧ ∃ p, RrcO K (cx 2) (cx 13) [RkP K r, DvP gd, px] (.ret p)) ∨ (fitsB r x = false ∧ RrcO K (cx 2) (cx 13) [RkP K r, DvP gd, px] (.exc (cx 13) []))) ∧
      ((fitsB r x = true ∧ ∃ p, RirO K (cx 2) (cx 13) [RkP K r, LqP K [DvP gd, px]] (.ret p)) ∨ (fitsB r x = false ∧ RirO K (cx 2) (cx 13) [RkP K r, LqP K [DvP gd, px]] (.exc (cx 13) []))) := by
    cases hf : fitsB r x with
    | true =>
      obtain ⟨u, rfl, ou, _⟩ : ∃ u : Dv, x = u.D ∧ u.Of r ∧ True := by
        unfold fitsB at hf
        rw [Bool.and_eq_true] at hf
        obtain ⟨h1, h2⟩ := hf
        obtain ⟨u, rfl, hn, hi, hj⟩ := dvB_ex h1
        rw [dvOf_D] at h2
        unfold Rk.stB at h2
        simp only [Bool.and_eq_true, Bool.or_eq_true, decide_eq_true_eq] at h2
        exact ⟨u, rfl, ⟨h2.1, hi, hj, h2.2⟩, trivial⟩
      refine ⟨DvP u, tx_dv (K := K) (hx4.2 _ rfl), .inl ⟨rfl, _, .inl ⟨r, u, gd, hok, ou, ogd, rfl, rfl⟩⟩, .inl ⟨rfl, _, .inl ⟨r, gd, u, hok, ogd, ou, rfl, rfl⟩⟩, .inl ⟨rfl, _, .inl ⟨r, [gd, u], [], hok, fun z hz => ?_, by show 2 ≤ 1000; decide, rfl, .inl ⟨rfl, rfl⟩⟩⟩⟩
      simp only [List.mem_cons, List.not_mem_nil, or_false] at hz
      rcases hz with rfl | rfl
      · exact ogd
      · exact ou
    | false =>
      have sg := sm_dv hok ogd
      refine ⟨IsE K x, hx4.1, .inr ⟨rfl, .inr (.inl ⟨r, _, _, x, gd.D, hok, to_idE, toE_of (to_dv gd), as_sm hs, sg, by rw [hf]; rfl, rfl, rfl⟩)⟩, .inr ⟨rfl, .inr (.inl ⟨r, _, _, gd.D, x, hok, toE_of (to_dv gd), to_idE, sg, as_sm hs, by rw [hf, Bool.and_false], rfl, rfl⟩)⟩, .inr ⟨rfl, .inl ⟨r, [gd], [IsE K x], hok, fun z hz => ?_, by show 1 ≤ 1000; decide, rfl, .inr ⟨_, x, rfl, to_idE, as_sm hs, hf, rfl⟩⟩⟩⟩
      rw [List.mem_singleton.mp hz]
      exact ogd
  refine b_seq (b_asg (b_lst (b_cons ?_)))
  refine x_tO (b := fitsB r x) k4 (q_cons (p_var (i := 1) rfl hR4) (q_cons (p_var (i := 2) rfl hpx) (q_cons (p_var (i := 6) rfl h6) q_nil))) rc1 fun v1 B5 H5 k5 g5 hv1 => b_nil ⟨by show 1 ≤ sizeLine; decide, fun l hl => ?_⟩
  have t5 := Ls.new (xs := [v1]) (ps := [tP (fitsB r x)]) k5 GX.refl hl hl ⟨hv1, trivial⟩
  generalize upd H5 l (.lst [v1]) = H6 at t5 ⊢
  have e5 := g5.b
  dsimp only [gName, List.set_cons_succ, List.set_cons_zero]
  refine b_seq (t5.app (p := tP (fitsB r x)) (m := n) rfl (by show 1 < 1000; decide) (fun Q2 qq => x_tO (b := fitsB r x) t5.k (q_cons (p_var (i := 1) rfl ((RkP K r).m e5 hR4)) (q_cons (p_var (i := 6) rfl ((DvP gd).m e5 h6)) (q_cons (p_var (i := 2) rfl (px.m e5 hpx)) q_nil))) rc2 qq) fun B7 H7 e7 t7 => ?_)
  have e57 := e5.trans e7
  refine b_seq (t7.app (p := tP (fitsB r x)) (m := n) rfl (by show 2 < 1000; decide) (fun Q2 qq => x_tT (b := fitsB r x) t7.k (q_cons (p_var (i := 1) rfl ((RkP K r).m e57 hR4)) (q_cons (p_lq (p_lst (ps := [DvP gd, px]) (q_cons (p_var (i := 6) rfl ((DvP gd).m e57 h6)) (q_cons (p_var (i := 2) rfl (px.m e57 hpx)) q_nil)) (by show 2 ≤ 100000; decide))) q_nil)) ir qq) fun B8 H8 e8 t8 => ?_)
  obtain ⟨B9, k9, g9, e9, hL⟩ := t8.fin
  have hL : (LsP [tP (fitsB r x), tP (fitsB r x), tP (fitsB r x)]).P (.ref l) B9 := hL
  have e49 := (e57.trans e8).trans e9
  have G9 : GX d B H B9 H8 := G4.trans (g5.trans g9)
  have hR9 := (RkP K r).m e49 hR4
  have h69 := (DvP gd).m e49 h6
  have h49 := PLp.m e49 h44
  obtain ⟨pf1, pf2, pf3, pf4⟩ := pl_facts
  have many : ∀ (m : Nat) {σ : L2.St} {B' : Hp} (ds : List PyData), σ[4]? = some (some w4) → PLp.P w4 B' → m ≤ 10 → ds = List.replicate m PLd → EvP (tOp rRep (tLst (tCons (tVar 4) tNil)) (tC (.int (m : Nat)))) σ B' (IsD K (.list ds)) := fun m σ B' ds h1 h2 hm e => by
    subst e
    have := p_rep (ps := [PLp]) (n := m) (p_lst (t := tCons (tVar 4) tNil) (σ := σ) (B := B') (q_cons (p_var h1 h2) q_nil) (by show 1 ≤ 100000; decide)) (p_c (v := .int (m : Nat))) (by omega) (by show 1 * m ≤ 100000; omega)
    have e2 : (List.replicate m [PLp]).flatten = (List.replicate m ()).map fun _ => PLp := by
      induction m with
      | zero => rfl
      | succ m ih => rw [List.replicate_succ, List.flatten_cons, ih (by omega) (p_rep (ps := [PLp]) (n := m) (p_lst (t := tCons (tVar 4) tNil) (σ := σ) (B := B') (q_cons (p_var h1 h2) q_nil) (by show 1 ≤ 100000; decide)) (p_c (v := .int (m : Nat))) (by omega) (by show 1 * m ≤ 100000; omega)), List.replicate_succ, List.map_cons]; rfl
    rw [e2] at this
    have e3 : List.replicate m PLd = (List.replicate m ()).map fun _ => PLd := by rw [List.map_replicate]
    rw [e3]
    exact p_to this (to_lst (toAll_map _ fun _ => to_PL))
  have tst : EvT (tAnd (tNot (tB (tVar 3))) (tTest (tOp (rNeD K) (tVar 7) (tOp rRep (tLst (tCons (tVar 4) tNil)) (tC (.int 3)))))) [some (.ref d), some vr, some v, some (.bl (fitsB r x)), some w4, some w5, some w6, some (.ref l)] B9 false := by
    cases hf : fitsB r x with
    | true => exact et_is (et_and (a := false) (b := false) (et_is (et_not (et_B (ev_var (i := 3) (v := .bl true) rfl))) rfl) (fun z => nomatch z)) rfl
    | false =>
      rw [hf] at hL
      have ne := ev_neD (K := K) (σ := [some (.ref d), some vr, some v, some (.bl (fitsB r x)), some w4, some w5, some w6, some (.ref l)]) (B := B9) (d := .list [PLd, PLd, PLd]) (e := .list [PLd, PLd, PLd]) (p_to (p_var (i := 7) rfl hL) (to_lst (.cons to_13 (.cons to_13 (.cons to_13 .nil))))) (many 3 [PLd, PLd, PLd] rfl h49 (by decide) rfl) pf1 pf1
      rw [pf2] at ne
      exact et_is (et_and (a := true) (b := false) (et_is (et_not (et_B (ev_var (i := 3) (v := .bl false) rfl))) rfl) fun _ => et_test ne) rfl
  refine b_seq (ps_ifN k9.e tst fun H9 e9x => ?_)
  have k10 := k9.ex e9x
  have G10 := G9.trans (GX.ex e9x)
  clear t5 t7 t8 g5 g9 hL tst k9 G9 rc1 rc2 ir
  dsimp only
  -- what is no row, no order
  refine b_seq (b_asg (b_lst (b_cons ?_)))
  refine x_toldT k10.kn (ps := [RkP K r, DcT]) (i := 13) (fs := []) (q_cons (p_var (i := 1) rfl hR9) (q_cons (p_disp1 (p_var (i := 6) rfl h69) (fun _ => ev_c (v := .int 1))) q_nil)) (.inr (.inl ⟨r, DcT, hok, fun v B h => dct_ty h, rfl, rfl⟩)) (by decide) (by decide) (fun f e => nomatch e) fun v2 B11 H11 g11 hv2 => b_nil ⟨by show 1 ≤ sizeLine; decide, fun l2 hl2 => ?_⟩
  have k11 := k10.gt g11
  have t11 := Ls.new (xs := [v2]) (ps := [toldP 13 []]) k11 GX.refl hl2 hl2 ⟨hv2, trivial⟩
  generalize upd H11 l2 (.lst [v2]) = H12 at t11 ⊢
  dsimp only [gName, List.set_cons_succ, List.set_cons_zero]
  have hR11 := (RkP K r).m g11.b hR9
  refine b_seq (t11.app (p := toldP 13 []) (m := n + 4) rfl (by show 1 < 1000; decide) (fun Q2 qq => x_tDraw (qs := six K) t11.k (by omega) (i1 := 1) rfl hR11 (fun B1 H1 Q3 k1 st => ?_) (fun p hp => ?_) qq) fun B13 H13 e13 t13 => ?_)
  · refine x_pickP (K := K) (ps := six K) k1 (q_cons p_c (q_cons (p_ev (ev_un ev_c ru_neg)) (q_cons p_c (q_cons p_c (q_cons p_c (q_cons (p_tup (K := K) (q_cons p_c q_nil) (by show 1 ≤ 100000; decide)) q_nil)))))) rfl rfl (by show 0 < 6; decide) (by show 6 < 1000; decide) (by omega) fun j p va B2 H2 hp k2 g2 hva => st p va B2 H2 (List.mem_of_getElem? hp) k2 g2 hva
  · obtain ⟨d1, a1, a2, a3⟩ := six_bad hp
    exact .inl ⟨r, p, d1, hok, a1, a2, a3, rfl, rfl⟩
  obtain ⟨B14, k14, g14, e14, hL2⟩ := t13.fin
  have hL2 : (LsP [toldP 13 [], toldP 13 []]).P (.ref l2) B14 := hL2
  have h414 := PLp.m ((g11.b.trans e13).trans e14) h49
  have cmp := ev_eqD (K := K) (σ := [some (.ref d), some vr, some v, some (.bl (fitsB r x)), some w4, some w5, some w6, some (.ref l2)]) (B := B14) (d := .list [PLd, PLd]) (e := .list [PLd, PLd]) (p_to (p_var (i := 7) rfl hL2) (to_lst (.cons to_13 (.cons to_13 .nil)))) (many 2 [PLd, PLd] rfl h414 (by decide) rfl) pf3 pf3
  rw [pf4] at cmp
  refine My.ps_ret k14.e (p_ev cmp) fun v9 B15 H15 g15 hv9 => ?_
  obtain rfl : v9 = .bl true := hv9
  exact q B15 H15 (k14.gr g15) (G10.trans ((GX.gt g11).trans (g14.trans (GX.gr g15))))

end
end K12
namespace Nd
set_option autoImplicit false
open PySem PySem.Spec PySem.W PySem.Calls PyProof.Rows L2 My Evl
/-- sorted(xs), a list of data -/
def rSortDL (K : PySem.W.Frag) : List V → Hp → VK → Prop := fun vs H Q => ∃ (a : Addr) (xs : List V) (ks : List PyData), vs = [.ref a] ∧ SqL K H a xs ∧ ks.length = xs.length ∧ PySem.W.AllAlike ks ∧ PySem.W.Sortable ks ∧ (∀ e, e ∈ ks → e.depth ≤ 50) ∧ DpAll K H xs ks ∧ ∀ p, H p = none → Q (.ref p) (upd H p (.lst (byKey xs ks)))
theorem cr_sortDL {X : Cx} {k : Nat} (hr : Room k X.A) : CallR X (.builtin "sorted") (rSortDL X.K) := by
  intro pins s σ H vs us Q I r h
  obtain ⟨a, xs, ks, rfl, hs, hl, hal, hsk, hdep, dp, q⟩ := h
  obtain ⟨its, rv, hli, hz⟩ := I.list hs
  rw [Vals.ref1 r]
  have un := hr.un
  have ev := dps_each I rv dp
  have ez := zip_snd hl
  have er := each_zip ev hl
  have hlz : (xs.zip ks).length = xs.length := by rw [List.length_zip]; omega
  have vl : (byKey xs ks).length ≤ sizeLine := by
    show ((xs.zip ks).mergeSort (dataLe false (·.2)) |>.map (·.1)).length ≤ _
    rw [List.length_map, List.length_mergeSort, hlz]
    exact hz
  refine sorted_data (enc := fun p : V × PyData => p.2) (R := fun u p => RelV p.1 u) hli.isList (vals_each (h := s.heap) rv hl) er (by rw [ez]; exact hal) (by rw [ez]; exact hsk) (by rw [hlz]; exact hz) (fun b hb => by
    have := hdep b.2 (by rw [← ez]; exact List.mem_map.mpr ⟨b, hb, rfl⟩)
    omega) fun out h1 h2 => ?_
  obtain ⟨ep, he'⟩ := sortedAll_at s.heap its out.toArray
  exact ⟨.ref _, upd H (s.heap.objs.size + 1) (.lst (byKey xs ks)), I.laid (t' := s.toks) (fun _ _ => sortedAll_old) (Nat.le_succ _) ⟨vl, out, ep, each_vals h2, he'⟩, rfl, q _ (I.hok.fresh (Nat.le_succ _))⟩
end Nd
namespace K12
set_option autoImplicit false
open PySem PySem.Spec PySem.W PyProof.Rows L2 Evl My Nd LamX NdefX
section
variable {te : TE} {σ : L2.St} {B H : Hp} {ps : List Pr} {K : PySem.W.Frag} {Q : VK}
theorem p_sortT {zs : Po} (h : EvP te σ B (LsP (zs.map (tmP K)))) : EvP (tCB (rSortDL K) (tCons te tNil)) σ B (LsP ((srtT zs).map (tmP K))) := fun H1 a Q k =>
  h H1 a _ fun v B2 H2 g pv => by
    obtain ⟨p, xs, rfl, hx, al⟩ := pv
    have hl := al.len
    rw [List.length_map] at hl
    refine ⟨p, xs, zs.map tmD, rfl, sq_of (g.c _ _ hx), by rw [List.length_map, hl], tm_alike zs, tm_sortable zs, tm_depth zs, dps_m g.c (toAll_all (toAll_map zs to_tm) al), fun l hl => ?_⟩
    exact k _ _ _ (g.trans (Gr.new (.lst (byKey xs (zs.map tmD))) g.c hl)) ⟨l, _, rfl, upd_same, (byKey_tm al).m (Ex.new (fresh_back g.c hl))⟩
theorem p_tupL (h : EvP te σ B (LsP ps)) : EvP (tCB (fun xs H Q => ∃ p ys, xs = [V.ref p] ∧ ((SqL K H p ys ∧ ∀ l, H l = none → Q (.ref l) (upd H l (.tup ys))) ∨ (SqT K H p ys ∧ Q (.ref p) H))) (tCons te tNil)) σ B (TuP K ps) := fun H1 a Q k =>
  h H1 a _ fun v B2 H2 g pv => by
    obtain ⟨p, xs, rfl, hx, al⟩ := pv
    exact ⟨p, xs, rfl, .inl ⟨sq_of (g.c _ _ hx), fun l hl => k _ _ _ (g.trans (Gr.new _ g.c hl)) ⟨l, xs, rfl, st_of upd_same, al.m (Ex.new (fresh_back g.c hl))⟩⟩⟩
end
theorem as_nm {x : Str} (h : IsNm x) : asB (.str x) = true := by
  unfold IsNm isNmB at h
  simp only [Bool.and_eq_true, decide_eq_true_eq, List.all_eq_true] at h
  unfold asB
  simp only [Bool.and_eq_true, decide_eq_true_eq, List.all_eq_true]
  exact ⟨by omega, fun c hc => by have := h.2 c hc; omega⟩
theorem as_dv {u : Dv} (h : IsNm u.n) : asB u.D = true := by
  show asB (.tuple [.str u.n, .int u.i, .int u.j]) = true
  have hi : ∀ i : Int, asB (.int i) = true := fun i => by unfold asB; rfl
  simp only [asB.eq_2, asAll, as_nm h, hi, Bool.and_true]
theorem st_Of {r : Rk} {u : Dv} (h : u.Of r) : Rk.stB r u = true := by
  unfold Rk.stB
  simp only [Bool.and_eq_true, Bool.or_eq_true, decide_eq_true_eq]
  exact ⟨h.n, h.y⟩
def oneT (u : Dv) : Mo × Fr := ([(u, 1)], (1, 1))
def twoPo (u v : Dv) : Po := srtT [oneT u, oneT v]
theorem two_dvs {u v x : Dv} : x ∈ dvs (twoPo u v) ↔ x = u ∨ x = v := by
  unfold dvs twoPo
  rw [List.mem_flatMap]
  constructor
  · rintro ⟨t, ht, hx⟩
    rw [srtT_mem] at ht
    simp only [List.mem_cons, List.not_mem_nil, or_false] at ht
    rcases ht with rfl | rfl
    · exact .inl (List.mem_singleton.mp hx)
    · exact .inr (List.mem_singleton.mp hx)
  · rintro (rfl | rfl)
    · exact ⟨oneT x, srtT_mem.mpr (by simp), List.mem_singleton.mpr rfl⟩
    · exact ⟨oneT x, srtT_mem.mpr (by simp), List.mem_singleton.mpr rfl⟩
theorem two_len (u v : Dv) : (dvs (twoPo u v)).length ≤ 1000 := by
  have h : (dvs (twoPo u v)).Perm (dvs [oneT u, oneT v]) := List.Perm.flatMap_right _ (List.mergeSort_perm _ _)
  rw [h.length_eq]
  show 2 ≤ 1000
  decide
theorem one_tm {u : Dv} (h : dvB u.D = true) : tmB (tmD (oneT u)) = true := by
  have m1 : moB (moD [(u, 1)]) = true := by
    show chainB pwB none [pwD (u, 1)] = true
    rw [chainB, chainB, pwB_of h (by show (0 : Int) < 1; decide)]
    rfl
  show (true && (moB (moD [(u, 1)]) && (frB (frD (1, 1)) && !decide ((1 : Int) = 0)))) = true
  rw [m1]
  decide +kernel
theorem two_po {u v : Dv} (hu : dvB u.D = true) (hv : dvB v.D = true) (n : u ≠ v) : poB (poD (twoPo u v)) = true := by
  unfold poD
  rw [poB_tu]
  refine chainB_map (g := tmD) (k := fun t => moD t.1) (fun _ => rfl) (fun t ht => ?_) (srtT_ups ?_) fun _ _ e _ => nomatch e
  · have ht := srtT_mem.mp ht
    simp only [List.mem_cons, List.not_mem_nil, or_false] at ht
    rcases ht with rfl | rfl
    · exact one_tm hu
    · exact one_tm hv
  · show ([[(u, (1 : Int))], [(v, 1)]] : List Mo).Nodup
    rw [List.nodup_cons]
    refine ⟨fun h => n ?_, by simp⟩
    have := List.mem_singleton.mp h
    exact congrArg (·.1) (List.cons.inj this).1
theorem as_one {u : Dv} (h : asB u.D = true) : asB (tmD (oneT u)) = true := by
  show asB (.tuple [.tuple [.tuple [u.D, .int 1]], .tuple [.int 1, .int 1]]) = true
  simp only [asB, asAll, h, Bool.and_self, Bool.true_and]
theorem two_as {u v : Dv} (hu : asB u.D = true) (hv : asB v.D = true) : asB (poD (twoPo u v)) = true := by
  show asB (.tuple ((twoPo u v).map tmD)) = true
  unfold asB
  refine as_of fun x hx => ?_
  obtain ⟨t, ht, rfl⟩ := List.mem_map.mp hx
  have ht := srtT_mem.mp ht
  simp only [List.mem_cons, List.not_mem_nil, or_false] at ht
  rcases ht with rfl | rfl
  · exact as_one hu
  · exact as_one hv
theorem two_all {r : Rk} {u v : Dv} (h : Rk.stB r u = true) : ((dvsIn (twoPo u v)).all (Rk.stB r)) = Rk.stB r v := by
  rw [Bool.eq_iff_iff, List.all_eq_true]
  constructor
  · exact fun k => k v (mem_in.mpr (two_dvs.mpr (.inr rfl)))
  · intro k x hx
    rcases two_dvs.mp (mem_in.mp hx) with rfl | rfl
    · exact h
    · exact k
theorem fits_dv {r : Rk} {u : Dv} (h : dvB u.D = true) : fitsB r u.D = Rk.stB r u := by
  unfold fitsB
  rw [h, dvOf_D, Bool.true_and]
def twoD (b : Bool) : PyData := .list [.bool b, .bool b]
theorem two_sh (b : Bool) : (twoD b).showable = true ∧ (twoD b).depth ≤ 60 ∧ (twoD b).shown.length ≤ 1000000 := by cases b <;> decide +kernel
def spSums (K : PySem.W.Frag) (T : List (Addr × Str)) : Sp := fun vs H Q _ => ∃ (B : Hp) (d : Addr) (n : Nat) (r : Rk) (vr : V), vs = [vr] ∧ r.Ok ∧ (RkP K r).P vr B ∧ Kx T d n B H ∧ ∀ (B' H' : Hp), Kx T d n B' H' → GX d B H B' H' → Q (.bl true) H'
section
variable {P : Program} {w : World} {K : PySem.W.Frag} {mg : Str → Option Value} {base : Heap} {T : List (Addr × Str)}

/-- _law_sums_right -/
abbrev s_Lsums_right : Stmt := topS 77
abbrev N_Lsums_right : List Str := ["_law_by_here", "_law_good", "_law_spot", "_law_poly", "_law_due_here", "_law_a"]
theorem sc_Lsums_right : FnScope N_Lsums_right ["_law_by_here"] (defScope s_Lsums_right) := ⟨rfl, rfl, rfl, by decide +kernel, rfl, by decide +kernel, by decide +kernel⟩
theorem ok_Lsums_right {f : Addr} {fd : FuncData} (F : Fun K "_law_sums_right" "_law_sums_right" s_Lsums_right f fd) {cx : Nat → Addr} {f_Lis_known : Addr} {d_Lis_known : FuncData} (c_Lis_known : Cal P w K mg base "_law_is_known" 2 ["_law_by_here", "_law_it"] (spP (RknE K)) f_Lis_known d_Lis_known) {f_is_of : Addr} {d_is_of : FuncData} (c_is_of : CalX P w K mg base "is_of" 5 ["ranking", "thing"] (spO (RisO K (cx 2))) f_is_of d_is_of) {f_holds_of : Addr} {d_holds_of : FuncData} (c_holds_of : CalX P w K mg base "holds_of" 10 ["ranking", "thing"] (spO (RhoO K (cx 2))) f_holds_of d_holds_of) (n_repr : mg "repr" = none) (n_tuple : mg "tuple" = none) (n_sorted : mg "sorted" = none)  :
    Gd.FnG P w K mg base 14 f fd ["_law_by_here"] (spSums K T) := by
  refine Gd.okG F sc_Lsums_right (fun vs H Q E h => by obtain ⟨_, _, _, _, _, rfl, _⟩ := h; rfl) (fun cdv A outer s H vs Q E hr hG h => ?_)
  obtain ⟨B, d, n, r, vr, rfl, hok, hR, k, q⟩ := h
  have hu := hu_of hr
  refine ⟨_, (pss_cons (ps_set (i := 1) sc_Lsums_right.nd rfl (by first | exact .inl rfl | exact .inr rfl) (pe_tup (pa_cons (pe_ix (show IxR _ (rIxT K) from ix_tup) (pe_ix (show IxR _ (rIxT K) from ix_tup) (pv 0) pe_int (fun _ _ => rfl)) pe_int (fun _ _ => rfl)) (pa_cons pe_int (pa_cons pe_int pa_nil)))))
    (pss_cons (ps_for PassesOwn.never rfl (pi_list (pe_lst (pa_cons (pe_tup (pa_cons pe_str (pa_cons pe_int (pa_cons pe_int pa_nil)))) (pa_cons (pe_tup (pa_cons pe_str (pa_cons pe_int (pa_cons pe_int pa_nil)))) (pa_cons (pe_tup (pa_cons (pe_ix (show IxR _ (rIxT K) from ix_tup) (pe_ix (show IxR _ (rIxT K) from ix_tup) (pv 0) pe_int (fun _ _ => rfl)) pe_int (fun _ _ => rfl)) (pa_cons pe_int (pa_cons pe_int pa_nil)))) (pa_cons (pe_tup (pa_cons (pe_ix (show IxR _ (rIxT K) from ix_tup) (pe_ix (show IxR _ (rIxT K) from ix_tup) (pv 0) pe_int (fun _ _ => rfl)) (pe_un un_neg pe_int) (fun _ _ => rfl)) (pa_cons pe_int (pa_cons pe_int pa_nil)))) pa_nil)))))) (pg_name (i := 2) sc_Lsums_right.nd rfl (by first | exact .inl rfl | exact .inr rfl))
      (pss_cons (ps_par (i := 3) (j := 4) rfl sc_Lsums_right.nd rfl rfl (by decide) rfl rfl (pa_cons (pe_callTy call_tuple_of (by rfl) n_tuple (by decide +kernel) (pa_cons (pe_callB (cr_sortDL hr) (by rfl) n_sorted (by decide +kernel) (pa_cons (pe_lc (own := [("_law_a", 5)]) rfl sc_Lsums_right.nd (pi_tup (pe_tup (pa_cons (pv 1) (pa_cons (pv 2) pa_nil)))) (blkOk_by (N := N_Lsums_right) (sc := defScope s_Lsums_right) (by decide +kernel)) (fun _ _ _ _ _ => (pg_name (i := 5) sc_Lsums_right.nd rfl (Or.inl rfl))) (fun _ _ _ _ _ => pts_nil) (fun _ _ _ _ _ => (pe_tup (pa_cons (pe_tup (pa_cons (pe_tup (pa_cons (pv 5) (pa_cons pe_int pa_nil))) pa_nil)) (pa_cons (pe_tup (pa_cons pe_int (pa_cons pe_int pa_nil))) pa_nil))))) pa_nil)) pa_nil)) (pa_cons (pe_call c_Lis_known.G (hr.mono (by decide)) (by rfl) c_Lis_known.m c_Lis_known.k c_Lis_known.b .nil pass0 (pa_cons (pv 0) (pa_cons (pv 2) pa_nil))) pa_nil)) (by rfl))
    (pss_one (ps_if (pt_cmpR op_ne (pe_callB (Gd.call_reprG hG hr.units) (by rfl) n_repr (by decide +kernel) (pa_cons (pe_lst (pa_cons (pe_call c_is_of.G (hr.mono (by decide)) (by rfl) c_is_of.m c_is_of.k c_is_of.b .nil L2.passL (pa_cons (pv 0) (pa_cons (pv 2) pa_nil))) (pa_cons (pe_call c_holds_of.G (hr.mono (by decide)) (by rfl) c_holds_of.m c_holds_of.k c_holds_of.b .nil L2.passL (pa_cons (pv 0) (pa_cons (pv 3) pa_nil))) pa_nil))) pa_nil)) (pe_callB (Gd.call_reprG hG hr.units) (by rfl) n_repr (by decide +kernel) (pa_cons (pe_lst (pa_cons (pv 4) (pa_cons (pv 4) pa_nil))) pa_nil)) (nomark _)) (pss_one (ps_ret pe_bl)) pss_nil))))
    (pss_one (ps_ret pe_bl)))), ?_⟩
  obtain ⟨n0, ns', hns⟩ : ∃ a b, r.ns = a :: b := List.exists_cons_of_length_pos hok.ne
  obtain ⟨nl, hnl, hat⟩ : ∃ nl, nl ∈ r.ns ∧ atI (r.ns.map PyData.str) (-1) = some (.str nl) := by
    have h0 : r.ns ≠ [] := by rw [hns]; exact List.cons_ne_nil _ _
    refine ⟨r.ns.getLast h0, List.getLast_mem h0, ?_⟩
    have hl : 0 < r.ns.length := List.length_pos_iff.mpr h0
    unfold atI ixN
    rw [List.length_map, if_neg (by decide), if_pos (by omega)]
    show (r.ns.map PyData.str)[_]? = _
    rw [List.getElem?_map, show (((-1 : Int) + (r.ns.length : Int)).toNat) = r.ns.length - 1 from by omega, List.getLast_eq_getElem, List.getElem?_eq_getElem (by omega)]
    rfl
  obtain ⟨gd, hgd⟩ : ∃ gd : Dv, gd = ⟨n0, 2, 0⟩ := ⟨_, rfl⟩
  have hn0 : n0 ∈ r.ns := by rw [hns]; exact List.mem_cons_self
  have ogd : gd.Of r := ⟨by rw [hgd]; exact hn0, by rw [hgd]; show (0 : Int) ≤ 2; decide, by rw [hgd]; show (0 : Int) ≤ 0; decide, by rw [hgd]; exact .inl rfl⟩
  have dgd : dvB gd.D = true := of_B hok ogd
  have agd : asB gd.D = true := as_dv (hok.nm _ ogd.n)
  have first : ∀ {B' : Hp} {σ : L2.St} {v0 : V}, σ[0]? = some (some v0) → (RkP K r).P v0 B' → EvP (tOp (rIxT K) (tOp (rIxT K) (tVar 0) (tC (.int 1))) (tC (.int 0))) σ B' (IsV (.str n0)) := fun h1 h2 => p_ev (ev_st (K := K) (ed_ixT (ds := r.ns.map .str) (ed_nm (p_rk1 (p_var (i := 0) h1 h2))) ev_c (by rw [hns]; exact atI_zero _ _)))
  have last : ∀ {B' : Hp} {σ : L2.St} {v0 : V}, σ[0]? = some (some v0) → (RkP K r).P v0 B' → EvP (tOp (rIxT K) (tOp (rIxT K) (tVar 0) (tC (.int 1))) _) σ B' (IsV (.str nl)) := fun h1 h2 => p_ev (ev_st (K := K) (ed_ixT (ds := r.ns.map .str) (ed_nm (p_rk1 (p_var (i := 0) h1 h2))) (ev_un ev_c ru_neg) hat))
  refine b_seq (ps_asgN (fun x => [some vr, some x, none, none, none, none]) k.e (p_dv (u := gd) (a := .str n0) (b := .int 2) (c := .int 0) (by rw [hgd]) (by rw [hgd]) (by rw [hgd]) (q_cons (first rfl hR) (q_cons p_c (q_cons p_c q_nil)))) (fun v1 B1 H1 g1 h1 => ?_) (fun _ => rfl))
  have k1 := k.gr g1
  have hR1 := (RkP K r).m g1.b hR
  clear k
  dsimp only
  have spots : ∀ u : Dv, u ∈ [(⟨"aaaaaaaa", 0, 0⟩ : Dv), ⟨"zzzzzzzz", 0, 0⟩, ⟨n0, 0, 1⟩, ⟨nl, 1, 0⟩] → dvB u.D = true ∧ asB u.D = true ∧ gd ≠ u := fun u hu => by
    have key : IsNm u.n ∧ 0 ≤ u.i ∧ 0 ≤ u.j ∧ u.i ≠ 2 := by
      simp only [List.mem_cons, List.not_mem_nil, or_false] at hu
      rcases hu with rfl | rfl | rfl | rfl
      · exact ⟨by unfold IsNm; decide +kernel, by decide, by decide, by decide⟩
      · exact ⟨by unfold IsNm; decide +kernel, by decide, by decide, by decide⟩
      · exact ⟨hok.nm _ hn0, by show (0 : Int) ≤ 0; decide, by show (0 : Int) ≤ 1; decide, by show (0 : Int) ≠ 2; decide⟩
      · exact ⟨hok.nm _ hnl, by show (0 : Int) ≤ 1; decide, by show (0 : Int) ≤ 0; decide, by show (1 : Int) ≠ 2; decide⟩
    exact ⟨dvB_of key.1 key.2.1 key.2.2.1, as_dv key.1, fun e => key.2.2.2 (by rw [← e, hgd])⟩
  have src := src_lq (K := K) (p_lq (p_lst (ps := [DvP ⟨"aaaaaaaa", 0, 0⟩, DvP ⟨"zzzzzzzz", 0, 0⟩, DvP ⟨n0, 0, 1⟩, DvP ⟨nl, 1, 0⟩]) (σ := [some vr, some v1, none, none, none, none]) (B := B1)
    (q_cons (p_dv (u := ⟨"aaaaaaaa", 0, 0⟩) (a := .str "aaaaaaaa") (b := .int 0) (c := .int 0) rfl rfl rfl (q_cons p_c (q_cons p_c (q_cons p_c q_nil))))
    (q_cons (p_dv (u := ⟨"zzzzzzzz", 0, 0⟩) (a := .str "zzzzzzzz") (b := .int 0) (c := .int 0) rfl rfl rfl (q_cons p_c (q_cons p_c (q_cons p_c q_nil))))
    (q_cons (p_dv (u := ⟨n0, 0, 1⟩) (a := .str n0) (b := .int 0) (c := .int 1) rfl rfl rfl (q_cons (first rfl hR1) (q_cons p_c (q_cons p_c q_nil))))
    (q_cons (p_dv (u := ⟨nl, 1, 0⟩) (a := .str nl) (b := .int 1) (c := .int 0) rfl rfl rfl (q_cons (last rfl hR1) (q_cons p_c (q_cons p_c q_nil)))) q_nil)))) (by show 4 ≤ 100000; decide)))
  refine b_seq (ps_forS k1.e src fun B2 H2 g2 => ?_)
  have k2 := k1.gr g2
  have G2 : GX d B H B2 H2 := (GX.gr g1).trans (GX.gr g2)
  have hR2 := (RkP K r).m g2.b hR1
  have h12 := (DvP gd).m g2.b h1
  refine ⟨fun i σ H' => ∃ (B' : Hp) (x2 x3 x4 : Option V), Kx T d n B' H' ∧ GX d B2 H2 B' H' ∧ σ = [some vr, some v1, x2, x3, x4, none], ⟨B2, none, none, none, k2, GX.refl, rfl⟩, (fun i σ H' _ h => by obtain ⟨B', _, _, _, k', g', _⟩ := h; exact g'.b.trans k'.e), fun i v σ H' hi pv px => ?_, fun σ H' pv => ?_⟩
  · obtain ⟨B', y2, y3, y4, k', g', rfl⟩ := pv
    obtain ⟨u, hu, px⟩ : ∃ u : Dv, u ∈ [(⟨"aaaaaaaa", 0, 0⟩ : Dv), ⟨"zzzzzzzz", 0, 0⟩, ⟨n0, 0, 1⟩, ⟨nl, 1, 0⟩] ∧ (DvP u).P v B2 := by
      have hi : i < 4 := hi
      match i, hi, px with
      | 0, _, px => exact ⟨_, by simp, px⟩
      | 1, _, px => exact ⟨_, by simp, px⟩
      | 2, _, px => exact ⟨_, by simp, px⟩
      | 3, _, px => exact ⟨_, by simp, px⟩
    obtain ⟨du, au, nu⟩ := spots u hu
    have hR3 := (RkP K r).m g'.b hR2
    have h13 := (DvP gd).m g'.b h12
    have px3 := (DvP u).m g'.b px
    dsimp only [gName, List.set_cons_succ, List.set_cons_zero]
    have lc : EvP (tLc (iTup K (tTup (tCons (tVar 1) (tCons (tVar 2) tNil)))) (gName 5) tYes (tTup (tCons (tTup (tCons (tTup (tCons (tVar 5) (tCons (tC (.int 1)) tNil))) tNil)) (tCons (tTup (tCons (tC (.int 1)) (tCons (tC (.int 1)) tNil))) tNil))) [5]) [some vr, some v1, some v, y3, y4, none] B' (LsP (([oneT gd, oneT u] : Po).map (tmP K))) := by
      have := p_lcS (tt := tYes) (g := gName 5) (vs := [5]) (te := (tTup (tCons (tTup (tCons (tTup (tCons (tVar 5) (tCons (tC (.int 1)) tNil))) tNil)) (tCons (tTup (tCons (tC (.int 1)) (tCons (tC (.int 1)) tNil))) tNil)))) (σ := [some vr, some v1, some v, y3, y4, none]) (B := B') (src_tu (p_tup (K := K) (ps := [DvP gd, DvP u]) (q_cons (p_var (i := 1) rfl h13) (q_cons (p_var (i := 2) rfl px3) q_nil)) (by show 2 ≤ 100000; decide))) (by show 2 ≤ 100000; decide) (fun _ => true) (fun i => tmP K (oneT ([gd, u].getD i gd))) fun i z B4 hi e pz => ?_
      · exact this
      have hi : i < 2 := hi
      have pz : (DvP ([gd, u].getD i gd)).P z B4 := by
        match i, hi, pz with
        | 0, _, pz => exact pz
        | 1, _, pz => exact pz
      exact ⟨[some vr, some v1, some v, y3, y4, some z], rfl, fun H2 Q e q => q, et_yes, fun _ => (p_tup (K := K) (ps := [moP K [(([gd, u].getD i gd), 1)], frP K (1, 1)]) (q_cons (p_tup (K := K) (ps := [pwP K (([gd, u].getD i gd), 1)]) (q_cons (p_tup (K := K) (ps := [DvP ([gd, u].getD i gd), IsV (.int 1)]) (q_cons (p_var (i := 5) rfl pz) (q_cons p_c q_nil)) (by show 2 ≤ 100000; decide)) q_nil) (by show 1 ≤ 100000; decide)) (q_cons (p_tup (K := K) (ps := [IsV (.int 1), IsV (.int 1)]) (q_cons p_c (q_cons p_c q_nil)) (by show 2 ≤ 100000; decide)) q_nil)) (by show 2 ≤ 100000; decide))⟩
    have hs := as_sm au
    have ksum : RpfG K [RkP K r, poP K (twoPo gd u)] (IsV (.bl (fitsB r u.D))) := .inr ⟨r, twoPo gd u, two_po dgd du nu, as_sm (two_as agd au), two_len _ _, rfl, by rw [two_all (st_Of ogd), fits_dv du]⟩
    refine b_seq (ps_parX (i := 3) (j := 4) (p := poP K (twoPo gd u)) (q := IsV (.bl (fitsB r u.D))) k'.e (q_cons (p_tupL (K := K) (p_sortT lc)) (q_cons (p_callP (R := RknE K) (ps := [RkP K r, DvP u]) (q_cons (p_var (i := 0) rfl hR3) (q_cons (p_var (i := 2) rfl px3) q_nil)) ⟨r, _, u.D, hok, toE_of (to_dv u), au, rfl, rfl⟩) q_nil)) fun w3 w4 B4 H4 g4 h3 h4 => ?_)
    obtain rfl : w4 = .bl (fitsB r u.D) := h4
    have k4 := k'.gr g4
    have hR4 := (RkP K r).m g4.b hR3
    have px4 := (DvP u).m g4.b px3
    dsimp only [List.set_cons_succ, List.set_cons_zero]
    obtain ⟨sh1, sh2, sh3⟩ := two_sh (fitsB r u.D)
    have asked : EvP (tCall (spO (RisO K (cx 2))) [] E0 (tCons (tVar 0) (tCons (tVar 2) tNil))) [some vr, some v1, some v, some w3, some (.bl (fitsB r u.D)), none] B4 (IsV (.bl (fitsB r u.D))) := p_callO (ps := [RkP K r, DvP u]) (q_cons (p_var (i := 0) rfl hR4) (q_cons (p_var (i := 2) rfl px4) q_nil)) (.inl ⟨r, _, u.D, hok, toE_of (to_dv u), hs, rfl, rfl⟩)
    have held : EvP (tCall (spO (RhoO K (cx 2))) [] E0 (tCons (tVar 0) (tCons (tVar 3) tNil))) [some vr, some v1, some v, some w3, some (.bl (fitsB r u.D)), none] B4 (IsV (.bl (fitsB r u.D))) := p_callO (ps := [RkP K r, poP K (twoPo gd u)]) (q_cons (p_var (i := 0) rfl hR4) (q_cons (p_var (i := 3) rfl h3) q_nil)) (.inl ⟨r, _, _, hok, ksum, rfl, rfl⟩)
    have l1 : EvP _ [some vr, some v1, some v, some w3, some (.bl (fitsB r u.D)), none] B4 (IsD K (twoD (fitsB r u.D))) := p_to (p_lst (q_cons asked (q_cons held q_nil)) (by show 2 ≤ 100000; decide)) (to_lst (.cons to_bl (.cons to_bl .nil)))
    have l2 : EvP _ [some vr, some v1, some v, some w3, some (.bl (fitsB r u.D)), none] B4 (IsD K (twoD (fitsB r u.D))) := p_to (p_lst (q_cons (p_varV (i := 4) rfl) (q_cons (p_varV (i := 4) rfl) q_nil)) (by show 2 ≤ 100000; decide)) (to_lst (.cons to_bl (.cons to_bl .nil)))
    refine ps_ifN k4.e (et_is (et_test (ev_op (Gd.ev_repr l1 sh1 sh2 sh3) (Gd.ev_repr l2 sh1 sh2 sh3) (rv_ne rfl))) (by simp)) fun H5 e5 => ?_
    exact ⟨B4, some v, some w3, some (.bl (fitsB r u.D)), k4.ex e5, g'.trans ((GX.gr g4).trans (GX.ex e5)), rfl⟩
  · obtain ⟨B', y2, y3, y4, k', g', rfl⟩ := pv
    dsimp only
    refine My.ps_ret k'.e (p_c (v := .bl true)) fun v9 B9 H9 g9 hv9 => ?_
    obtain rfl : v9 = .bl true := hv9
    exact q B9 H9 (k'.gr g9) (G2.trans (g'.trans (GX.gr g9)))

end
end K12
namespace Nd
set_option autoImplicit false
open PySem PySem.Spec PySem.W PyProof.Rows L2 My Evl LamX NdefX
theorem leaf_nm {x : Str} (h : IsNm x) : leafB (.str x) = true := K12.as_nm h
theorem leaf_int0 (i : Int) : leafB (.int i) = true := rfl
/-- what a ranking is made of -/
theorem rk_wd {r : Rk} (h : r.Ok) : Wd [3, 3, 3] (.tuple [.str r.srt, .tuple (r.ns.map .str), .tuple (r.axs.map .str)]) := wd_tu (by show 3 ≤ 3; decide) fun x hx => by
  simp only [List.mem_cons, List.not_mem_nil, or_false] at hx
  rcases hx with rfl | rfl | rfl
  · refine Wd.leaf ?_
    unfold Rk.srt
    split <;> decide +kernel
  · refine wd_tu (by rw [List.length_map]; exact h.le) fun y hy => ?_
    obtain ⟨z, hz, rfl⟩ := List.mem_map.mp hy
    exact Wd.leaf (leaf_nm (h.nm _ hz))
  · have ax : ∀ a : Fin 3, (axsOf a).length ≤ 3 ∧ ∀ x ∈ axsOf a, leafB (.str x) = true := by decide +kernel
    refine wd_tu (by rw [List.length_map]; exact (ax r.ax).1) fun y hy => ?_
    obtain ⟨z, hz, rfl⟩ := List.mem_map.mp hy
    exact Wd.leaf ((ax r.ax).2 _ hz)
theorem bent_rk {r : Rk} (hok : r.Ok) {ds : List PyData} (e : ds = [.str r.srt, .tuple (r.ns.map .str), .tuple (r.axs.map .str)]) {x : PyData} (h : BentF ds x ∨ ∃ (i : Nat) (es : List PyData) (y : PyData), ds[i]? = some (.tuple es) ∧ BentF es y ∧ x = .tuple (ds.take i ++ [y] ++ ds.drop (i + 1))) : RkW x := by
  have w := rk_wd hok
  rw [← e] at w
  unfold RkW
  rcases h with h | ⟨i, es, y, h1, h2, rfl⟩
  · exact Wd.mono (ws := [7, 3, 3]) ⟨by decide, by decide, by decide, trivial⟩ (h.wd w (by decide) (by decide))
  · obtain ⟨l, m⟩ := w.tu
    have wy : Wd [7, 3] y := h2.wd (m _ (List.mem_of_getElem? h1)) (by decide) (by decide)
    refine wd_tu ?_ fun z hz => ?_
    · simp only [List.length_append, List.length_take, List.length_drop, List.length_singleton]
      omega
    · rcases List.mem_append.mp hz with hz | hz
      · rcases List.mem_append.mp hz with hz | hz
        · exact Wd.mono (ws := [3, 3]) ⟨by decide, by decide, trivial⟩ (m _ (List.mem_of_mem_take hz))
        · rw [List.mem_singleton.mp hz]
          exact wy
      · exact Wd.mono (ws := [3, 3]) ⟨by decide, by decide, trivial⟩ (m _ (List.mem_of_mem_drop hz))
theorem bent_dv {u : Dv} (hn : IsNm u.n) {x : PyData} (h : BentF [.str u.n, .int u.i, .int u.j] x) : asB x = true := as_wd (h.wd (w := 3) (v := 3) (r := []) (wd_tu (by show 3 ≤ 3; decide) fun y hy => by
  simp only [List.mem_cons, List.not_mem_nil, or_false] at hy
  rcases hy with rfl | rfl | rfl
  · exact Wd.leaf (leaf_nm hn)
  · exact Wd.leaf (leaf_int0 _)
  · exact Wd.leaf (leaf_int0 _)) (by decide) (by decide))
theorem nm_tu {K : PySem.W.Frag} {ns : List Str} {v : V} {H : Hp} (h : (NmP ns).P v H) : (TuP K (ns.map fun x => IsV (.str x))).P v H := by
  obtain ⟨a, o, rfl, h1, _⟩ := h
  exact ⟨a, _, rfl, .inl (.inr ⟨o, h1⟩), K12.all_strs _⟩
theorem strs_v {H : Hp} : ∀ {ns : List Str} {xs : List V}, AllP (ns.map fun x => IsV (.str x)) xs H → xs = ns.map V.str
  | [], [], _ => rfl
  | _ :: _, _ :: _, h => by rw [show _ = V.str _ from h.1, strs_v h.2]; rfl
theorem all4 {p q r s : Pr} {vs : List V} {H : Hp} (h : AllP [p, q, r, s] vs H) : ∃ a b c d, vs = [a, b, c, d] ∧ p.P a H ∧ q.P b H ∧ r.P c H ∧ s.P d H := by
  match vs, h with
  | [a, b, c, d], h => exact ⟨a, b, c, d, rfl, h.1, h.2.1, h.2.2.1, h.2.2.2.1⟩
end Nd
namespace K12
set_option autoImplicit false
open PySem PySem.Spec PySem.W PyProof.Rows L2 Evl My Nd LamX NdefX
theorem tu_nt {K : PySem.W.Frag} {ns : List Str} {v : V} {H : Hp} (h : (TuP K (ns.map fun x => IsV (.str x))).P v H) : (NtP K ns).P v H := by
  obtain ⟨a, xs, rfl, h1, h2⟩ := h
  rw [strs_v h2] at h1
  exact ⟨a, rfl, h1⟩
section
variable {te : TE} {σ : L2.St} {B H : Hp} {K : PySem.W.Frag} {T : List (Addr × Str)} {d : Addr} {n : Nat} {Q : VK}
theorem due_non {o : Option (Option Str)} {v : V} (h : (dueP o).P v H) : decide (v = V.non) = o.isNone := by
  cases o with
  | none =>
    have h : v = .non := h
    rw [h]
    rfl
  | some w =>
    obtain ⟨l, xs, rfl, _⟩ := h
    rfl
theorem ev_dueI {o : Option (Option Str)} (h : EvP te σ B (dueP o)) : Ev (tOp (fun x y H Q => y = V.non ∧ Q (.bl (decide (x = V.non))) H) te (tC .non)) σ B (.bl o.isNone) := fun H1 a Q k =>
  h H1 a _ fun v B2 H2 g hv => ⟨rfl, by rw [due_non hv]; exact k H2 g.a⟩
theorem ev_dueNo {o : Option (Option Str)} (h : EvP te σ B (dueP o)) : Ev (tOp (fun x y H Q => y = V.non ∧ Q (.bl (!decide (x = V.non))) H) te (tC .non)) σ B (.bl (!o.isNone)) := fun H1 a Q k =>
  h H1 a _ fun v B2 H2 g hv => ⟨rfl, by rw [due_non hv]; exact k H2 g.a⟩
theorem b_ifNotB {t u : TS} {D : Ends} (h : te σ H fun v H1 => ∃ b, v = V.bl b ∧ (if (!b) = true then t D σ H1 else u D σ H1)) : tIfS (tNot (tB te)) t u D σ H := h
/-- the derivative, or what it is bent into -/
theorem x_item {tt : TT} {b : Bool} {vu : V} {u : Dv} (k : Kx T d n B H) (hn : n ≤ 2 ^ 36) (h3 : σ[3]? = some (some (.ref d))) (h5 : σ[5]? = some (some vu)) (ht : EvT tt σ B b) (nm : IsNm u.n) (hu : (DvP u).P vu B)
    (q : ∀ x v B2 H2, asB x = true → (FeP K TxP x).P v B2 → Kx T d (n + 20) B2 H2 → GX d B H B2 H2 → Q v H2) :
    tIf tt (tVar 5) (tCall (spBent0 K T TxP) [] E0 (tCons (tVar 3) (tCons (tVar 5) tNil))) σ H Q := ht H k.e _ fun H1 e1 => by
  have k1 := k.ex e1
  have hT := dv_tx (K := K) hu
  cases b with
  | true =>
    rw [if_pos rfl]
    exact ⟨vu, h5, q u.D vu B H1 (as_dv nm) ⟨dp_de (to_dv u _ _ hu), fun es e => by cases e; exact hT⟩ (k1.le (by omega)) (GX.ex e1)⟩
  | false =>
    rw [if_neg Bool.false_ne_true]
    refine ⟨.ref d, h3, vu, h5, ?_⟩
    refine ⟨B, d, n, [.str u.n, .int u.i, .int u.j], vu, rfl, hT, by show 3 ≤ 100; decide, fun x hx => ?_, k1, hn, fun x v B' H' hx k' g' hv => q x v B' H' (bent_dv nm hx) hv k' ((GX.ex e1).trans g')⟩
    simp only [List.mem_cons, List.not_mem_nil, or_false] at hx
    rcases hx with rfl | rfl | rfl <;> rfl
end
def spLaw (K : PySem.W.Frag) (T : List (Addr × Str)) : Sp := fun vs H Q _ => ∃ (a : Addr) (ns : List Int), vs = [.ref a] ∧ SqL K H a (ns.map V.int) ∧ ns.length ≤ 63 ∧ Tabs T H ∧ ∀ H', Q (.bl true) H'
theorem em_in : dvsIn ([] : Po) = [] := by
  refine List.eq_nil_iff_forall_not_mem.mpr fun x hx => ?_
  exact absurd (mem_in.mp hx) List.not_mem_nil
theorem ref_facts : SeqAt.shaped (.tuple ([("total" : Str), "names"].map .str)) = true ∧ SeqAt.shaped (.tuple [PyData.tuple [.str "x"], .tuple [.str "x", .str "y"], .tuple [.str "y", .str "x"]]) = true ∧ poB (poD []) = true ∧ smB (poD []) = true ∧ poB .none = false ∧ IsNm "other" := ⟨by decide +kernel, by decide +kernel, by decide +kernel, by decide +kernel, by decide +kernel, by unfold IsNm; decide +kernel⟩
section
variable {P : Program} {w : World} {K : PySem.W.Frag} {mg : Str → Option Value} {base : Heap} {T : List (Addr × Str)}

/-- law -/
abbrev s_law : Stmt := topS 78
abbrev N_law : List Str := ["_law_script", "_law_k", "_law_cell", "_law_state", "_law_by_here", "_law_a", "_law_turn", "_law_bad", "_law_it"]
theorem sc_law : FnScope N_law ["_law_script"] (defScope s_law) := ⟨rfl, rfl, rfl, by decide +kernel, rfl, by decide +kernel, by decide +kernel⟩
theorem ok_law {f : Addr} {fd : FuncData} (F : Fun K "law" "law" s_law f fd) {cx : Nat → Addr} {f_Ldraw : Addr} {d_Ldraw : FuncData} (c_Ldraw : Cal P w K mg base "_law_draw" 1 ["_law_cell", "_law_k"] spDraw f_Ldraw d_Ldraw) {f_Lby : Addr} {d_Lby : FuncData} (c_Lby : Cal P w K mg base "_law_by" 5 ["_law_state"] (spBy K) f_Lby d_Lby) {f_is_ranking : Addr} {d_is_ranking : FuncData} (c_is_ranking : Cal P w K mg base "is_ranking" 5 ["thing"] (spP (RkB K)) f_is_ranking d_is_ranking) {f_need_ranking : Addr} {d_need_ranking : FuncData} (c_need_ranking : CalX P w K mg base "need_ranking" 4 ["ranking"] (spO (RrkG K (cx 2))) f_need_ranking d_need_ranking) {f_Lderivative : Addr} {d_Lderivative : FuncData} (c_Lderivative : Cal P w K mg base "_law_derivative" 3 ["_law_state", "_law_names_here", "_law_axes", "_law_high"] (spDer K) f_Lderivative d_Lderivative) {f_Lbent : Addr} {d_Lbent : FuncData} (c_Lbent : Cal P w K mg base "_law_bent" 5 ["_law_state", "_law_it"] (spBent1 K T) f_Lbent d_Lbent) {f_Ldue : Addr} {d_Ldue : FuncData} (c_Ldue : Cal P w K mg base "_law_due" 3 ["_law_it"] (spP (RdueR K)) f_Ldue d_Ldue) {f_holds_of : Addr} {d_holds_of : FuncData} (c_holds_of : CalX P w K mg base "holds_of" 10 ["ranking", "thing"] (spO (RhoO K (cx 2))) f_holds_of d_holds_of) (n_enumerate : mg "enumerate" = none) (n_sum : mg "sum" = none) (n_repr : mg "repr" = none) (n_range : mg "range" = none) {f_Lgood_right : Addr} {d_Lgood_right : FuncData} (c_Lgood_right : Gd.CalG P w K mg base "_law_good_right" 14 ["_law_state", "_law_by_here", "_law_it"] (spGood K T) f_Lgood_right d_Lgood_right) {f_Lbad_right : Addr} {d_Lbad_right : FuncData} (c_Lbad_right : Cal P w K mg base "_law_bad_right" 14 ["_law_bad", "_law_by_here", "_law_a"] (spBad K T) f_Lbad_right d_Lbad_right) {f_Lsums_right : Addr} {d_Lsums_right : FuncData} (c_Lsums_right : Gd.CalG P w K mg base "_law_sums_right" 14 ["_law_by_here"] (spSums K T) f_Lsums_right d_Lsums_right) (c_Lbent0 : Cal P w K mg base "_law_bent" 4 ["_law_state", "_law_it"] (spBent0 K T TxP) f_Lbent d_Lbent) (KB_is_ranking : KBn K d_is_ranking ["thing"] 0 ["thing"] Gd.gKu Gd.gKs) {aS : Addr} (g_SORTS : mg "SORTS" = some (.ref aS)) (v_SORTS : ∀ H, Dp K H (.ref aS) (.tuple ([("total" : Str), "names"].map .str))) {aL : Addr} (g_ALL : mg "AXES_ALL" = some (.ref aL)) (v_ALL : ∀ H, Dp K H (.ref aL) (.tuple [PyData.tuple [.str "x"], .tuple [.str "x", .str "y"], .tuple [.str "y", .str "x"]])) :
    Gd.FnG P w K mg base 17 f fd ["_law_script"] (spLaw K T) := by
  refine Gd.okG F sc_law (fun vs H Q E h => by obtain ⟨a, ns, rfl, _⟩ := h; rfl) (fun cdv A outer s H vs Q E hr hG h => ?_)
  obtain ⟨a, ns, rfl, hSq, hlen, hTb, q⟩ := h
  have hu := hu_of hr
  refine ⟨_, (pss_cons (ps_if (PW.pt (pw_or (pt_cmpR (show OpR _ (compareOp .NotEq) (rNeD K) from op_neD hr.units) (pe_glob (by rfl) (v := .ref aS) g_SORTS rfl) (pe_tup (pa_cons pe_str (pa_cons pe_str pa_nil))) (nomark _)) (pw_or1 (pt_cmpR (show OpR _ (compareOp .NotEq) (rNeD K) from op_neD hr.units) (pe_glob (by rfl) (v := .ref aL) g_ALL rfl) (pe_tup (pa_cons (pe_tup (pa_cons pe_str pa_nil)) (pa_cons (pe_tup (pa_cons pe_str (pa_cons pe_str pa_nil))) (pa_cons (pe_tup (pa_cons pe_str (pa_cons pe_str pa_nil))) pa_nil)))) (nomark _))))) (pss_one (ps_ret pe_bl)) pss_nil)
    (pss_cons (ps_for PassesOwn.never rfl (pi_enum (by rfl) n_enumerate (pa_cons (pe_op op_cat (pe_slice sl_list (pv 0) po_none (po_some pe_int)) (pe_lst (pa_cons (pe_callB (cr_sum rfl) (by rfl) n_sum (by decide +kernel) (pa_cons (pv 0) pa_nil)) pa_nil))) pa_nil)) (pg_tup (by rfl) (pgs_cons (pg_name (i := 1) sc_law.nd rfl (by first | exact .inl rfl | exact .inr rfl)) (pgs_cons (pg_name (i := 2) sc_law.nd rfl (by first | exact .inl rfl | exact .inr rfl)) pgs_nil)))
      (pss_cons (ps_set (i := 3) sc_law.nd rfl (by first | exact .inl rfl | exact .inr rfl) (pe_call c_Ldraw.G (hr.mono (by decide)) (by rfl) c_Ldraw.m c_Ldraw.k c_Ldraw.b .nil pass0 (pa_cons (pv 2) (pa_cons (pv 1) pa_nil))))
    (pss_cons (ps_set (i := 4) sc_law.nd rfl (by first | exact .inl rfl | exact .inr rfl) (pe_call c_Lby.G (hr.mono (by decide)) (by rfl) c_Lby.m c_Lby.k c_Lby.b .nil pass0 (pa_cons (pv 3) pa_nil)))
    (pss_cons (ps_if (PW.pt (pw_or (pt_cmpR op_notBlo (pe_call c_is_ranking.G (hr.mono (by decide)) (by rfl) c_is_ranking.m c_is_ranking.k c_is_ranking.b .nil pass0 (pa_cons (pv 4) pa_nil)) pe_bl (nomark _)) (pw_or (pt_cmpR op_notN (pe_call c_need_ranking.G (hr.mono (by decide)) (by rfl) c_need_ranking.m c_need_ranking.k c_need_ranking.b .nil L2.passL (pa_cons (pv 4) pa_nil)) pe_non (nomark _)) (pw_or1 (pt_cmpR op_notBlo (Gd.pe_callN0 c_is_ranking.G (hr.mono (by decide)) (by rfl) c_is_ranking.m c_is_ranking.k KB_is_ranking pass0 (pk_cons (pv 4) pk_nil)) pe_bl (nomark _)))))) (pss_one (ps_ret pe_bl)) pss_nil)
    (pss_cons (ps_set (i := 5) sc_law.nd rfl (by first | exact .inl rfl | exact .inr rfl) (pe_call c_Lderivative.G (hr.mono (by decide)) (by rfl) c_Lderivative.m c_Lderivative.k c_Lderivative.b .nil pass0 (pa_cons (pv 3) (pa_cons (pe_op op_catA (pe_ix (show IxR _ (rIxT K) from ix_tup) (pv 4) pe_int (fun _ _ => rfl)) (pe_tup (pa_cons pe_str pa_nil))) (pa_cons pe_int (pa_cons pe_int pa_nil))))))
    (pss_cons (ps_for PassesOwn.never rfl (pi_range1 (by rfl) n_range (pa_cons pe_int pa_nil)) (pg_name (i := 6) sc_law.nd rfl (by first | exact .inl rfl | exact .inr rfl))
      (pss_cons (ps_par (i := 7) (j := 8) rfl sc_law.nd rfl rfl (by decide) rfl rfl (pa_cons (pe_call c_Lbent.G (hr.mono (by decide)) (by rfl) c_Lbent.m c_Lbent.k c_Lbent.b .nil pass0 (pa_cons (pv 3) (pa_cons (pv 4) pa_nil))) (pa_cons (pe_ifExp (pt_cmpR op_eq (pv 6) pe_int (nomark _)) (pv 5) (pe_call c_Lbent0.G (hr.mono (by decide)) (by rfl) c_Lbent0.m c_Lbent0.k c_Lbent0.b .nil pass0 (pa_cons (pv 3) (pa_cons (pv 5) pa_nil)))) pa_nil)) (by rfl))
    (pss_cons (ps_if (pt_not (pt_val (Gd.pe_callG c_Lgood_right.G (hr.mono (by decide)) hG (by rfl) c_Lgood_right.m c_Lgood_right.k c_Lgood_right.b .nil pass0 (pa_cons (pv 3) (pa_cons (pv 4) (pa_cons (pv 8) pa_nil)))))) (pss_one (ps_ret pe_bl)) pss_nil)
    (pss_cons (ps_if (pt_cmpR op_ne (pe_callB (Gd.call_reprG hG hr.units) (by rfl) n_repr (by decide +kernel) (pa_cons (pe_call c_is_ranking.G (hr.mono (by decide)) (by rfl) c_is_ranking.m c_is_ranking.k c_is_ranking.b .nil pass0 (pa_cons (pv 7) pa_nil)) pa_nil)) (pe_callB (Gd.call_reprG hG hr.units) (by rfl) n_repr (by decide +kernel) (pa_cons (pe_cmpR op_isN (pe_call c_Ldue.G (hr.mono (by decide)) (by rfl) c_Ldue.m c_Ldue.k c_Ldue.b .nil pass0 (pa_cons (pv 7) pa_nil)) pe_non (nomark _)) pa_nil)) (nomark _)) (pss_one (ps_ret pe_bl)) pss_nil)
    (pss_one (ps_if (PW.pt (pw_and (pt_cmpR op_notN (pe_call c_Ldue.G (hr.mono (by decide)) (by rfl) c_Ldue.m c_Ldue.k c_Ldue.b .nil pass0 (pa_cons (pv 7) pa_nil)) pe_non (nomark _)) (pw_and1 (pt_not (pt_val (pe_call c_Lbad_right.G (hr.mono (by decide)) (by rfl) c_Lbad_right.m c_Lbad_right.k c_Lbad_right.b .nil pass0 (pa_cons (pv 7) (pa_cons (pv 4) (pa_cons (pv 5) pa_nil))))))))) (pss_one (ps_ret pe_bl)) pss_nil))))))
    (pss_cons (ps_if (PW.pt (pw_or (pt_cmpR op_notBlo (pe_call c_holds_of.G (hr.mono (by decide)) (by rfl) c_holds_of.m c_holds_of.k c_holds_of.b .nil L2.passL (pa_cons (pv 4) (pa_cons (pe_tup pa_nil) pa_nil))) pe_bl (nomark _)) (pw_or (pt_cmpR op_notBlo (pe_call c_holds_of.G (hr.mono (by decide)) (by rfl) c_holds_of.m c_holds_of.k c_holds_of.b .nil L2.passL (pa_cons (pv 4) (pa_cons pe_non pa_nil))) pe_bl (nomark _)) (pw_or1 (pt_cmpR op_notBlo (pe_call c_holds_of.G (hr.mono (by decide)) (by rfl) c_holds_of.m c_holds_of.k c_holds_of.b .nil L2.passL (pa_cons (pv 4) (pa_cons (pe_lst (pa_cons (pv 5) pa_nil)) pa_nil))) pe_bl (nomark _)))))) (pss_one (ps_ret pe_bl)) pss_nil)
    (pss_one (ps_if (pt_not (pt_val (Gd.pe_callG c_Lsums_right.G (hr.mono (by decide)) hG (by rfl) c_Lsums_right.m c_Lsums_right.k c_Lsums_right.b .nil pass0 (pa_cons (pv 4) pa_nil)))) (pss_one (ps_ret pe_bl)) pss_nil)))))))))
    (pss_one (ps_ret pe_bl)))), ?_⟩
  obtain ⟨rf1, rf2, rf3, rf4, rf5, rf6⟩ := ref_facts
  let N0 : Hp := fun _ => none
  have en : Ex N0 H := fun b o e => by cases e
  refine b_seq (ps_ifN en (et_is (et_or (a := false) (b := false) (et_ne (K := K) (d := .tuple ([("total" : Str), "names"].map .str)) (ed_ref (v_SORTS N0)) (p_to (p_tup (K := K) (q_cons p_c (q_cons p_c q_nil)) (by show 2 ≤ 100000; decide)) (to_tup (.cons to_str (.cons to_str .nil)))) rf1)
    fun _ => et_ne (K := K) (d := .tuple [PyData.tuple [.str "x"], .tuple [.str "x", .str "y"], .tuple [.str "y", .str "x"]]) (ed_ref (v_ALL N0)) (p_to (p_tup (K := K) (q_cons (p_tup (K := K) (q_cons p_c q_nil) (by show 1 ≤ 100000; decide)) (q_cons (p_tup (K := K) (q_cons p_c (q_cons p_c q_nil)) (by show 2 ≤ 100000; decide)) (q_cons (p_tup (K := K) (q_cons p_c (q_cons p_c q_nil)) (by show 2 ≤ 100000; decide)) q_nil))) (by show 3 ≤ 100000; decide)) (to_tup (.cons (to_tup (.cons to_str .nil)) (.cons (to_tup (.cons to_str (.cons to_str .nil))) (.cons (to_tup (.cons to_str (.cons to_str .nil))) .nil))))) rf2) rfl) fun H0 eH0 => ?_)
  have hSq := ex_l eH0 hSq
  have hTb := hTb.ext eH0
  clear en
  generalize H0 = H at hSq hTb ⊢
  walk_at "go"
  refine ⟨a, _, rfl, hSq, fun p1 hp1 => ?_⟩
  walk_at "go"
  refine ⟨a, ns, rfl, (Same.seq (My.new hp1) hSq), ?_⟩
  refine ⟨by show 1 ≤ sizeLine; decide, fun p2 hp2 => ?_⟩
  have n12 : p1 ≠ p2 := ne_of_none upd_same hp2
  refine ⟨p1, p2, _, _, rfl, rfl, by rw [upd_ne n12]; exact upd_same, upd_same, ?_, fun p3 hp3 => ?_⟩
  · have := My.cutTo (ns.map V.int) 8
    rw [show (8 : Int) = ((8 : Nat) : Int) from rfl, this, List.length_take]
    exact sz_of (by simp only [List.length_singleton]; omega)
  rw [show (8 : Int) = ((8 : Nat) : Int) from rfl, My.cutTo, ← List.map_take, show [V.int ns.sum] = [ns.sum].map V.int from rfl, ← List.map_append] at *
  have hT3 := ((hTb.ext (Ex.new hp1)).ext (Ex.new hp2)).ext (Ex.new (o := .lst ((ns.take 8 ++ [ns.sum]).map V.int)) hp3)
  generalize hcs : ns.take 8 ++ [ns.sum] = cs at hT3
  have hcl : cs.length ≤ 9 := by
    rw [← hcs, List.length_append, List.length_take]
    simp only [List.length_singleton]
    omega
  refine ⟨p3, cs.map V.int, rfl, sq_of upd_same, for_it (walk_enum (K := K) (a := p3) (xs := cs.map V.int)) (fun i σ H' => Tabs T H' ∧ H' p3 = some (.lst (cs.map V.int)) ∧ ∃ x1 x2 x3 x4 x5 x6 x7 x8 : Option V, σ = [some (.ref a), x1, x2, x3, x4, x5, x6, x7, x8])
    ⟨hT3, upd_same, none, none, none, none, none, none, none, none, rfl⟩ (fun i σ H' _ h => sq_of h.2.1) ?_ ?_⟩
  rotate_left
  · rintro σ H1 _
    exact q H1
  rintro i v σ H1 H2 hi ⟨t1, h3, x1, x2, x3, x4, x5, x6, x7, x8, rfl⟩ ⟨t, x, y, rfl, ht, rfl, hx, hy⟩
  obtain rfl := Option.some.inj hx
  rw [List.length_map] at hi
  obtain ⟨z, rfl⟩ : ∃ z : Int, y = V.int z := by
    have hy' : (cs.map V.int)[i]? = some y := hy
    rw [List.getElem?_map, List.getElem?_eq_getElem hi] at hy'
    exact ⟨_, (Option.some.inj hy').symm⟩
  have h3' : upd H1 t (HO.tup [V.int (i : Nat), V.int z]) p3 = some (.lst (cs.map V.int)) := by
    rw [upd_ne (ne_of_none h3 ht)]
    exact h3
  have T2 : Tabs T (upd H1 t (HO.tup [V.int (i : Nat), V.int z])) := t1.ext (Ex.new ht)
  refine ⟨t, _, rfl, st_of upd_same, rfl, _, _, rfl, _, _, rfl, rfl, ?_⟩
  generalize upd H1 t (HO.tup [V.int (i : Nat), V.int z]) = H2 at h3' T2 ⊢
  walk_at "go"
  refine ⟨z, (i : Nat), rfl, by omega, by omega, fun d Hd hd0 hDS S => ?_⟩
  have hd3 := S _ _ h3'
  have nd3 : p3 ≠ d := ne_of_none h3' hd0
  have Td : Tabs T Hd := T2.ext S
  dsimp only [gName, List.set_cons_succ, List.set_cons_zero]
  refine b_seq (b_asg ?_)
  refine ⟨.ref d, rfl, d, 1000000, rfl, hDS, by decide, fun vr r B0 H3 hok hR hE hNT hBd S1 hd1 => ?_⟩
  have j3 : H3 p3 = some (.lst (cs.map V.int)) := S1 _ _ nd3 hd3
  have T3 : Tabs T H3 := by
    obtain ⟨_, _, _, hdk, _⟩ := hDS
    exact tabs_but Td hdk S1
  have e0 : Ex B0 (upd B0 p3 (.lst (cs.map V.int))) := fun b o e => by
    by_cases n : b = p3
    · subst n
      have := hE _ _ e
      rw [j3] at this
      rw [upd_same]
      exact this
    · rw [upd_ne n]
      exact e
  have c0 : Ex (upd B0 p3 (.lst (cs.map V.int))) H3 := fun b o e => by
    by_cases n : b = p3
    · subst n
      rw [upd_same] at e
      rw [j3]
      exact e
    · rw [upd_ne n] at e
      exact hE _ _ e
  have k0 : Kx T d (1000000 + 300) (upd B0 p3 (.lst (cs.map V.int))) H3 := ⟨c0, nt_upd hNT (fun _ z => nomatch z), T3, by rw [upd_ne nd3.symm]; exact hBd, hd1⟩
  have hR0 := (RkP K r).m e0 hR
  have cp0 : (upd B0 p3 (.lst (cs.map V.int))) p3 = some (.lst (cs.map V.int)) := upd_same
  generalize upd B0 p3 (.lst (cs.map V.int)) = C0 at hR0 k0 cp0
  dsimp only [gName, List.set_cons_succ, List.set_cons_zero]
  have nr : rkDue r.D = none := due_rk hok
  have isr : EvP (tCall (spP (RkB K)) [] E0 (tCons (tVar 4) tNil)) [some (.ref a), some (.int (i : Nat)), some (.int z), some (.ref d), some vr, x5, x6, x7, x8] C0 (IsV (.bl true)) := p_callP (R := RkB K) (ps := [RkP K r]) (q_cons (p_var (i := 4) rfl hR0) q_nil) ⟨_, r.D, toE_rk r, rkh_rk hok, rfl, by rw [nr]; rfl⟩
  have isrK : EvP (tCallN 0 1 (spP (RkB K)) Gd.gKs E0 tNil (tCons (tVar 4) tNil)) [some (.ref a), some (.int (i : Nat)), some (.int z), some (.ref d), some vr, x5, x6, x7, x8] C0 (IsV (.bl true)) := Gd.p_callNP (RP' := RkB K) (ps := [RkP K r]) (q_cons (p_var (i := 4) rfl hR0) q_nil) rfl ⟨_, r.D, toE_rk r, rkh_rk hok, rfl, by rw [nr]; rfl⟩
  have ndr : EvP (tCall (spO (RrkG K (cx 2))) [] E0 (tCons (tVar 4) tNil)) [some (.ref a), some (.int (i : Nat)), some (.int z), some (.ref d), some vr, x5, x6, x7, x8] C0 (IsV .non) := p_callO (ps := [RkP K r]) (q_cons (p_var (i := 4) rfl hR0) q_nil) (rk_call hok)
  refine b_seq (ps_ifN k0.e (et_is (et_or (a := false) (b := false) (et_is (et_test (ev_notB (b := true) (c := true) (ev_p isr))) rfl) fun _ => et_is (et_or (a := false) (b := false) (et_test (ev_notN ndr)) fun _ => et_is (et_test (ev_notB (b := true) (c := true) (ev_p isrK))) rfl) rfl) rfl) fun H4 e4 => ?_)
  have k1 := k0.ex e4
  dsimp only
  -- a derivative
  have nts : EvPs (tCons (tVar 3) (tCons (tOp (rCatA K) (tOp (rIxT K) (tVar 4) (tC (.int 1))) (tTup (tCons (tC (.str "other")) tNil))) (tCons (tC (.int 2)) (tCons (tC (.int 4)) tNil)))) [some (.ref a), some (.int (i : Nat)), some (.int z), some (.ref d), some vr, x5, x6, x7, x8] C0 [IsV (.ref d), TuP K ((r.ns ++ [("other" : Str)]).map fun x => IsV (.str x)), IsV (.int 2), IsV (.int 4)] := by
    refine q_cons (p_varV rfl) (q_cons ?_ (q_cons p_c (q_cons p_c q_nil)))
    have := p_catU (K := K) ((p_rk1 (K := K) (r := r) (p_var (i := 4) (σ := [some (.ref a), some (.int (i : Nat)), some (.int z), some (.ref d), some vr, x5, x6, x7, x8]) rfl hR0)).imp fun v B1 _ b => nm_tu (K := K) b) (p_tup (K := K) (ps := [IsV (.str "other")]) (t := tCons (tC (.str "other")) tNil) (q_cons p_c q_nil) (by show 1 ≤ 100000; decide)) (by have := hok.le; rw [List.length_map]; show _ + 1 ≤ _; omega)
    rw [List.map_append]
    exact this
  refine b_seq (b_asg (c_call (nts H4 k1.e _ fun vs B5 H5 g5 al => ?_)))
  obtain ⟨w0, w1, w2, w3, rfl, h0, hnt, h2, h3⟩ := all4 al
  obtain rfl : w0 = .ref d := h0
  obtain rfl : w2 = .int 2 := h2
  obtain rfl : w3 = .int 4 := h3
  have k2 := k1.gr g5
  refine ⟨B5, d, _, 4, ⟨r.tot, r.ns ++ [("other" : Str)], 1⟩, w1, rfl, by decide, ⟨by show 1 ≤ (r.ns ++ [("other" : Str)]).length; rw [List.length_append]; exact Nat.le_add_left _ _, by show (r.ns ++ [("other" : Str)]).length ≤ 10; have := hok.le; rw [List.length_append]; show _ + 1 ≤ 10; omega⟩, tu_nt hnt, k2.e, k2.z, k2.s, by decide, fun u B6 H6 vu hu _ gd6 hd6 hU => ?_⟩
  have k3 := k2.gd gd6 hd6
  have nmu : IsNm u.n := by
    have h : u.n ∈ r.ns ++ [("other" : Str)] := hu.n
    rcases List.mem_append.mp h with h | h
    · exact hok.nm _ h
    · rw [List.mem_singleton.mp h]
      exact rf6
  have G6 : GX d C0 H3 B6 H6 := (GX.ex e4).trans ((GX.gr g5).trans (GX.gd gd6))
  have hR6 := (RkP K r).m G6.b hR0
  have cp6 := G6.b _ _ cp0
  clear k0 k1 k2 isr isrK ndr nts al hnt g5 gd6 hd6
  dsimp only [gName, List.set_cons_succ, List.set_cons_zero]
  -- six turns
  refine b_seq (b_forD (b_c ⟨6, rfl, by decide, by decide, for_range (lo := 0) (n := 6) (fun t σ H' => ∃ (B' : Hp) (x6 x7 x8 : Option V), Kx T d (1000400 + 100 * t) B' H' ∧ Ex B6 B' ∧ σ = [some (.ref a), some (.int (i : Nat)), some (.int z), some (.ref d), some vr, some vu, x6, x7, x8])
    ⟨B6, x6, x7, x8, k3.le (by decide), Ex.refl _, rfl⟩ (fun t σ H' ht pv => ?_) (fun σ H' pv => ?_)⟩))
  · obtain ⟨B', y6, y7, y8, k4, e6, rfl⟩ := pv
    have ht6 : t < 6 := by omega
    have hR7 := (RkP K r).m e6 hR6
    have hU7 := (DvP u).m e6 hU
    dsimp only [gName, List.set_cons_succ, List.set_cons_zero]
    refine b_seq (b_par (b_cons (c_call (b_cons ⟨_, rfl, b_cons ⟨_, rfl, b_nil ?_⟩⟩))))
    refine ⟨B', d, _, [.str r.srt, .tuple (r.ns.map .str), .tuple (r.axs.map .str)], vr, rfl, toE_rk r _ _ hR7, by show 3 ≤ 100; decide, fun es hes => ?_, k4, by omega, fun x vx B7 H7 hx k7 g7 hv => b_cons ?_⟩
    · simp only [List.mem_cons, List.not_mem_nil, or_false] at hes
      rcases hes with h | h | h
      · cases h
      · cases h
        refine ⟨by have := hok.le; rw [List.length_map]; omega, fun y hy => ?_⟩
        obtain ⟨s, _, rfl⟩ := List.mem_map.mp hy
        rfl
      · cases h
        refine ⟨?_, fun y hy => ?_⟩
        · have : ∀ a : Fin 3, (axsOf a).length ≤ 100 := by decide +kernel
          rw [List.length_map]
          exact this r.ax
        · obtain ⟨s, _, rfl⟩ := List.mem_map.mp hy
          rfl
    have hw : RkW x := bent_rk hok rfl hx
    refine x_item (u := u) k7 (by omega) rfl rfl (et_test (ev_op (ev_var (i := 6) rfl) ev_c (rv_eq rfl))) nmu ((DvP u).m g7.b hU7) fun x2 v2 B8 H8 ha2 hv2 k8 g8 => b_nil ⟨_, _, rfl, ?_⟩
    have hR8 := (RkP K r).m (g7.b.trans g8.b) hR7
    have hv8 : De K B8 vx x := de_m g8.b hv
    dsimp only [List.set_cons_succ, List.set_cons_zero]
    refine b_seq (b_ifNotB (c_call (b_cons ⟨_, rfl, b_cons ⟨_, rfl, b_cons ⟨_, rfl, b_nil ?_⟩⟩⟩)))
    refine ⟨B8, d, _, r, x2, vr, v2, rfl, hok, hR8, hv2, ha2, k8, by omega, fun B9 H9 k9 g9 => ⟨true, rfl, ?_⟩⟩
    rw [if_neg (by decide)]
    have hv9 : De K B9 vx x := de_m g9.b hv8
    dsimp only
    have isb : Ev (tCall (spP (RkB K)) [] E0 (tCons (tVar 7) tNil)) [some (.ref a), some (.int (i : Nat)), some (.int z), some (.ref d), some vr, some vu, some (.int (0 + (t : Nat))), some vx, some v2] B9 (.bl (rkDue x).isNone) := ev_p (p_callP (R := RkB K) (p := IsV (.bl (rkDue x).isNone)) (ps := [IsE K x]) (q_cons (p_var (i := 7) rfl hv9) q_nil) ⟨_, x, to_idE, hw.h, rfl, rfl⟩)
    have dub : EvP (tCall (spP (RdueR K)) [] E0 (tCons (tVar 7) tNil)) [some (.ref a), some (.int (i : Nat)), some (.int z), some (.ref d), some vr, some vu, some (.int (0 + (t : Nat))), some vx, some v2] B9 (dueP (rkDue x)) := p_callP (R := RdueR K) (ps := [IsE K x]) (q_cons (p_var (i := 7) rfl hv9) q_nil) ⟨_, x, to_idE, hw.a, hw.l, rfl, rfl⟩
    have shb : ∀ b : Bool, (PyData.bool b).showable = true ∧ (PyData.bool b).depth ≤ 60 ∧ (PyData.bool b).shown.length ≤ 1000000 := fun b => by cases b <;> decide +kernel
    obtain ⟨sh1, sh2, sh3⟩ := shb (rkDue x).isNone
    refine b_seq (ps_ifN k9.e (et_is (et_test (ev_op (Gd.ev_repr (p_to (p_ev isb) to_bl) sh1 sh2 sh3) (Gd.ev_repr (p_to (p_ev (ev_dueI dub)) to_bl) sh1 sh2 sh3) (rv_ne rfl))) (by simp)) fun H10 e10 => ?_)
    have k10 := k9.ex e10
    have eB : Ex B6 B9 := e6.trans (g7.b.trans (g8.b.trans g9.b))
    dsimp only
    cases hd : rkDue x with
    | none =>
      refine ps_ifN k10.e (et_is (et_and (a := false) (b := false) (et_is (et_test (ev_dueNo dub)) (by rw [hd]; rfl)) (fun z => nomatch z)) rfl) fun H11 e11 => ?_
      exact ⟨B9, _, _, _, (k10.ex e11).le (by omega), eB, rfl⟩
    | some w =>
      refine b_ifAnd (et_is (et_test (ev_dueNo dub)) (by rw [hd]; rfl)) k10.e fun H11 e11 => b_ifNotB (c_call (b_cons ⟨_, rfl, b_cons ⟨_, rfl, b_cons ⟨_, rfl, b_nil ?_⟩⟩⟩))
      refine ⟨B9, d, _, x, w, vx, vr, vu, rfl, hv9, hw, hd, k10.ex e11, fun B12 H12 k12 g12 => ⟨true, rfl, ?_⟩⟩
      rw [if_neg (by decide)]
      exact ⟨B12, _, _, _, k12.le (by omega), eB.trans g12.b, rfl⟩
  obtain ⟨B', y6, y7, y8, k4, e6, rfl⟩ := pv
  have hR7 := (RkP K r).m e6 hR6
  have hU7 := (DvP u).m e6 hU
  have cp7 := e6 _ _ cp6
  dsimp only
  have q1 : EvP (tCall (spO (RhoO K (cx 2))) [] E0 (tCons (tVar 4) (tCons (tTup tNil) tNil))) [some (.ref a), some (.int (i : Nat)), some (.int z), some (.ref d), some vr, some vu, y6, y7, y8] B' (IsV (.bl true)) := p_callO (ps := [RkP K r, poP K []]) (q_cons (p_var (i := 4) rfl hR7) (q_cons (p_tup (K := K) (ps := []) q_nil (by show 0 ≤ 100000; decide)) q_nil)) (.inl ⟨r, _, _, hok, .inr ⟨r, [], rf3, rf4, by show 0 ≤ 1000; decide, rfl, by rw [em_in]; rfl⟩, rfl, rfl⟩)
  have q2 : EvP (tCall (spO (RhoO K (cx 2))) [] E0 (tCons (tVar 4) (tCons (tC .non) tNil))) [some (.ref a), some (.int (i : Nat)), some (.int z), some (.ref d), some vr, some vu, y6, y7, y8] B' (IsV (.bl false)) := p_callO (ps := [RkP K r, IsV .non]) (q_cons (p_var (i := 4) rfl hR7) (q_cons p_c q_nil)) (.inl ⟨r, _, _, hok, .inl ⟨r, _, .none, toE_of to_non, smd_non, rf5, rfl, rfl⟩, rfl, rfl⟩)
  have q3 : EvP (tCall (spO (RhoO K (cx 2))) [] E0 (tCons (tVar 4) (tCons (tLst (tCons (tVar 5) tNil)) tNil))) [some (.ref a), some (.int (i : Nat)), some (.int z), some (.ref d), some vr, some vu, y6, y7, y8] B' (IsV (.bl false)) := p_callO (ps := [RkP K r, LsP [DvP u]]) (q_cons (p_var (i := 4) rfl hR7) (q_cons (p_lst (q_cons (p_var (i := 5) rfl hU7) q_nil) (by show 1 ≤ 100000; decide)) q_nil)) (.inl ⟨r, _, _, hok, .inl ⟨r, _, .list [u.D], toE_of (to_lst (.cons (to_dv u) .nil)), by
    have := as_sm (as_dv nmu)
    rw [smB, smAll, smAll, this]
    rfl, rfl, rfl, rfl⟩, rfl, rfl⟩)
  refine b_seq (ps_ifN k4.e (et_is (et_or (a := false) (b := false) (et_is (et_test (ev_notB (b := true) (c := true) (ev_p q1))) rfl) fun _ => et_is (et_or (a := false) (b := false) (et_is (et_test (ev_notB (b := false) (c := false) (ev_p q2))) rfl) fun _ => et_is (et_test (ev_notB (b := false) (c := false) (ev_p q3))) rfl) rfl) rfl) fun H7 e7 => ?_)
  have k5 := k4.ex e7
  dsimp only
  refine b_ifNotB (c_call (b_cons ⟨_, rfl, b_nil ?_⟩))
  refine ⟨B', d, _, r, vr, rfl, hok, hR7, k5, fun B8 H8 k8 g8 => ⟨true, rfl, ?_⟩⟩
  rw [if_neg (by decide)]
  have cp8 := g8.b _ _ cp7
  exact ⟨k8.t, k8.e _ _ cp8, _, _, _, _, _, _, _, _, rfl⟩

end
end K12
namespace K12
open PySem PySem.W L2 Evl My LamX Nd
set_option autoImplicit false
def cxOfL (l : List Addr) : Nat → Addr := fun i => l.getD i 0
/-- the facts of an own exception class, asked at once -/
def xcB (K : PySem.W.Frag) (C : Addr) (bmB : List Value) (newId : String) : Bool :=
  PySem.W.excInitIn K C bmB newId && PySem.W.hasDictIn K C && decide (PySem.W.findIn K (.ref C) "__setattr__" = some (some (.builtin "object.__setattr__"))) && decide (PySem.W.findIn K (.ref C) "__getattribute__" = some (some (.builtin "BaseException.__getattribute__"))) &&
  decide (PySem.W.findIn K (.ref C) "__getattr__" = some none) && decide (PySem.W.subIn K (.ref C) (.type "BaseException") = some true) && decide (PySem.W.findIn K (.ref C) "__class__" = some (some (.builtin "object.__class__"))) &&
  decide (PySem.W.specialIn K (.builtin "object.__class__") "__get__" = some (some (.builtin "getset_descriptor.__get__"))) && decide (PySem.W.takesIn K (.builtin "object.__class__") = some true) && decide (PySem.W.mroIn K C (.type "object") = some true) && PySem.W.keepIn K (.ref C)
theorem xc_of {K : PySem.W.Frag} {C : Addr} {bmB : List Value} {newId : String} (h : xcB K C bmB newId = true) : XC K C bmB newId := by
  unfold xcB at h
  simp only [Bool.and_eq_true, decide_eq_true_eq] at h
  obtain ⟨⟨⟨⟨⟨⟨⟨⟨⟨⟨h1, h2⟩, h3⟩, h4⟩, h5⟩, h6⟩, h7⟩, h8⟩, h9⟩, h10⟩, h11⟩ := h
  exact ⟨h1, h2, h3, h4, h5, h6, h7, h8, h9, h10, h11⟩
abbrev s_BadPolynomial : Stmt := inClass (topS 4) 0
theorem sc_BadPolynomial : FnScope ["self", "number"] ["self", "number"] (defScope s_BadPolynomial) := ⟨rfl, rfl, rfl, by decide +kernel, rfl, by decide +kernel, by decide +kernel⟩
theorem ok_BadPolynomial {P : Program} {w : World} {K : PySem.W.Frag} {mg : Str → Option Value} {base : Heap} {f C D : Addr} {fd : FuncData} (F : FunD K "__init__" "BadPolynomial.__init__" (defArgs s_BadPolynomial) (defBody s_BadPolynomial) (defScope s_BadPolynomial) [.non] [] f fd) (T : XC K C [.type "ValueError", .type "Exception", .type "BaseException", .type "object"] "ValueError.__new__") (Z : XD K mg "ChainError" D "ValueError.__init__") (no0 : PySem.W.findIn K (.ref C) "number" = some none) : FnOk P w K mg base CX0 1 f fd ["self", "number"] (spI1 C "number") := by
  refine F.ok sc_BadPolynomial (fun vs H Q E h => ?_) (fun cdv A outer s H vs Q E hr h => ?_)
  · obtain ⟨a, v, rfl, _⟩ := h
    rfl
  · obtain ⟨a, v, rfl, ha, q⟩ := h
    refine ⟨_, (pss_cons (ps_expr (pe_xinit xbV (by rfl) Z.m Z.s Z.r Z.f Z.h (pa_cons (pv 0) (pa_cons pe_str pa_nil)))) (pss_one (ps_xset xbV (pv 0) (pv 1)))), ?_⟩
    refine ⟨_, rfl, a, C, _, rfl, by decide, T, ha, ?_⟩
    exact ⟨_, rfl, _, rfl, a, C, rfl, T, no0, .inl ⟨ha, fun dx hd ne => q dx hd ne⟩⟩
abbrev s_BadRanking : Stmt := inClass (topS 5) 0
theorem sc_BadRanking : FnScope ["self", "place"] ["self", "place"] (defScope s_BadRanking) := ⟨rfl, rfl, rfl, by decide +kernel, rfl, by decide +kernel, by decide +kernel⟩
theorem ok_BadRanking {P : Program} {w : World} {K : PySem.W.Frag} {mg : Str → Option Value} {base : Heap} {f C D : Addr} {fd : FuncData} (F : FunD K "__init__" "BadRanking.__init__" (defArgs s_BadRanking) (defBody s_BadRanking) (defScope s_BadRanking) [.non] [] f fd) (T : XC K C [.type "ValueError", .type "Exception", .type "BaseException", .type "object"] "ValueError.__new__") (Z : XD K mg "ChainError" D "ValueError.__init__") (no0 : PySem.W.findIn K (.ref C) "place" = some none) : FnOk P w K mg base CX0 1 f fd ["self", "place"] (spI1 C "place") := by
  refine F.ok sc_BadRanking (fun vs H Q E h => ?_) (fun cdv A outer s H vs Q E hr h => ?_)
  · obtain ⟨a, v, rfl, _⟩ := h
    rfl
  · obtain ⟨a, v, rfl, ha, q⟩ := h
    refine ⟨_, (pss_cons (ps_expr (pe_xinit xbV (by rfl) Z.m Z.s Z.r Z.f Z.h (pa_cons (pv 0) (pa_cons pe_str pa_nil)))) (pss_one (ps_xset xbV (pv 0) (pv 1)))), ?_⟩
    refine ⟨_, rfl, a, C, _, rfl, by decide, T, ha, ?_⟩
    exact ⟨_, rfl, _, rfl, a, C, rfl, T, no0, .inl ⟨ha, fun dx hd ne => q dx hd ne⟩⟩
end K12
namespace Hd
set_option autoImplicit false
open PySem PySem.Spec PySem.W PyProof.Rows L2 He
theorem func_of {K : PySem.W.Frag} {x : Str} {st : Stmt} {fd : FuncData} (F : Fun K x x st (ga K x) fd) (h : lamB K x = true) : Nd.FunC K x x st (fcode K x) (ga K x) fd := by
  obtain ⟨⟨oc, od, kV, doc, pm, an, cdv, ct, osl, e, lk, hc⟩, kp⟩ := F
  unfold lamB at h
  rw [lk] at h
  simp only [Bool.and_eq_true, decide_eq_true_eq] at h
  obtain ⟨h1, _⟩ := h
  subst e
  have h1 : cdv = .ref (fcode K x) := h1
  rw [h1] at lk hc
  exact ⟨⟨oc, od, kV, doc, pm, an, ct, osl, by rw [h1], by rw [h1]; exact lk, hc⟩⟩
end Hd
namespace K12
set_option autoImplicit false
open PySem PySem.W L2 Evl My LamX Nd
theorem all_mk2 {l : PySem.W.OpenLaw} {w : World} {K : PySem.W.Frag} {h : Heap} {mg : Str → Option Value} {fa : Addr} (X : K.In h) (G : h.Ns mainGlobals mg) (hfa : mg "law" = some (.ref fa)) (SD : He.SaysD K12.hfa hfn K) (E : hex K = true) (EV : hvf K = hvv) (LM : ∀ x ∈ hlams, Hd.lamB K x = true ∧ h.get? (Hd.ctab K (Hd.fcode K x)) = some (tabObj #[])) : Gd.LawAtG l w K 17 63 "_law_script" mg fa h := by
  have gc_BadRow := Hd.glo_ns (SD.fact 46 (f := .glo "BadRow") rfl)
  have gc_BadPolynomial := Hd.glo_ns (SD.fact 47 (f := .glo "BadPolynomial") rfl)
  have gc_BadRanking := Hd.glo_ns (SD.fact 48 (f := .glo "BadRanking") rfl)
  have gc_BadChain := Hd.glo_ns (SD.fact 49 (f := .glo "BadChain") rfl)
  have gc_BadData := Hd.glo_ns (SD.fact 50 (f := .glo "BadData") rfl)
  have gc_BadJet := Hd.glo_ns (SD.fact 51 (f := .glo "BadJet") rfl)
  have gc_BadPaper := Hd.glo_ns (SD.fact 52 (f := .glo "BadPaper") rfl)
  have gc_NoUnknown := Hd.glo_ns (SD.fact 53 (f := .glo "NoUnknown") rfl)
  have gc_NoEquation := Hd.glo_ns (SD.fact 54 (f := .glo "NoEquation") rfl)
  have gc_NoCase := Hd.glo_ns (SD.fact 55 (f := .glo "NoCase") rfl)
  have gc_Contradicted := Hd.glo_ns (SD.fact 56 (f := .glo "Contradicted") rfl)
  have gc_Knotted := Hd.glo_ns (SD.fact 57 (f := .glo "Knotted") rfl)
  have gc_Twice := Hd.glo_ns (SD.fact 58 (f := .glo "Twice") rfl)
  have gc_OutOfPlace := Hd.glo_ns (SD.fact 59 (f := .glo "OutOfPlace") rfl)
  have gc_TooGreat := Hd.glo_ns (SD.fact 60 (f := .glo "TooGreat") rfl)
  have gc_Nothing := Hd.glo_ns (SD.fact 61 (f := .glo "Nothing") rfl)
  have gc_ChainError := Hd.glo_ns (SD.fact 62 (f := .glo "ChainError") rfl)
  have gc_MissError := Hd.glo_ns (SD.fact 63 (f := .glo "MissError") rfl)
  have gc_CaseError := Hd.glo_ns (SD.fact 64 (f := .glo "CaseError") rfl)
  have a45 := Hd.glo_ns (SD.fact 45 (f := .glo "law") rfl)
  have e := hfa.symm.trans (PySem.W.mg_of X G a45)
  cases e
  obtain ⟨lm1, hT1⟩ := LM "rising" (by decide +kernel)
  obtain ⟨lm2, hT2⟩ := LM "_law_bad_right" (by decide +kernel)
  obtain ⟨lm3, hT3⟩ := LM "_law_good_right" (by decide +kernel)
  obtain ⟨fd0, D0⟩ := SD.def_ 0 (d := hd0) rfl
  have a0 := Hd.glo_ns (SD.fact 0 (f := .glo "_law_draw") rfl)
  have k0 := D0.kp
  have F0 : Fun K "_law_draw" "_law_draw" s_Ldraw (He.ga K "_law_draw") fd0 := Hd.fun_of D0
  have b0 := F0.binds (ps := ["_law_cell", "_law_k"]) fun _ _ _ _ _ _ us hl => match us, hl with | [_, _], _ => rfl
  obtain ⟨fd1, D1⟩ := SD.def_ 1 (d := hd1) rfl
  have a1 := Hd.glo_ns (SD.fact 1 (f := .glo "_law_mixed") rfl)
  have k1 := D1.kp
  have F1 : Fun K "_law_mixed" "_law_mixed" s_Lmixed (He.ga K "_law_mixed") fd1 := Hd.fun_of D1
  have b1 := F1.binds (ps := ["_law_cell", "_law_k"]) fun _ _ _ _ _ _ us hl => match us, hl with | [_, _], _ => rfl
  obtain ⟨fd2, D2⟩ := SD.def_ 2 (d := hd2) rfl
  have a2 := Hd.glo_ns (SD.fact 2 (f := .glo "_law_digit") rfl)
  have k2 := D2.kp
  have F2 : Fun K "_law_digit" "_law_digit" s_Ldigit (He.ga K "_law_digit") fd2 := Hd.fun_of D2
  have b2 := F2.binds (ps := ["_law_state", "_law_size"]) fun _ _ _ _ _ _ us hl => match us, hl with | [_, _], _ => rfl
  obtain ⟨fd3, D3⟩ := SD.def_ 3 (d := hd3) rfl
  have a3 := Hd.glo_ns (SD.fact 3 (f := .glo "_law_word") rfl)
  have k3 := D3.kp
  have F3 : Fun K "_law_word" "_law_word" s_Lword (He.ga K "_law_word") fd3 := Hd.fun_of D3
  have b3 := F3.binds (ps := ["_law_state"]) fun _ _ _ _ _ _ us hl => match us, hl with | [_], _ => rfl
  obtain ⟨fd4, D4⟩ := SD.def_ 4 (d := hd4) rfl
  have a4 := Hd.glo_ns (SD.fact 4 (f := .glo "_law_names") rfl)
  have k4 := D4.kp
  have F4 : Fun K "_law_names" "_law_names" s_Lnames (He.ga K "_law_names") fd4 := Hd.fun_of D4
  have b4 := F4.binds (ps := ["_law_state", "_law_many"]) fun _ _ _ _ _ _ us hl => match us, hl with | [_, _], _ => rfl
  obtain ⟨fd5, D5⟩ := SD.def_ 5 (d := hd5) rfl
  have a5 := Hd.glo_ns (SD.fact 5 (f := .glo "_law_by") rfl)
  have k5 := D5.kp
  have F5 : Fun K "_law_by" "_law_by" s_Lby (He.ga K "_law_by") fd5 := Hd.fun_of D5
  have b5 := F5.binds (ps := ["_law_state"]) fun _ _ _ _ _ _ us hl => match us, hl with | [_], _ => rfl
  obtain ⟨fd6, D6⟩ := SD.def_ 6 (d := hd6) rfl
  have a6 := Hd.glo_ns (SD.fact 6 (f := .glo "is_name") rfl)
  have k6 := D6.kp
  have F6 : Fun K "is_name" "is_name" s_is_name (He.ga K "is_name") fd6 := Hd.fun_of D6
  have b6 := F6.binds (ps := ["thing"]) fun _ _ _ _ _ _ us hl => match us, hl with | [_], _ => rfl
  obtain ⟨fd7, D7⟩ := SD.def_ 7 (d := hd7) rfl
  have a7 := Hd.glo_ns (SD.fact 7 (f := .glo "_are_names") rfl)
  have k7 := D7.kp
  have F7 : Fun K "_are_names" "_are_names" s__are_names (He.ga K "_are_names") fd7 := Hd.fun_of D7
  have b7 := F7.binds (ps := ["thing"]) fun _ _ _ _ _ _ us hl => match us, hl with | [_], _ => rfl
  obtain ⟨fd8, D8⟩ := SD.def_ 8 (d := hd8) rfl
  have a8 := Hd.glo_ns (SD.fact 8 (f := .glo "is_axis") rfl)
  have k8 := D8.kp
  have F8 : Fun K "is_axis" "is_axis" s_is_axis (He.ga K "is_axis") fd8 := Hd.fun_of D8
  have b8 := F8.binds (ps := ["thing"]) fun _ _ _ _ _ _ us hl => match us, hl with | [_], _ => rfl
  obtain ⟨fd9, D9⟩ := SD.def_ 9 (d := hd9) rfl
  have a9 := Hd.glo_ns (SD.fact 9 (f := .glo "_are_axes") rfl)
  have k9 := D9.kp
  have F9 : Fun K "_are_axes" "_are_axes" s__are_axes (He.ga K "_are_axes") fd9 := Hd.fun_of D9
  have b9 := F9.binds (ps := ["thing"]) fun _ _ _ _ _ _ us hl => match us, hl with | [_], _ => rfl
  obtain ⟨fd10, D10⟩ := SD.def_ 10 (d := hd10) rfl
  have a10 := Hd.glo_ns (SD.fact 10 (f := .glo "need_ranking") rfl)
  have k10 := D10.kp
  have F10 : Fun K "need_ranking" "need_ranking" s_need_ranking (He.ga K "need_ranking") fd10 := Hd.fun_of D10
  have b10 := F10.binds (ps := ["ranking"]) fun _ _ _ _ _ _ us hl => match us, hl with | [_], _ => rfl
  obtain ⟨fd11, D11⟩ := SD.def_ 11 (d := hd11) rfl
  have a11 := Hd.glo_ns (SD.fact 11 (f := .glo "is_ranking") rfl)
  have k11 := D11.kp
  have F11 : Fun K "is_ranking" "is_ranking" s_is_ranking (He.ga K "is_ranking") fd11 := Hd.fun_of D11
  have b11 := F11.binds (ps := ["thing"]) fun _ _ _ _ _ _ us hl => match us, hl with | [_], _ => rfl
  have KB_is_ranking : KBn K _ ["thing"] 0 ["thing"] Gd.gKu Gd.gKs := Gd.kbn_of F11 Gd.relK fun _ _ _ _ _ _ us ws l1 l2 => match us, ws, l1, l2 with | [], [_], _, _ => rfl
  obtain ⟨fd12, D12⟩ := SD.def_ 12 (d := hd12) rfl
  have a12 := Hd.glo_ns (SD.fact 12 (f := .glo "_law_derivative") rfl)
  have k12 := D12.kp
  have F12 : Fun K "_law_derivative" "_law_derivative" s_Lderivative (He.ga K "_law_derivative") fd12 := Hd.fun_of D12
  have b12 := F12.binds (ps := ["_law_state", "_law_names_here", "_law_axes", "_law_high"]) fun _ _ _ _ _ _ us hl => match us, hl with | [_, _, _, _], _ => rfl
  obtain ⟨fd13, D13⟩ := SD.def_ 13 (d := hd13) rfl
  have a13 := Hd.glo_ns (SD.fact 13 (f := .glo "_law_odd") rfl)
  have k13 := D13.kp
  have F13 : Fun K "_law_odd" "_law_odd" s_Lodd (He.ga K "_law_odd") fd13 := Hd.fun_of D13
  have b13 := F13.binds (ps := ["_law_state"]) fun _ _ _ _ _ _ us hl => match us, hl with | [_], _ => rfl
  obtain ⟨fd14, D14⟩ := SD.def_ 14 (d := hd14) rfl
  have a14 := Hd.glo_ns (SD.fact 14 (f := .glo "_law_bent") rfl)
  have k14 := D14.kp
  have F14 : Fun K "_law_bent" "_law_bent" s_Lbent (He.ga K "_law_bent") fd14 := Hd.fun_of D14
  have b14 := F14.binds (ps := ["_law_state", "_law_it"]) fun _ _ _ _ _ _ us hl => match us, hl with | [_, _], _ => rfl
  obtain ⟨fd15, D15⟩ := SD.def_ 15 (d := hd15) rfl
  have a15 := Hd.glo_ns (SD.fact 15 (f := .glo "_law_is_name") rfl)
  have k15 := D15.kp
  have F15 : Fun K "_law_is_name" "_law_is_name" s_Lis_name (He.ga K "_law_is_name") fd15 := Hd.fun_of D15
  have b15 := F15.binds (ps := ["_law_it"]) fun _ _ _ _ _ _ us hl => match us, hl with | [_], _ => rfl
  obtain ⟨fd16, D16⟩ := SD.def_ 16 (d := hd16) rfl
  have a16 := Hd.glo_ns (SD.fact 16 (f := .glo "_law_due") rfl)
  have k16 := D16.kp
  have F16 : Fun K "_law_due" "_law_due" s_Ldue (He.ga K "_law_due") fd16 := Hd.fun_of D16
  have b16 := F16.binds (ps := ["_law_it"]) fun _ _ _ _ _ _ us hl => match us, hl with | [_], _ => rfl
  obtain ⟨fd17, D17⟩ := SD.def_ 17 (d := hd17) rfl
  have a17 := Hd.glo_ns (SD.fact 17 (f := .glo "is_whole") rfl)
  have k17 := D17.kp
  have F17 : Fun K "is_whole" "is_whole" s_is_whole (He.ga K "is_whole") fd17 := Hd.fun_of D17
  have b17 := F17.binds (ps := ["thing"]) fun _ _ _ _ _ _ us hl => match us, hl with | [_], _ => rfl
  obtain ⟨fd18, D18⟩ := SD.def_ 18 (d := hd18) rfl
  have a18 := Hd.glo_ns (SD.fact 18 (f := .glo "is_derivative") rfl)
  have k18 := D18.kp
  have F18 : Fun K "is_derivative" "is_derivative" s_is_derivative (He.ga K "is_derivative") fd18 := Hd.fun_of D18
  have b18 := F18.binds (ps := ["thing"]) fun _ _ _ _ _ _ us hl => match us, hl with | [_], _ => rfl
  obtain ⟨fd19, D19⟩ := SD.def_ 19 (d := hd19) rfl
  have a19 := Hd.glo_ns (SD.fact 19 (f := .glo "_is_powered") rfl)
  have k19 := D19.kp
  have F19 : Fun K "_is_powered" "_is_powered" s__is_powered (He.ga K "_is_powered") fd19 := Hd.fun_of D19
  have b19 := F19.binds (ps := ["thing"]) fun _ _ _ _ _ _ us hl => match us, hl with | [_], _ => rfl
  obtain ⟨fd20, D20⟩ := SD.def_ 20 (d := hd20) rfl
  have a20 := Hd.glo_ns (SD.fact 20 (f := .glo "is_monomial") rfl)
  have k20 := D20.kp
  have F20 : Fun K "is_monomial" "is_monomial" s_is_monomial (He.ga K "is_monomial") fd20 := Hd.fun_of D20
  have b20 := F20.binds (ps := ["thing"]) fun _ _ _ _ _ _ us hl => match us, hl with | [_], _ => rfl
  obtain ⟨fd21, D21⟩ := SD.def_ 21 (d := hd21) rfl
  have a21 := Hd.glo_ns (SD.fact 21 (f := .glo "is_fraction") rfl)
  have k21 := D21.kp
  have F21 : Fun K "is_fraction" "is_fraction" s_is_fraction (He.ga K "is_fraction") fd21 := Hd.fun_of D21
  have b21 := F21.binds (ps := ["thing"]) fun _ _ _ _ _ _ us hl => match us, hl with | [_], _ => rfl
  obtain ⟨fd22, D22⟩ := SD.def_ 22 (d := hd22) rfl
  have a22 := Hd.glo_ns (SD.fact 22 (f := .glo "_is_term") rfl)
  have k22 := D22.kp
  have F22 : Fun K "_is_term" "_is_term" s__is_term (He.ga K "_is_term") fd22 := Hd.fun_of D22
  have b22 := F22.binds (ps := ["thing"]) fun _ _ _ _ _ _ us hl => match us, hl with | [_], _ => rfl
  obtain ⟨fd23, D23⟩ := SD.def_ 23 (d := hd23) rfl
  have a23 := Hd.glo_ns (SD.fact 23 (f := .glo "need_polynomial") rfl)
  have k23 := D23.kp
  have F23 : Fun K "need_polynomial" "need_polynomial" s_need_polynomial (He.ga K "need_polynomial") fd23 := Hd.fun_of D23
  have b23 := F23.binds (ps := ["thing"]) fun _ _ _ _ _ _ us hl => match us, hl with | [_], _ => rfl
  obtain ⟨fd24, D24⟩ := SD.def_ 24 (d := hd24) rfl
  have a24 := Hd.glo_ns (SD.fact 24 (f := .glo "is_polynomial") rfl)
  have k24 := D24.kp
  have F24 : Fun K "is_polynomial" "is_polynomial" s_is_polynomial (He.ga K "is_polynomial") fd24 := Hd.fun_of D24
  have b24 := F24.binds (ps := ["thing"]) fun _ _ _ _ _ _ us hl => match us, hl with | [_], _ => rfl
  obtain ⟨fd25, D25⟩ := SD.def_ 25 (d := hd25) rfl
  have a25 := Hd.glo_ns (SD.fact 25 (f := .glo "derivatives_in") rfl)
  have k25 := D25.kp
  have F25 : Fun K "derivatives_in" "derivatives_in" s_derivatives_in (He.ga K "derivatives_in") fd25 := Hd.fun_of D25
  have b25 := F25.binds (ps := ["one"]) fun _ _ _ _ _ _ us hl => match us, hl with | [_], _ => rfl
  obtain ⟨fd26, D26⟩ := SD.def_ 26 (d := hd26) rfl
  have a26 := Hd.glo_ns (SD.fact 26 (f := .glo "_stands_there") rfl)
  have k26 := D26.kp
  have F26 : Fun K "_stands_there" "_stands_there" s__stands_there (He.ga K "_stands_there") fd26 := Hd.fun_of D26
  have b26 := F26.binds (ps := ["ranking", "derivative"]) fun _ _ _ _ _ _ us hl => match us, hl with | [_, _], _ => rfl
  obtain ⟨fd27, D27⟩ := SD.def_ 27 (d := hd27) rfl
  have a27 := Hd.glo_ns (SD.fact 27 (f := .glo "polynomial_fits") rfl)
  have k27 := D27.kp
  have F27 : Fun K "polynomial_fits" "polynomial_fits" s_polynomial_fits (He.ga K "polynomial_fits") fd27 := Hd.fun_of D27
  have b27 := F27.binds (ps := ["ranking", "thing"]) fun _ _ _ _ _ _ us hl => match us, hl with | [_, _], _ => rfl
  obtain ⟨fd28, D28⟩ := SD.def_ 28 (d := hd28) rfl
  have a28 := Hd.glo_ns (SD.fact 28 (f := .glo "holds_of") rfl)
  have k28 := D28.kp
  have F28 : Fun K "holds_of" "holds_of" s_holds_of (He.ga K "holds_of") fd28 := Hd.fun_of D28
  have b28 := F28.binds (ps := ["ranking", "thing"]) fun _ _ _ _ _ _ us hl => match us, hl with | [_, _], _ => rfl
  obtain ⟨fd29, D29⟩ := SD.def_ 29 (d := hd29) rfl
  have a29 := Hd.glo_ns (SD.fact 29 (f := .glo "_law_is_known") rfl)
  have k29 := D29.kp
  have F29 : Fun K "_law_is_known" "_law_is_known" s_Lis_known (He.ga K "_law_is_known") fd29 := Hd.fun_of D29
  have b29 := F29.binds (ps := ["_law_by_here", "_law_it"]) fun _ _ _ _ _ _ us hl => match us, hl with | [_, _], _ => rfl
  obtain ⟨fd30, D30⟩ := SD.def_ 30 (d := hd30) rfl
  have a30 := Hd.glo_ns (SD.fact 30 (f := .glo "derivative_fits") rfl)
  have k30 := D30.kp
  have F30 : Fun K "derivative_fits" "derivative_fits" s_derivative_fits (He.ga K "derivative_fits") fd30 := Hd.fun_of D30
  have b30 := F30.binds (ps := ["ranking", "thing"]) fun _ _ _ _ _ _ us hl => match us, hl with | [_, _], _ => rfl
  obtain ⟨fd31, D31⟩ := SD.def_ 31 (d := hd31) rfl
  have a31 := Hd.glo_ns (SD.fact 31 (f := .glo "is_of") rfl)
  have k31 := D31.kp
  have F31 : Fun K "is_of" "is_of" s_is_of (He.ga K "is_of") fd31 := Hd.fun_of D31
  have b31 := F31.binds (ps := ["ranking", "thing"]) fun _ _ _ _ _ _ us hl => match us, hl with | [_, _], _ => rfl
  have KB_is_of : KBn K _ ["ranking", "thing"] 0 ["ranking", "thing"] Gd.gKu Gd.gKs := Gd.kbn_of F31 Gd.relK fun _ _ _ _ _ _ us ws l1 l2 => match us, ws, l1, l2 with | [], [_, _], _, _ => rfl
  obtain ⟨fd32, D32⟩ := SD.def_ 32 (d := hd32) rfl
  have a32 := Hd.glo_ns (SD.fact 32 (f := .glo "need_derivative") rfl)
  have k32 := D32.kp
  have F32 : Fun K "need_derivative" "need_derivative" s_need_derivative (He.ga K "need_derivative") fd32 := Hd.fun_of D32
  have b32 := F32.binds (ps := ["ranking", "thing"]) fun _ _ _ _ _ _ us hl => match us, hl with | [_, _], _ => rfl
  obtain ⟨fd33, D33⟩ := SD.def_ 33 (d := hd33) rfl
  have a33 := Hd.glo_ns (SD.fact 33 (f := .glo "compared") rfl)
  have k33 := D33.kp
  have F33 : Fun K "compared" "compared" s_compared (He.ga K "compared") fd33 := Hd.fun_of D33
  have b33 := F33.binds (ps := ["one", "other"]) fun _ _ _ _ _ _ us hl => match us, hl with | [_, _], _ => rfl
  obtain ⟨fd34, D34⟩ := SD.def_ 34 (d := hd34) rfl
  have a34 := Hd.glo_ns (SD.fact 34 (f := .glo "rank_key") rfl)
  have k34 := D34.kp
  have F34 : Fun K "rank_key" "rank_key" s_rank_key (He.ga K "rank_key") fd34 := Hd.fun_of D34
  have b34 := F34.binds (ps := ["ranking", "derivative"]) fun _ _ _ _ _ _ us hl => match us, hl with | [_, _], _ => rfl
  obtain ⟨fd35, D35⟩ := SD.def_ 35 (d := hd35) rfl
  have a35 := Hd.glo_ns (SD.fact 35 (f := .glo "rank_compared") rfl)
  have k35 := D35.kp
  have F35 : Fun K "rank_compared" "rank_compared" s_rank_compared (He.ga K "rank_compared") fd35 := Hd.fun_of D35
  have b35 := F35.binds (ps := ["ranking", "one", "other"]) fun _ _ _ _ _ _ us hl => match us, hl with | [_, _, _], _ => rfl
  obtain ⟨fd36, D36⟩ := SD.def_ 36 (d := hd36) rfl
  have a36 := Hd.glo_ns (SD.fact 36 (f := .glo "rising") rfl)
  have k36 := D36.kp
  have F36' : Fun K "rising" "rising" s_rising (He.ga K "rising") fd36 := Hd.fun_of D36
  have F36 : Nd.FunC K "rising" "rising" s_rising (Hd.fcode K "rising") (He.ga K "rising") fd36 := Hd.func_of F36' lm1
  have b36 := F36'.binds (ps := ["ranking", "derivatives"]) fun _ _ _ _ _ _ us hl => match us, hl with | [_, _], _ => rfl
  obtain ⟨fd37, D37⟩ := SD.def_ 37 (d := hd37) rfl
  have a37 := Hd.glo_ns (SD.fact 37 (f := .glo "in_rank") rfl)
  have k37 := D37.kp
  have F37 : Fun K "in_rank" "in_rank" s_in_rank (He.ga K "in_rank") fd37 := Hd.fun_of D37
  have b37 := F37.binds (ps := ["ranking", "some"]) fun _ _ _ _ _ _ us hl => match us, hl with | [_, _], _ => rfl
  obtain ⟨fd38, D38⟩ := SD.def_ 38 (d := hd38) rfl
  have a38 := Hd.glo_ns (SD.fact 38 (f := .glo "is_among") rfl)
  have k38 := D38.kp
  have F38 : Fun K "is_among" "is_among" s_is_among (He.ga K "is_among") fd38 := Hd.fun_of D38
  have b38 := F38.binds (ps := ["thing", "least", "most"]) fun _ _ _ _ _ _ us hl => match us, hl with | [_, _, _], _ => rfl
  obtain ⟨fd39, D39⟩ := SD.def_ 39 (d := hd39) rfl
  have a39 := Hd.glo_ns (SD.fact 39 (f := .glo "all_to") rfl)
  have k39 := D39.kp
  have F39 : Fun K "all_to" "all_to" s_all_to (He.ga K "all_to") fd39 := Hd.fun_of D39
  have b39 := F39.binds (ps := ["ranking", "order"]) fun _ _ _ _ _ _ us hl => match us, hl with | [_, _], _ => rfl
  obtain ⟨fd40, D40⟩ := SD.def_ 40 (d := hd40) rfl
  have a40 := Hd.glo_ns (SD.fact 40 (f := .glo "_law_kinds") rfl)
  have k40 := D40.kp
  have F40 : Fun K "_law_kinds" "_law_kinds" s_Lkinds (He.ga K "_law_kinds") fd40 := Hd.fun_of D40
  have b40 := F40.binds (ps := ["_law_error"]) fun _ _ _ _ _ _ us hl => match us, hl with | [_], _ => rfl
  obtain ⟨fd41, D41⟩ := SD.def_ 41 (d := hd41) rfl
  have a41 := Hd.glo_ns (SD.fact 41 (f := .glo "_law_told") rfl)
  have k41 := D41.kp
  have F41 : Fun K "_law_told" "_law_told" s_Ltold (He.ga K "_law_told") fd41 := Hd.fun_of D41
  have b41 := F41.binds (ps := ["_law_deed"]) fun _ _ _ _ _ _ us hl => match us, hl with | [_], _ => rfl
  obtain ⟨fd42, D42⟩ := SD.def_ 42 (d := hd42) rfl
  have a42 := Hd.glo_ns (SD.fact 42 (f := .glo "_law_good_right") rfl)
  have k42 := D42.kp
  have F42' : Fun K "_law_good_right" "_law_good_right" s_Lgood_right (He.ga K "_law_good_right") fd42 := Hd.fun_of D42
  have F42 : Nd.FunC K "_law_good_right" "_law_good_right" s_Lgood_right (Hd.fcode K "_law_good_right") (He.ga K "_law_good_right") fd42 := Hd.func_of F42' lm3
  have b42 := F42'.binds (ps := ["_law_state", "_law_by_here", "_law_it"]) fun _ _ _ _ _ _ us hl => match us, hl with | [_, _, _], _ => rfl
  obtain ⟨fd43, D43⟩ := SD.def_ 43 (d := hd43) rfl
  have a43 := Hd.glo_ns (SD.fact 43 (f := .glo "_law_bad_right") rfl)
  have k43 := D43.kp
  have F43' : Fun K "_law_bad_right" "_law_bad_right" s_Lbad_right (He.ga K "_law_bad_right") fd43 := Hd.fun_of D43
  have F43 : Nd.FunC K "_law_bad_right" "_law_bad_right" s_Lbad_right (Hd.fcode K "_law_bad_right") (He.ga K "_law_bad_right") fd43 := Hd.func_of F43' lm2
  have b43 := F43'.binds (ps := ["_law_bad", "_law_by_here", "_law_a"]) fun _ _ _ _ _ _ us hl => match us, hl with | [_, _, _], _ => rfl
  obtain ⟨fd44, D44⟩ := SD.def_ 44 (d := hd44) rfl
  have a44 := Hd.glo_ns (SD.fact 44 (f := .glo "_law_sums_right") rfl)
  have k44 := D44.kp
  have F44 : Fun K "_law_sums_right" "_law_sums_right" s_Lsums_right (He.ga K "_law_sums_right") fd44 := Hd.fun_of D44
  have b44 := F44.binds (ps := ["_law_by_here"]) fun _ _ _ _ _ _ us hl => match us, hl with | [_], _ => rfl
  obtain ⟨fd45, D45⟩ := SD.def_ 45 (d := hd45) rfl
  have k45 := D45.kp
  have F45 : Fun K "law" "law" s_law (He.ga K "law") fd45 := Hd.fun_of D45
  have hb := D45.bindsA (ps := ["_law_script"]) fun _ _ _ _ _ _ us hl => match us, hl with | [_], _ => rfl
  obtain ⟨fd101, D101⟩ := SD.def_ 46 (d := hd46) rfl
  have F101 : FunD K "__init__" "BadPolynomial.__init__" (defArgs s_BadPolynomial) (defBody s_BadPolynomial) (defScope s_BadPolynomial) [.non] [] (He.ma K (He.ga K "BadPolynomial") "__init__") fd101 := D101
  obtain ⟨_, kP1⟩ := F101.kbindsD (ps := ["self", "number"]) 2 [] (fun us _ _ => us) (by simp) (fun a _ _ => a) fun T kV doc pm an cdv ct us its ws l1 l2 l3 => match us, its, ws, l1, l2, l3 with | [_, _], [_], [], _, _, _ => ⟨_, rfl, rfl⟩
  obtain ⟨_, kZ1⟩ := F101.kbindsD (ps := ["self", "number"]) 1 [] (fun us its _ => us ++ its) (by simp) (fun a b _ => a.append b) fun T kV doc pm an cdv ct us its ws l1 l2 l3 => match us, its, ws, l1, l2, l3 with | [_], [_], [], _, _, _ => ⟨_, rfl, rfl⟩
  have i1 : PySem.W.findIn K (.ref (He.ga K "BadPolynomial")) "__init__" = some (some (.ref (He.ma K (He.ga K "BadPolynomial") "__init__"))) := of_decide_eq_true (Bool.and_eq_true_iff.mp (SD.fact 89 (f := .meth "BadPolynomial" "__init__") rfl)).1
  have n1_number : PySem.W.findIn K (.ref (He.ga K "BadPolynomial")) "number" = some none := of_decide_eq_true (SD.fact 91 (f := .noat "BadPolynomial" "number") rfl)
  obtain ⟨fd102, D102⟩ := SD.def_ 47 (d := hd47) rfl
  have F102 : FunD K "__init__" "BadRanking.__init__" (defArgs s_BadRanking) (defBody s_BadRanking) (defScope s_BadRanking) [.non] [] (He.ma K (He.ga K "BadRanking") "__init__") fd102 := D102
  obtain ⟨_, kP2⟩ := F102.kbindsD (ps := ["self", "place"]) 2 [] (fun us _ _ => us) (by simp) (fun a _ _ => a) fun T kV doc pm an cdv ct us its ws l1 l2 l3 => match us, its, ws, l1, l2, l3 with | [_, _], [_], [], _, _, _ => ⟨_, rfl, rfl⟩
  obtain ⟨_, kZ2⟩ := F102.kbindsD (ps := ["self", "place"]) 1 [] (fun us its _ => us ++ its) (by simp) (fun a b _ => a.append b) fun T kV doc pm an cdv ct us its ws l1 l2 l3 => match us, its, ws, l1, l2, l3 with | [_], [_], [], _, _, _ => ⟨_, rfl, rfl⟩
  have i2 : PySem.W.findIn K (.ref (He.ga K "BadRanking")) "__init__" = some (some (.ref (He.ma K (He.ga K "BadRanking") "__init__"))) := of_decide_eq_true (Bool.and_eq_true_iff.mp (SD.fact 90 (f := .meth "BadRanking" "__init__") rfl)).1
  have n2_place : PySem.W.findIn K (.ref (He.ga K "BadRanking")) "place" = some none := of_decide_eq_true (SD.fact 92 (f := .noat "BadRanking" "place") rfl)
  have n0_row : PySem.W.findIn K (.ref (He.ga K "BadRow")) "row" = some none := of_decide_eq_true (SD.fact 93 (f := .noat "BadRow" "row") rfl)
  have n0_word : PySem.W.findIn K (.ref (He.ga K "BadRow")) "word" = some none := of_decide_eq_true (SD.fact 94 (f := .noat "BadRow" "word") rfl)
  have n3_place : PySem.W.findIn K (.ref (He.ga K "BadChain")) "place" = some none := of_decide_eq_true (SD.fact 95 (f := .noat "BadChain" "place") rfl)
  have n4_place : PySem.W.findIn K (.ref (He.ga K "BadData")) "place" = some none := of_decide_eq_true (SD.fact 96 (f := .noat "BadData" "place") rfl)
  have n5_place : PySem.W.findIn K (.ref (He.ga K "BadJet")) "place" = some none := of_decide_eq_true (SD.fact 97 (f := .noat "BadJet" "place") rfl)
  have n6_place : PySem.W.findIn K (.ref (He.ga K "BadPaper")) "place" = some none := of_decide_eq_true (SD.fact 98 (f := .noat "BadPaper" "place") rfl)
  have n7_name : PySem.W.findIn K (.ref (He.ga K "NoUnknown")) "name" = some none := of_decide_eq_true (SD.fact 99 (f := .noat "NoUnknown" "name") rfl)
  have n8_number : PySem.W.findIn K (.ref (He.ga K "NoEquation")) "number" = some none := of_decide_eq_true (SD.fact 100 (f := .noat "NoEquation" "number") rfl)
  have n9_number : PySem.W.findIn K (.ref (He.ga K "NoCase")) "number" = some none := of_decide_eq_true (SD.fact 101 (f := .noat "NoCase" "number") rfl)
  have n10_number : PySem.W.findIn K (.ref (He.ga K "Contradicted")) "number" = some none := of_decide_eq_true (SD.fact 102 (f := .noat "Contradicted" "number") rfl)
  have n11_number : PySem.W.findIn K (.ref (He.ga K "Knotted")) "number" = some none := of_decide_eq_true (SD.fact 103 (f := .noat "Knotted" "number") rfl)
  have m_LookupError := PySem.W.mg_none_of X G (Hd.free_ns (SD.fact 65 (f := .free "LookupError") rfl))
  have m_RuntimeError := PySem.W.mg_none_of X G (Hd.free_ns (SD.fact 66 (f := .free "RuntimeError") rfl))
  have m_ValueError := PySem.W.mg_none_of X G (Hd.free_ns (SD.fact 67 (f := .free "ValueError") rfl))
  have m_all := PySem.W.mg_none_of X G (Hd.free_ns (SD.fact 68 (f := .free "all") rfl))
  have m_bool := PySem.W.mg_none_of X G (Hd.free_ns (SD.fact 69 (f := .free "bool") rfl))
  have m_enumerate := PySem.W.mg_none_of X G (Hd.free_ns (SD.fact 70 (f := .free "enumerate") rfl))
  have m_int := PySem.W.mg_none_of X G (Hd.free_ns (SD.fact 71 (f := .free "int") rfl))
  have m_isinstance := PySem.W.mg_none_of X G (Hd.free_ns (SD.fact 72 (f := .free "isinstance") rfl))
  have m_len := PySem.W.mg_none_of X G (Hd.free_ns (SD.fact 73 (f := .free "len") rfl))
  have m_list := PySem.W.mg_none_of X G (Hd.free_ns (SD.fact 74 (f := .free "list") rfl))
  have m_range := PySem.W.mg_none_of X G (Hd.free_ns (SD.fact 75 (f := .free "range") rfl))
  have m_repr := PySem.W.mg_none_of X G (Hd.free_ns (SD.fact 76 (f := .free "repr") rfl))
  have m_set := PySem.W.mg_none_of X G (Hd.free_ns (SD.fact 77 (f := .free "set") rfl))
  have m_sorted := PySem.W.mg_none_of X G (Hd.free_ns (SD.fact 78 (f := .free "sorted") rfl))
  have m_str := PySem.W.mg_none_of X G (Hd.free_ns (SD.fact 79 (f := .free "str") rfl))
  have m_sum := PySem.W.mg_none_of X G (Hd.free_ns (SD.fact 80 (f := .free "sum") rfl))
  have m_tuple := PySem.W.mg_none_of X G (Hd.free_ns (SD.fact 81 (f := .free "tuple") rfl))
  have xm_BadPolynomial_BadPolynomial : PySem.W.exmOne K (.ref (He.ga K "BadPolynomial")) (.ref (He.ga K "BadPolynomial")) = some true := of_decide_eq_true (SD.fact 104 (f := .exm "BadPolynomial" "BadPolynomial" true) rfl)
  have xm_BadRanking_BadRanking : PySem.W.exmOne K (.ref (He.ga K "BadRanking")) (.ref (He.ga K "BadRanking")) = some true := of_decide_eq_true (SD.fact 105 (f := .exm "BadRanking" "BadRanking" true) rfl)
  have xm_BadRow_ChainError : PySem.W.exmOne K (.ref (He.ga K "BadRow")) (.ref (He.ga K "ChainError")) = some true := of_decide_eq_true (SD.fact 106 (f := .exm "BadRow" "ChainError" true) rfl)
  have xm_BadPolynomial_ChainError : PySem.W.exmOne K (.ref (He.ga K "BadPolynomial")) (.ref (He.ga K "ChainError")) = some true := of_decide_eq_true (SD.fact 107 (f := .exm "BadPolynomial" "ChainError" true) rfl)
  have xm_BadRanking_ChainError : PySem.W.exmOne K (.ref (He.ga K "BadRanking")) (.ref (He.ga K "ChainError")) = some true := of_decide_eq_true (SD.fact 108 (f := .exm "BadRanking" "ChainError" true) rfl)
  have xm_BadChain_ChainError : PySem.W.exmOne K (.ref (He.ga K "BadChain")) (.ref (He.ga K "ChainError")) = some true := of_decide_eq_true (SD.fact 109 (f := .exm "BadChain" "ChainError" true) rfl)
  have xm_BadData_ChainError : PySem.W.exmOne K (.ref (He.ga K "BadData")) (.ref (He.ga K "ChainError")) = some true := of_decide_eq_true (SD.fact 110 (f := .exm "BadData" "ChainError" true) rfl)
  have xm_BadJet_ChainError : PySem.W.exmOne K (.ref (He.ga K "BadJet")) (.ref (He.ga K "ChainError")) = some true := of_decide_eq_true (SD.fact 111 (f := .exm "BadJet" "ChainError" true) rfl)
  have xm_BadPaper_ChainError : PySem.W.exmOne K (.ref (He.ga K "BadPaper")) (.ref (He.ga K "ChainError")) = some true := of_decide_eq_true (SD.fact 112 (f := .exm "BadPaper" "ChainError" true) rfl)
  have xm_Twice_ChainError : PySem.W.exmOne K (.ref (He.ga K "Twice")) (.ref (He.ga K "ChainError")) = some true := of_decide_eq_true (SD.fact 113 (f := .exm "Twice" "ChainError" true) rfl)
  have xm_OutOfPlace_ChainError : PySem.W.exmOne K (.ref (He.ga K "OutOfPlace")) (.ref (He.ga K "ChainError")) = some true := of_decide_eq_true (SD.fact 114 (f := .exm "OutOfPlace" "ChainError" true) rfl)
  have xm_TooGreat_ChainError : PySem.W.exmOne K (.ref (He.ga K "TooGreat")) (.ref (He.ga K "ChainError")) = some true := of_decide_eq_true (SD.fact 115 (f := .exm "TooGreat" "ChainError" true) rfl)
  have kq13 : PySem.W.keepIn K (.ref (He.ga K "OutOfPlace")) = true := SD.fact 116 (f := .keep "OutOfPlace") rfl
  obtain ⟨tk_gML, gML⟩ := Hd.int_ns (SD.fact 82 (f := .int "MOST_LETTERS" 8) rfl)
  obtain ⟨tk_gMN, gMN⟩ := Hd.int_ns (SD.fact 83 (f := .int "MOST_NAMES" 3) rfl)
  obtain ⟨tk_gMO, gMO⟩ := Hd.int_ns (SD.fact 84 (f := .int "MOST_ORDER" 12) rfl)
  obtain ⟨tk_gLE, gLE⟩ := Hd.str_ns (SD.fact 85 (f := .str "LETTERS" "abcdefghijklmnopqrstuvwxyz") rfl)
  have gAX := Hd.glo_ns (SD.fact 86 (f := .glo "AXES") rfl)
  have gSO := Hd.glo_ns (SD.fact 87 (f := .glo "SORTS") rfl)
  have gAL := Hd.glo_ns (SD.fact 88 (f := .glo "AXES_ALL") rfl)
  have x0 : xcB K (He.ga K "BadRow") (bmI 0) (nwI 0) = true := hex_at E 0 (e := hx_x0) rfl
  have x1 : xcB K (He.ga K "BadPolynomial") (bmI 1) (nwI 1) = true := hex_at E 1 (e := hx_x1) rfl
  have x2 : xcB K (He.ga K "BadRanking") (bmI 2) (nwI 2) = true := hex_at E 2 (e := hx_x2) rfl
  have x3 : xcB K (He.ga K "BadChain") (bmI 3) (nwI 3) = true := hex_at E 3 (e := hx_x3) rfl
  have x4 : xcB K (He.ga K "BadData") (bmI 4) (nwI 4) = true := hex_at E 4 (e := hx_x4) rfl
  have x5 : xcB K (He.ga K "BadJet") (bmI 5) (nwI 5) = true := hex_at E 5 (e := hx_x5) rfl
  have x6 : xcB K (He.ga K "BadPaper") (bmI 6) (nwI 6) = true := hex_at E 6 (e := hx_x6) rfl
  have x7 : xcB K (He.ga K "NoUnknown") (bmI 7) (nwI 7) = true := hex_at E 7 (e := hx_x7) rfl
  have x8 : xcB K (He.ga K "NoEquation") (bmI 8) (nwI 8) = true := hex_at E 8 (e := hx_x8) rfl
  have x9 : xcB K (He.ga K "NoCase") (bmI 9) (nwI 9) = true := hex_at E 9 (e := hx_x9) rfl
  have x10 : xcB K (He.ga K "Contradicted") (bmI 10) (nwI 10) = true := hex_at E 10 (e := hx_x10) rfl
  have x11 : xcB K (He.ga K "Knotted") (bmI 11) (nwI 11) = true := hex_at E 11 (e := hx_x11) rfl
  have x12 : xcB K (He.ga K "Twice") (bmI 12) (nwI 12) = true := hex_at E 12 (e := hx_x12) rfl
  have x13 : xcB K (He.ga K "OutOfPlace") (bmI 13) (nwI 13) = true := hex_at E 13 (e := hx_x13) rfl
  have x14 : xcB K (He.ga K "TooGreat") (bmI 14) (nwI 14) = true := hex_at E 14 (e := hx_x14) rfl
  have x15 : xcB K (He.ga K "Nothing") (bmI 15) (nwI 15) = true := hex_at E 15 (e := hx_x15) rfl
  have q13 : PySem.W.excIn K (He.ga K "OutOfPlace") (bmI 13) (nwI 13) = true := hex_at E 16 (e := hx_q13) rfl
  have q12 : PySem.W.excIn K (He.ga K "Twice") (bmI 12) (nwI 12) = true := hex_at E 17 (e := hx_q12) rfl
  have q14 : PySem.W.excIn K (He.ga K "TooGreat") (bmI 14) (nwI 14) = true := hex_at E 18 (e := hx_q14) rfl
  have q15 : PySem.W.excIn K (He.ga K "Nothing") (bmI 15) (nwI 15) = true := hex_at E 19 (e := hx_q15) rfl
  have kt0 := of_decide_eq_true (p := (testsOf (cxOfL [(He.ga K "BadRow"), (He.ga K "BadPolynomial"), (He.ga K "BadRanking"), (He.ga K "BadChain"), (He.ga K "BadData"), (He.ga K "BadJet"), (He.ga K "BadPaper"), (He.ga K "NoUnknown"), (He.ga K "NoEquation"), (He.ga K "NoCase"), (He.ga K "Contradicted"), (He.ga K "Knotted"), (He.ga K "Twice"), (He.ga K "OutOfPlace"), (He.ga K "TooGreat"), (He.ga K "Nothing"), (He.ga K "ChainError"), (He.ga K "MissError"), (He.ga K "CaseError")])).map (PySem.W.kitOne K (.ref (He.ga K "BadRow"))) = (kb 0).map some) (hex_at E 20 (e := hx_kt0) rfl)
  have kt1 := of_decide_eq_true (p := (testsOf (cxOfL [(He.ga K "BadRow"), (He.ga K "BadPolynomial"), (He.ga K "BadRanking"), (He.ga K "BadChain"), (He.ga K "BadData"), (He.ga K "BadJet"), (He.ga K "BadPaper"), (He.ga K "NoUnknown"), (He.ga K "NoEquation"), (He.ga K "NoCase"), (He.ga K "Contradicted"), (He.ga K "Knotted"), (He.ga K "Twice"), (He.ga K "OutOfPlace"), (He.ga K "TooGreat"), (He.ga K "Nothing"), (He.ga K "ChainError"), (He.ga K "MissError"), (He.ga K "CaseError")])).map (PySem.W.kitOne K (.ref (He.ga K "BadPolynomial"))) = (kb 1).map some) (hex_at E 21 (e := hx_kt1) rfl)
  have kt2 := of_decide_eq_true (p := (testsOf (cxOfL [(He.ga K "BadRow"), (He.ga K "BadPolynomial"), (He.ga K "BadRanking"), (He.ga K "BadChain"), (He.ga K "BadData"), (He.ga K "BadJet"), (He.ga K "BadPaper"), (He.ga K "NoUnknown"), (He.ga K "NoEquation"), (He.ga K "NoCase"), (He.ga K "Contradicted"), (He.ga K "Knotted"), (He.ga K "Twice"), (He.ga K "OutOfPlace"), (He.ga K "TooGreat"), (He.ga K "Nothing"), (He.ga K "ChainError"), (He.ga K "MissError"), (He.ga K "CaseError")])).map (PySem.W.kitOne K (.ref (He.ga K "BadRanking"))) = (kb 2).map some) (hex_at E 22 (e := hx_kt2) rfl)
  have kt3 := of_decide_eq_true (p := (testsOf (cxOfL [(He.ga K "BadRow"), (He.ga K "BadPolynomial"), (He.ga K "BadRanking"), (He.ga K "BadChain"), (He.ga K "BadData"), (He.ga K "BadJet"), (He.ga K "BadPaper"), (He.ga K "NoUnknown"), (He.ga K "NoEquation"), (He.ga K "NoCase"), (He.ga K "Contradicted"), (He.ga K "Knotted"), (He.ga K "Twice"), (He.ga K "OutOfPlace"), (He.ga K "TooGreat"), (He.ga K "Nothing"), (He.ga K "ChainError"), (He.ga K "MissError"), (He.ga K "CaseError")])).map (PySem.W.kitOne K (.ref (He.ga K "BadChain"))) = (kb 3).map some) (hex_at E 23 (e := hx_kt3) rfl)
  have kt4 := of_decide_eq_true (p := (testsOf (cxOfL [(He.ga K "BadRow"), (He.ga K "BadPolynomial"), (He.ga K "BadRanking"), (He.ga K "BadChain"), (He.ga K "BadData"), (He.ga K "BadJet"), (He.ga K "BadPaper"), (He.ga K "NoUnknown"), (He.ga K "NoEquation"), (He.ga K "NoCase"), (He.ga K "Contradicted"), (He.ga K "Knotted"), (He.ga K "Twice"), (He.ga K "OutOfPlace"), (He.ga K "TooGreat"), (He.ga K "Nothing"), (He.ga K "ChainError"), (He.ga K "MissError"), (He.ga K "CaseError")])).map (PySem.W.kitOne K (.ref (He.ga K "BadData"))) = (kb 4).map some) (hex_at E 24 (e := hx_kt4) rfl)
  have kt5 := of_decide_eq_true (p := (testsOf (cxOfL [(He.ga K "BadRow"), (He.ga K "BadPolynomial"), (He.ga K "BadRanking"), (He.ga K "BadChain"), (He.ga K "BadData"), (He.ga K "BadJet"), (He.ga K "BadPaper"), (He.ga K "NoUnknown"), (He.ga K "NoEquation"), (He.ga K "NoCase"), (He.ga K "Contradicted"), (He.ga K "Knotted"), (He.ga K "Twice"), (He.ga K "OutOfPlace"), (He.ga K "TooGreat"), (He.ga K "Nothing"), (He.ga K "ChainError"), (He.ga K "MissError"), (He.ga K "CaseError")])).map (PySem.W.kitOne K (.ref (He.ga K "BadJet"))) = (kb 5).map some) (hex_at E 25 (e := hx_kt5) rfl)
  have kt6 := of_decide_eq_true (p := (testsOf (cxOfL [(He.ga K "BadRow"), (He.ga K "BadPolynomial"), (He.ga K "BadRanking"), (He.ga K "BadChain"), (He.ga K "BadData"), (He.ga K "BadJet"), (He.ga K "BadPaper"), (He.ga K "NoUnknown"), (He.ga K "NoEquation"), (He.ga K "NoCase"), (He.ga K "Contradicted"), (He.ga K "Knotted"), (He.ga K "Twice"), (He.ga K "OutOfPlace"), (He.ga K "TooGreat"), (He.ga K "Nothing"), (He.ga K "ChainError"), (He.ga K "MissError"), (He.ga K "CaseError")])).map (PySem.W.kitOne K (.ref (He.ga K "BadPaper"))) = (kb 6).map some) (hex_at E 26 (e := hx_kt6) rfl)
  have kt7 := of_decide_eq_true (p := (testsOf (cxOfL [(He.ga K "BadRow"), (He.ga K "BadPolynomial"), (He.ga K "BadRanking"), (He.ga K "BadChain"), (He.ga K "BadData"), (He.ga K "BadJet"), (He.ga K "BadPaper"), (He.ga K "NoUnknown"), (He.ga K "NoEquation"), (He.ga K "NoCase"), (He.ga K "Contradicted"), (He.ga K "Knotted"), (He.ga K "Twice"), (He.ga K "OutOfPlace"), (He.ga K "TooGreat"), (He.ga K "Nothing"), (He.ga K "ChainError"), (He.ga K "MissError"), (He.ga K "CaseError")])).map (PySem.W.kitOne K (.ref (He.ga K "NoUnknown"))) = (kb 7).map some) (hex_at E 27 (e := hx_kt7) rfl)
  have kt8 := of_decide_eq_true (p := (testsOf (cxOfL [(He.ga K "BadRow"), (He.ga K "BadPolynomial"), (He.ga K "BadRanking"), (He.ga K "BadChain"), (He.ga K "BadData"), (He.ga K "BadJet"), (He.ga K "BadPaper"), (He.ga K "NoUnknown"), (He.ga K "NoEquation"), (He.ga K "NoCase"), (He.ga K "Contradicted"), (He.ga K "Knotted"), (He.ga K "Twice"), (He.ga K "OutOfPlace"), (He.ga K "TooGreat"), (He.ga K "Nothing"), (He.ga K "ChainError"), (He.ga K "MissError"), (He.ga K "CaseError")])).map (PySem.W.kitOne K (.ref (He.ga K "NoEquation"))) = (kb 8).map some) (hex_at E 28 (e := hx_kt8) rfl)
  have kt9 := of_decide_eq_true (p := (testsOf (cxOfL [(He.ga K "BadRow"), (He.ga K "BadPolynomial"), (He.ga K "BadRanking"), (He.ga K "BadChain"), (He.ga K "BadData"), (He.ga K "BadJet"), (He.ga K "BadPaper"), (He.ga K "NoUnknown"), (He.ga K "NoEquation"), (He.ga K "NoCase"), (He.ga K "Contradicted"), (He.ga K "Knotted"), (He.ga K "Twice"), (He.ga K "OutOfPlace"), (He.ga K "TooGreat"), (He.ga K "Nothing"), (He.ga K "ChainError"), (He.ga K "MissError"), (He.ga K "CaseError")])).map (PySem.W.kitOne K (.ref (He.ga K "NoCase"))) = (kb 9).map some) (hex_at E 29 (e := hx_kt9) rfl)
  have kt10 := of_decide_eq_true (p := (testsOf (cxOfL [(He.ga K "BadRow"), (He.ga K "BadPolynomial"), (He.ga K "BadRanking"), (He.ga K "BadChain"), (He.ga K "BadData"), (He.ga K "BadJet"), (He.ga K "BadPaper"), (He.ga K "NoUnknown"), (He.ga K "NoEquation"), (He.ga K "NoCase"), (He.ga K "Contradicted"), (He.ga K "Knotted"), (He.ga K "Twice"), (He.ga K "OutOfPlace"), (He.ga K "TooGreat"), (He.ga K "Nothing"), (He.ga K "ChainError"), (He.ga K "MissError"), (He.ga K "CaseError")])).map (PySem.W.kitOne K (.ref (He.ga K "Contradicted"))) = (kb 10).map some) (hex_at E 30 (e := hx_kt10) rfl)
  have kt11 := of_decide_eq_true (p := (testsOf (cxOfL [(He.ga K "BadRow"), (He.ga K "BadPolynomial"), (He.ga K "BadRanking"), (He.ga K "BadChain"), (He.ga K "BadData"), (He.ga K "BadJet"), (He.ga K "BadPaper"), (He.ga K "NoUnknown"), (He.ga K "NoEquation"), (He.ga K "NoCase"), (He.ga K "Contradicted"), (He.ga K "Knotted"), (He.ga K "Twice"), (He.ga K "OutOfPlace"), (He.ga K "TooGreat"), (He.ga K "Nothing"), (He.ga K "ChainError"), (He.ga K "MissError"), (He.ga K "CaseError")])).map (PySem.W.kitOne K (.ref (He.ga K "Knotted"))) = (kb 11).map some) (hex_at E 31 (e := hx_kt11) rfl)
  have kt12 := of_decide_eq_true (p := (testsOf (cxOfL [(He.ga K "BadRow"), (He.ga K "BadPolynomial"), (He.ga K "BadRanking"), (He.ga K "BadChain"), (He.ga K "BadData"), (He.ga K "BadJet"), (He.ga K "BadPaper"), (He.ga K "NoUnknown"), (He.ga K "NoEquation"), (He.ga K "NoCase"), (He.ga K "Contradicted"), (He.ga K "Knotted"), (He.ga K "Twice"), (He.ga K "OutOfPlace"), (He.ga K "TooGreat"), (He.ga K "Nothing"), (He.ga K "ChainError"), (He.ga K "MissError"), (He.ga K "CaseError")])).map (PySem.W.kitOne K (.ref (He.ga K "Twice"))) = (kb 12).map some) (hex_at E 32 (e := hx_kt12) rfl)
  have kt13 := of_decide_eq_true (p := (testsOf (cxOfL [(He.ga K "BadRow"), (He.ga K "BadPolynomial"), (He.ga K "BadRanking"), (He.ga K "BadChain"), (He.ga K "BadData"), (He.ga K "BadJet"), (He.ga K "BadPaper"), (He.ga K "NoUnknown"), (He.ga K "NoEquation"), (He.ga K "NoCase"), (He.ga K "Contradicted"), (He.ga K "Knotted"), (He.ga K "Twice"), (He.ga K "OutOfPlace"), (He.ga K "TooGreat"), (He.ga K "Nothing"), (He.ga K "ChainError"), (He.ga K "MissError"), (He.ga K "CaseError")])).map (PySem.W.kitOne K (.ref (He.ga K "OutOfPlace"))) = (kb 13).map some) (hex_at E 33 (e := hx_kt13) rfl)
  have kt14 := of_decide_eq_true (p := (testsOf (cxOfL [(He.ga K "BadRow"), (He.ga K "BadPolynomial"), (He.ga K "BadRanking"), (He.ga K "BadChain"), (He.ga K "BadData"), (He.ga K "BadJet"), (He.ga K "BadPaper"), (He.ga K "NoUnknown"), (He.ga K "NoEquation"), (He.ga K "NoCase"), (He.ga K "Contradicted"), (He.ga K "Knotted"), (He.ga K "Twice"), (He.ga K "OutOfPlace"), (He.ga K "TooGreat"), (He.ga K "Nothing"), (He.ga K "ChainError"), (He.ga K "MissError"), (He.ga K "CaseError")])).map (PySem.W.kitOne K (.ref (He.ga K "TooGreat"))) = (kb 14).map some) (hex_at E 34 (e := hx_kt14) rfl)
  have kt15 := of_decide_eq_true (p := (testsOf (cxOfL [(He.ga K "BadRow"), (He.ga K "BadPolynomial"), (He.ga K "BadRanking"), (He.ga K "BadChain"), (He.ga K "BadData"), (He.ga K "BadJet"), (He.ga K "BadPaper"), (He.ga K "NoUnknown"), (He.ga K "NoEquation"), (He.ga K "NoCase"), (He.ga K "Contradicted"), (He.ga K "Knotted"), (He.ga K "Twice"), (He.ga K "OutOfPlace"), (He.ga K "TooGreat"), (He.ga K "Nothing"), (He.ga K "ChainError"), (He.ga K "MissError"), (He.ga K "CaseError")])).map (PySem.W.kitOne K (.ref (He.ga K "Nothing"))) = (kb 15).map some) (hex_at E 35 (e := hx_kt15) rfl)
  have r16 : PySem.W.readsIn K (He.ga K "ChainError") (.type "type") = true := hex_at E 36 (e := hx_r16) rfl
  have y16 := Hd.isVal_ok (hex_at E 37 (e := hx_y16) rfl)
  have ty1 := of_decide_eq_true (p := PySem.W.typeIn K (.ref (He.ga K "BadPolynomial")) = some (.type "type")) (hex_at E 38 (e := hx_ty1) rfl)
  have ty2 := of_decide_eq_true (p := PySem.W.typeIn K (.ref (He.ga K "BadRanking")) = some (.type "type")) (hex_at E 39 (e := hx_ty2) rfl)
  have ty13 := of_decide_eq_true (p := PySem.W.typeIn K (.ref (He.ga K "OutOfPlace")) = some (.type "type")) (hex_at E 40 (e := hx_ty13) rfl)
  have t101 := of_decide_eq_true (p := PySem.W.typeIn K (.ref (He.ma K (He.ga K "BadPolynomial") "__init__")) = some (.type "function")) (hex_at E 41 (e := hx_t101) rfl)
  have t102 := of_decide_eq_true (p := PySem.W.typeIn K (.ref (He.ma K (He.ga K "BadRanking") "__init__")) = some (.type "function")) (hex_at E 42 (e := hx_t102) rfl)
  have vAX := Hd.tupAt_ok (hex_at E 43 (e := hx_vAX) rfl)
  have vSO := Hd.tupAt_ok (hex_at E 44 (e := hx_vSO) rfl)
  have vAL := Hd.tupAt_ok (hex_at E 45 (e := hx_vAL) rfl)
  have vb1 := Hd.tupAt_ok (hex_at E 46 (e := hx_vb1) rfl)
  have vb2 := Hd.tupAt_ok (hex_at E 47 (e := hx_vb2) rfl)
  have vb3 := Hd.tupAt_ok (hex_at E 48 (e := hx_vb3) rfl)
  have d1_2 := of_decide_eq_true (p := (Hd.ctab K (Hd.fcode K "rising")) ≠ (Hd.ctab K (Hd.fcode K "_law_bad_right"))) (hex_at E 49 (e := hx_d1_2) rfl)
  have d1_3 := of_decide_eq_true (p := (Hd.ctab K (Hd.fcode K "rising")) ≠ (Hd.ctab K (Hd.fcode K "_law_good_right"))) (hex_at E 50 (e := hx_d1_3) rfl)
  have d2_3 := of_decide_eq_true (p := (Hd.ctab K (Hd.fcode K "_law_bad_right")) ≠ (Hd.ctab K (Hd.fcode K "_law_good_right"))) (hex_at E 51 (e := hx_d2_3) rfl)
  have s16 : PySem.W.specialIn K (.ref (He.ga K "ChainError")) "__getattribute__" = some (some (.builtin "type.__getattribute__")) := (List.cons.inj EV).1
  have gGC : PySem.W.nsIn K mainGlobals "gcd" = some (some (.builtin "math.gcd")) := (List.cons.inj (List.cons.inj EV).2).1
  have z16 : PySem.W.handedIn (.builtin "ValueError.__init__") = true := by decide +kernel
  have hcd1 := Hd.lam_cd lm1
  have htn1 := Hd.lam_no lm1
  have hcd2 := Hd.lam_cd lm2
  have htn2 := Hd.lam_no lm2
  have hcd3 := Hd.lam_cd lm3
  have htn3 := Hd.lam_no lm3
  have Tx : XT K mg (cxOfL [(He.ga K "BadRow"), (He.ga K "BadPolynomial"), (He.ga K "BadRanking"), (He.ga K "BadChain"), (He.ga K "BadData"), (He.ga K "BadJet"), (He.ga K "BadPaper"), (He.ga K "NoUnknown"), (He.ga K "NoEquation"), (He.ga K "NoCase"), (He.ga K "Contradicted"), (He.ga K "Knotted"), (He.ga K "Twice"), (He.ga K "OutOfPlace"), (He.ga K "TooGreat"), (He.ga K "Nothing"), (He.ga K "ChainError"), (He.ga K "MissError"), (He.ga K "CaseError")]) := by
    refine ⟨?_, ?_, n0_row, n0_word, n1_number, n2_place, n3_place, n4_place, n5_place, n6_place, n7_name, n8_number, n9_number, n10_number, n11_number, ?_, (PySem.W.mg_of X G gc_BadRow), (PySem.W.mg_of X G gc_BadPolynomial), (PySem.W.mg_of X G gc_BadRanking), (PySem.W.mg_of X G gc_BadChain), (PySem.W.mg_of X G gc_BadData), (PySem.W.mg_of X G gc_BadJet), (PySem.W.mg_of X G gc_BadPaper), (PySem.W.mg_of X G gc_NoUnknown), (PySem.W.mg_of X G gc_NoEquation), (PySem.W.mg_of X G gc_NoCase), (PySem.W.mg_of X G gc_Contradicted), (PySem.W.mg_of X G gc_Knotted), (PySem.W.mg_of X G gc_Twice), (PySem.W.mg_of X G gc_OutOfPlace), (PySem.W.mg_of X G gc_TooGreat), (PySem.W.mg_of X G gc_Nothing), (PySem.W.mg_of X G gc_ChainError), (PySem.W.mg_of X G gc_MissError), (PySem.W.mg_of X G gc_CaseError), m_isinstance, m_ValueError, m_LookupError, m_RuntimeError⟩
    · intro i hi
      match i, hi with
      | 0, _ => exact xc_of x0
      | 1, _ => exact xc_of x1
      | 2, _ => exact xc_of x2
      | 3, _ => exact xc_of x3
      | 4, _ => exact xc_of x4
      | 5, _ => exact xc_of x5
      | 6, _ => exact xc_of x6
      | 7, _ => exact xc_of x7
      | 8, _ => exact xc_of x8
      | 9, _ => exact xc_of x9
      | 10, _ => exact xc_of x10
      | 11, _ => exact xc_of x11
      | 12, _ => exact xc_of x12
      | 13, _ => exact xc_of x13
      | 14, _ => exact xc_of x14
      | 15, _ => exact xc_of x15
      | n + 16, h => exact absurd h (by omega)
    · intro i hi h12
      match i, hi, h12 with
      | 12, _, _ => exact q12
      | 13, _, _ => exact q13
      | 14, _, _ => exact q14
      | 15, _, _ => exact q15
      | 0, _, h | 1, _, h | 2, _, h | 3, _, h | 4, _, h | 5, _, h | 6, _, h | 7, _, h | 8, _, h | 9, _, h | 10, _, h | 11, _, h => exact absurd h (by decide)
      | n + 16, h, _ => exact absurd h (by omega)
    · intro i hi
      match i, hi with
      | 0, _ => exact kt0
      | 1, _ => exact kt1
      | 2, _ => exact kt2
      | 3, _ => exact kt3
      | 4, _ => exact kt4
      | 5, _ => exact kt5
      | 6, _ => exact kt6
      | 7, _ => exact kt7
      | 8, _ => exact kt8
      | 9, _ => exact kt9
      | 10, _ => exact kt10
      | 11, _ => exact kt11
      | 12, _ => exact kt12
      | 13, _ => exact kt13
      | 14, _ => exact kt14
      | 15, _ => exact kt15
      | n + 16, h => exact absurd h (by omega)
  have hx : ∀ i, i < 16 → (kb i).getD 16 false = true → PySem.W.exmOne K (.ref ((cxOfL [(He.ga K "BadRow"), (He.ga K "BadPolynomial"), (He.ga K "BadRanking"), (He.ga K "BadChain"), (He.ga K "BadData"), (He.ga K "BadJet"), (He.ga K "BadPaper"), (He.ga K "NoUnknown"), (He.ga K "NoEquation"), (He.ga K "NoCase"), (He.ga K "Contradicted"), (He.ga K "Knotted"), (He.ga K "Twice"), (He.ga K "OutOfPlace"), (He.ga K "TooGreat"), (He.ga K "Nothing"), (He.ga K "ChainError"), (He.ga K "MissError"), (He.ga K "CaseError")]) i)) (.ref ((cxOfL [(He.ga K "BadRow"), (He.ga K "BadPolynomial"), (He.ga K "BadRanking"), (He.ga K "BadChain"), (He.ga K "BadData"), (He.ga K "BadJet"), (He.ga K "BadPaper"), (He.ga K "NoUnknown"), (He.ga K "NoEquation"), (He.ga K "NoCase"), (He.ga K "Contradicted"), (He.ga K "Knotted"), (He.ga K "Twice"), (He.ga K "OutOfPlace"), (He.ga K "TooGreat"), (He.ga K "Nothing"), (He.ga K "ChainError"), (He.ga K "MissError"), (He.ga K "CaseError")]) 16)) = some true := by
    intro i hi hk
    match i, hi, hk with
    | 0, _, _ => exact xm_BadRow_ChainError
    | 1, _, _ => exact xm_BadPolynomial_ChainError
    | 2, _, _ => exact xm_BadRanking_ChainError
    | 3, _, _ => exact xm_BadChain_ChainError
    | 4, _, _ => exact xm_BadData_ChainError
    | 5, _, _ => exact xm_BadJet_ChainError
    | 6, _, _ => exact xm_BadPaper_ChainError
    | 12, _, _ => exact xm_Twice_ChainError
    | 13, _, _ => exact xm_OutOfPlace_ChainError
    | 14, _, _ => exact xm_TooGreat_ChainError
    | 7, _, h | 8, _, h | 9, _, h | 10, _, h | 11, _, h | 15, _, h => exact absurd h (by decide)
    | n + 16, h, _ => exact absurd h (by omega)
  have Z16 : XD K mg "ChainError" (He.ga K "ChainError") "ValueError.__init__" := ⟨(PySem.W.mg_of X G gc_ChainError), s16, r16, y16, z16⟩
  have vA : ∀ H, Dp K H (.ref (He.ga K "AXES")) (.tuple ((["x", "y"] : List Str).map PyData.str)) := fun H => .tup (vAX H) (dps_of_strs ["x", "y"])
  have vS : ∀ H, Dp K H (.ref (He.ga K "SORTS")) (.tuple ((["total", "names"] : List Str).map PyData.str)) := fun H => .tup (vSO H) (dps_of_strs ["total", "names"])
  have vL : ∀ H, Dp K H (.ref (He.ga K "AXES_ALL")) (.tuple [PyData.tuple [.str "x"], .tuple [.str "x", .str "y"], .tuple [.str "y", .str "x"]]) := fun H =>
    .tup (vAL H) (.cons (.tup (vb1 H) (dps_of_strs ["x"])) (.cons (.tup (vb2 H) (dps_of_strs ["x", "y"])) (.cons (.tup (vb3 H) (dps_of_strs ["y", "x"])) .nil)))
  let TT : List (Addr × Str) := [((Hd.ctab K (Hd.fcode K "rising")), "rising.<locals>.<lambda>"), ((Hd.ctab K (Hd.fcode K "_law_bad_right")), "_law_bad_right.<locals>.<lambda>"), ((Hd.ctab K (Hd.fcode K "_law_good_right")), "_law_good_right.<locals>.<lambda>")]
  have O1 : Nd.TO TT (Hd.ctab K (Hd.fcode K "rising")) "rising.<locals>.<lambda>" := by
    refine ⟨by simp [TT], fun p hp e => ?_⟩
    simp only [TT, List.mem_cons, List.not_mem_nil, or_false] at hp
    rcases hp with rfl | rfl | rfl
    · rfl
    · exact absurd e (Ne.symm d1_2)
    · exact absurd e (Ne.symm d1_3)
  have O2 : Nd.TO TT (Hd.ctab K (Hd.fcode K "_law_bad_right")) "_law_bad_right.<locals>.<lambda>" := by
    refine ⟨by simp [TT], fun p hp e => ?_⟩
    simp only [TT, List.mem_cons, List.not_mem_nil, or_false] at hp
    rcases hp with rfl | rfl | rfl
    · exact absurd e d1_2
    · rfl
    · exact absurd e (Ne.symm d2_3)
  have O3 : Nd.TO TT (Hd.ctab K (Hd.fcode K "_law_good_right")) "_law_good_right.<locals>.<lambda>" := by
    refine ⟨by simp [TT], fun p hp e => ?_⟩
    simp only [TT, List.mem_cons, List.not_mem_nil, or_false] at hp
    rcases hp with rfl | rfl | rfl
    · exact absurd e d1_3
    · exact absurd e d2_3
    · rfl
  have scq : ∀ {Q : Addr × Addr → Prop}, Q ((Hd.fcode K "rising"), (Hd.ctab K (Hd.fcode K "rising"))) → Q ((Hd.fcode K "_law_bad_right"), (Hd.ctab K (Hd.fcode K "_law_bad_right"))) → Q ((Hd.fcode K "_law_good_right"), (Hd.ctab K (Hd.fcode K "_law_good_right"))) → ∀ p ∈ [((Hd.fcode K "rising"), (Hd.ctab K (Hd.fcode K "rising"))), ((Hd.fcode K "_law_bad_right"), (Hd.ctab K (Hd.fcode K "_law_bad_right"))), ((Hd.fcode K "_law_good_right"), (Hd.ctab K (Hd.fcode K "_law_good_right")))], Q p := fun {Q} h1 h2 h3 p hp => by
    simp only [List.mem_cons, List.not_mem_nil, or_false] at hp
    rcases hp with rfl | rfl | rfl
    · exact h1
    · exact h2
    · exact h3
  refine ⟨fd45, [((Hd.fcode K "rising"), (Hd.ctab K (Hd.fcode K "rising"))), ((Hd.fcode K "_law_bad_right"), (Hd.ctab K (Hd.fcode K "_law_bad_right"))), ((Hd.fcode K "_law_good_right"), (Hd.ctab K (Hd.fcode K "_law_good_right")))], spLaw K TT, scq (Q := fun p => h.get? p.2 = some Gd.tabO) hT1 hT2 hT3, scq (Q := fun p => K.lookup p.2 = none) htn1 htn2 htn3, scq (Q := fun p => PySem.W.CodeHd h p.1 p.2) (PySem.W.codeHd_of_K X hcd1) (PySem.W.codeHd_of_K X hcd2) (PySem.W.codeHd_of_K X hcd3), fun s v => hb s [v] rfl, fun H a ns hl _ hT hS => ⟨a, ns, rfl, hS, hl, fun p hp => ?_, fun _ => rfl⟩, fun base hKb hNb hTB => ?_⟩
  · simp only [TT, List.mem_cons, List.not_mem_nil, or_false] at hp
    rcases hp with rfl | rfl | rfl
    · exact TabS.nil (hT ((Hd.fcode K "rising"), (Hd.ctab K (Hd.fcode K "rising"))) (by simp))
    · exact TabS.nil (hT ((Hd.fcode K "_law_bad_right"), (Hd.ctab K (Hd.fcode K "_law_bad_right"))) (by simp))
    · exact TabS.nil (hT ((Hd.fcode K "_law_good_right"), (Hd.ctab K (Hd.fcode K "_law_good_right"))) (by simp))
  have TB1 := hTB ((Hd.fcode K "rising"), (Hd.ctab K (Hd.fcode K "rising"))) (by simp)
  have TB2 := hTB ((Hd.fcode K "_law_bad_right"), (Hd.ctab K (Hd.fcode K "_law_bad_right"))) (by simp)
  have TB3 := hTB ((Hd.fcode K "_law_good_right"), (Hd.ctab K (Hd.fcode K "_law_good_right"))) (by simp)
  have RBP : RP l.prog w K mg base "BadPolynomial" (He.ga K "BadPolynomial") "number" (He.ma K (He.ga K "BadPolynomial") "__init__") _ _ := ⟨xc_of x1, ⟨(xc_of x1).ex, ty1⟩, (PySem.W.mg_of X G gc_BadPolynomial), i1, t101, ok_BadPolynomial F101 (xc_of x1) Z16 n1_number, kP1, kZ1⟩
  have RBR : RP l.prog w K mg base "BadRanking" (He.ga K "BadRanking") "place" (He.ma K (He.ga K "BadRanking") "__init__") _ _ := ⟨xc_of x2, ⟨(xc_of x2).ex, ty2⟩, (PySem.W.mg_of X G gc_BadRanking), i2, t102, ok_BadRanking F102 (xc_of x2) Z16 n2_place, kP2, kZ2⟩
  have ROP : RQ K mg "OutOfPlace" (He.ga K "OutOfPlace") := ⟨q13, kq13, ⟨(xc_of x13).ex, ty13⟩, (PySem.W.mg_of X G gc_OutOfPlace)⟩
  have C0_ : Cal l.prog w K mg base "_law_draw" 1 ["_law_cell", "_law_k"] spDraw (He.ga K "_law_draw") _ := ⟨ok_Ldraw F0, (PySem.W.mg_of X G a0), k0, b0⟩
  have gM := ok_Lmixed (P := l.prog) (w := w) (mg := mg) (base := base) F1
  have C2_ : Cal l.prog w K mg base "_law_digit" 2 ["_law_state", "_law_size"] spDigit (He.ga K "_law_digit") _ := ⟨ok_Ldigit F2 gM m_range (PySem.W.mg_of X G a1) k1 b1, (PySem.W.mg_of X G a2), k2, b2⟩
  have C3_ : Cal l.prog w K mg base "_law_word" 3 ["_law_state"] spWord (He.ga K "_law_word") _ := ⟨ok_Lword F3 C2_.G m_range (PySem.W.mg_of X G a2) k2 b2, (PySem.W.mg_of X G a3), k3, b3⟩
  have C4_ : Cal l.prog w K mg base "_law_names" 4 ["_law_state", "_law_many"] spNames (He.ga K "_law_names") _ := ⟨ok_Lnames F4 C3_ m_range m_list, (PySem.W.mg_of X G a4), k4, b4⟩
  have C5_ : Cal l.prog w K mg base "_law_by" 5 ["_law_state"] (spBy K) (He.ga K "_law_by") _ := ⟨ok_Lby F5 C4_ C2_ m_tuple, (PySem.W.mg_of X G a5), k5, b5⟩
  have C6_ : Cal l.prog w K mg base "is_name" 2 ["thing"] (spP (RBE K nameB)) (He.ga K "is_name") _ := ⟨ok_is_name F6 m_isinstance m_str m_len m_all (PySem.W.mg_of X G gML) (PySem.W.mg_of X G gLE), (PySem.W.mg_of X G a6), k6, b6⟩
  have C7_ : Cal l.prog w K mg base "_are_names" 3 ["thing"] (spP (RBE K nmsB)) (He.ga K "_are_names") _ := ⟨ok__are_names F7 C6_ m_isinstance m_tuple m_len m_all m_set (PySem.W.mg_of X G gMN), (PySem.W.mg_of X G a7), k7, b7⟩
  have C8_ : Cal l.prog w K mg base "is_axis" 1 ["thing"] (spP (RBE K axB)) (He.ga K "is_axis") _ := ⟨ok_is_axis F8 m_isinstance m_str (PySem.W.mg_of X G gAX) vA, (PySem.W.mg_of X G a8), k8, b8⟩
  have C9_ : Cal l.prog w K mg base "_are_axes" 2 ["thing"] (spP (RBL K axsB)) (He.ga K "_are_axes") _ := ⟨ok__are_axes F9 C8_ m_isinstance m_tuple m_all (PySem.W.mg_of X G gAL) vL, (PySem.W.mg_of X G a9), k9, b9⟩
  have C10_ : CalX l.prog w K mg base "need_ranking" 4 ["ranking"] (spO (RrkG K ((cxOfL [(He.ga K "BadRow"), (He.ga K "BadPolynomial"), (He.ga K "BadRanking"), (He.ga K "BadChain"), (He.ga K "BadData"), (He.ga K "BadJet"), (He.ga K "BadPaper"), (He.ga K "NoUnknown"), (He.ga K "NoEquation"), (He.ga K "NoCase"), (He.ga K "Contradicted"), (He.ga K "Knotted"), (He.ga K "Twice"), (He.ga K "OutOfPlace"), (He.ga K "TooGreat"), (He.ga K "Nothing"), (He.ga K "ChainError"), (He.ga K "MissError"), (He.ga K "CaseError")]) 2))) (He.ga K "need_ranking") _ := ⟨ok_need_ranking F10 C7_ C9_ m_isinstance m_tuple m_len m_str (PySem.W.mg_of X G gSO) vS RBR, (PySem.W.mg_of X G a10), k10, b10⟩
  have C11_ : Cal l.prog w K mg base "is_ranking" 5 ["thing"] (spP (RkB K)) (He.ga K "is_ranking") _ := ⟨ok_is_ranking F11 C10_ (PySem.W.mg_of X G gc_BadRanking) xm_BadRanking_BadRanking, (PySem.W.mg_of X G a11), k11, b11⟩
  have C12_ : Cal l.prog w K mg base "_law_derivative" 3 ["_law_state", "_law_names_here", "_law_axes", "_law_high"] (spDer K) (He.ga K "_law_derivative") _ := ⟨ok_Lderivative F12 C2_ m_len, (PySem.W.mg_of X G a12), k12, b12⟩
  have C13_ : Cal l.prog w K mg base "_law_odd" 3 ["_law_state"] (spOdd K TT) (He.ga K "_law_odd") _ := ⟨ok_Lodd F13 C2_, (PySem.W.mg_of X G a13), k13, b13⟩
  have CbU : Cal l.prog w K mg base "_law_bent" 4 ["_law_state", "_law_it"] (spBent0 K TT (TuP K)) (He.ga K "_law_bent") _ := ⟨ok_Lbent0 F14 (tk_u K) C2_ C13_ m_len m_range m_isinstance m_tuple m_list, (PySem.W.mg_of X G a14), k14, b14⟩
  have CbX : Cal l.prog w K mg base "_law_bent" 4 ["_law_state", "_law_it"] (spBent0 K TT TxP) (He.ga K "_law_bent") _ := ⟨ok_Lbent0 F14 (tk_x K) C2_ C13_ m_len m_range m_isinstance m_tuple m_list, (PySem.W.mg_of X G a14), k14, b14⟩
  have C14_ : Cal l.prog w K mg base "_law_bent" 5 ["_law_state", "_law_it"] (spBent1 K TT) (He.ga K "_law_bent") _ := ⟨ok_Lbent1 F14 C2_ C13_ m_len m_range m_isinstance m_tuple m_list CbU, (PySem.W.mg_of X G a14), k14, b14⟩
  have C15_ : Cal l.prog w K mg base "_law_is_name" 2 ["_law_it"] (spP (RBA K nameB)) (He.ga K "_law_is_name") _ := ⟨ok_Lis_name F15 m_isinstance m_str m_len, (PySem.W.mg_of X G a15), k15, b15⟩
  have C16_ : Cal l.prog w K mg base "_law_due" 3 ["_law_it"] (spP (RdueR K)) (He.ga K "_law_due") _ := ⟨ok_Ldue F16 C15_ m_isinstance m_tuple m_len m_str m_set, (PySem.W.mg_of X G a16), k16, b16⟩
  have C17_ : Cal l.prog w K mg base "is_whole" 2 ["thing"] (spP (RBE K wholeB)) (He.ga K "is_whole") _ := ⟨ok_is_whole F17 m_isinstance m_int m_bool, (PySem.W.mg_of X G a17), k17, b17⟩
  have C18_ : Cal l.prog w K mg base "is_derivative" 3 ["thing"] (spP (RBE K dvB)) (He.ga K "is_derivative") _ := ⟨ok_is_derivative F18 C6_ C17_ m_isinstance m_tuple m_len, (PySem.W.mg_of X G a18), k18, b18⟩
  have C19_ : Cal l.prog w K mg base "_is_powered" 4 ["thing"] (spP (RBE K pwB)) (He.ga K "_is_powered") _ := ⟨ok__is_powered F19 C18_ C17_ m_isinstance m_tuple m_len, (PySem.W.mg_of X G a19), k19, b19⟩
  have C20_ : Cal l.prog w K mg base "is_monomial" 5 ["thing"] (spP (RBE K moB)) (He.ga K "is_monomial") _ := ⟨ok_is_monomial F20 C19_ m_isinstance m_tuple, (PySem.W.mg_of X G a20), k20, b20⟩
  have C21_ : Cal l.prog w K mg base "is_fraction" 3 ["thing"] (spP (RBE K frB)) (He.ga K "is_fraction") _ := ⟨ok_is_fraction F21 C17_ m_isinstance m_tuple m_len (PySem.W.mg_of X G gGC), (PySem.W.mg_of X G a21), k21, b21⟩
  have C22_ : Cal l.prog w K mg base "_is_term" 6 ["thing"] (spP (RBE K tmB)) (He.ga K "_is_term") _ := ⟨ok__is_term F22 C20_ C21_ m_isinstance m_tuple m_len, (PySem.W.mg_of X G a22), k22, b22⟩
  have C23_ : CalX l.prog w K mg base "need_polynomial" 7 ["thing"] (spO (RpoO K (He.ga K "BadPolynomial"))) (He.ga K "need_polynomial") _ := ⟨ok_need_polynomial F23 C22_ m_isinstance m_tuple m_enumerate RBP, (PySem.W.mg_of X G a23), k23, b23⟩
  have C24_ : Cal l.prog w K mg base "is_polynomial" 8 ["thing"] (spP (RBE K poB)) (He.ga K "is_polynomial") _ := ⟨ok_is_polynomial F24 C23_ (PySem.W.mg_of X G gc_BadPolynomial) xm_BadPolynomial_BadPolynomial, (PySem.W.mg_of X G a24), k24, b24⟩
  have C25_ : Cal l.prog w K mg base "derivatives_in" 1 ["one"] (spP (Rdin K)) (He.ga K "derivatives_in") _ := ⟨ok_derivatives_in F25 m_tuple m_sorted, (PySem.W.mg_of X G a25), k25, b25⟩
  have C26_ : Cal l.prog w K mg base "_stands_there" 1 ["ranking", "derivative"] (spP (Rst K)) (He.ga K "_stands_there") _ := ⟨ok__stands_there F26 , (PySem.W.mg_of X G a26), k26, b26⟩
  have C27_ : Cal l.prog w K mg base "polynomial_fits" 9 ["ranking", "thing"] (spP (RpfG K)) (He.ga K "polynomial_fits") _ := ⟨ok_polynomial_fits F27 C24_ C25_ C26_ m_all, (PySem.W.mg_of X G a27), k27, b27⟩
  have C28_ : CalX l.prog w K mg base "holds_of" 10 ["ranking", "thing"] (spO (RhoO K ((cxOfL [(He.ga K "BadRow"), (He.ga K "BadPolynomial"), (He.ga K "BadRanking"), (He.ga K "BadChain"), (He.ga K "BadData"), (He.ga K "BadJet"), (He.ga K "BadPaper"), (He.ga K "NoUnknown"), (He.ga K "NoEquation"), (He.ga K "NoCase"), (He.ga K "Contradicted"), (He.ga K "Knotted"), (He.ga K "Twice"), (He.ga K "OutOfPlace"), (He.ga K "TooGreat"), (He.ga K "Nothing"), (He.ga K "ChainError"), (He.ga K "MissError"), (He.ga K "CaseError")]) 2))) (He.ga K "holds_of") _ := ⟨ok_holds_of F28 C10_ C27_, (PySem.W.mg_of X G a28), k28, b28⟩
  have C29_ : Cal l.prog w K mg base "_law_is_known" 2 ["_law_by_here", "_law_it"] (spP (RknE K)) (He.ga K "_law_is_known") _ := ⟨ok_Lis_known F29 m_isinstance m_tuple m_len m_str m_int m_bool, (PySem.W.mg_of X G a29), k29, b29⟩
  have C30_ : Cal l.prog w K mg base "derivative_fits" 4 ["ranking", "thing"] (spP (RB2E K fitsB)) (He.ga K "derivative_fits") _ := ⟨ok_derivative_fits F30 C18_ C26_, (PySem.W.mg_of X G a30), k30, b30⟩
  have C31_ : CalX l.prog w K mg base "is_of" 5 ["ranking", "thing"] (spO (RisO K ((cxOfL [(He.ga K "BadRow"), (He.ga K "BadPolynomial"), (He.ga K "BadRanking"), (He.ga K "BadChain"), (He.ga K "BadData"), (He.ga K "BadJet"), (He.ga K "BadPaper"), (He.ga K "NoUnknown"), (He.ga K "NoEquation"), (He.ga K "NoCase"), (He.ga K "Contradicted"), (He.ga K "Knotted"), (He.ga K "Twice"), (He.ga K "OutOfPlace"), (He.ga K "TooGreat"), (He.ga K "Nothing"), (He.ga K "ChainError"), (He.ga K "MissError"), (He.ga K "CaseError")]) 2))) (He.ga K "is_of") _ := ⟨ok_is_of F31 C10_ C30_, (PySem.W.mg_of X G a31), k31, b31⟩
  have C32_ : CalX l.prog w K mg base "need_derivative" 5 ["ranking", "thing"] (spO (RndO K (He.ga K "OutOfPlace"))) (He.ga K "need_derivative") _ := ⟨ok_need_derivative F32 C30_ ROP, (PySem.W.mg_of X G a32), k32, b32⟩
  have C33_ : Cal l.prog w K mg base "compared" 1 ["one", "other"] (spP (Rcmp K)) (He.ga K "compared") _ := ⟨ok_compared F33 , (PySem.W.mg_of X G a33), k33, b33⟩
  have C34_ : Cal l.prog w K mg base "rank_key" 1 ["ranking", "derivative"] (spP (Rrd K fun r u => IsD K (.tuple ((r.key u).map .int)))) (He.ga K "rank_key") _ := ⟨ok_rank_key F34 , (PySem.W.mg_of X G a34), k34, b34⟩
  have C35_ : CalX l.prog w K mg base "rank_compared" 6 ["ranking", "one", "other"] (spO (RrcO K ((cxOfL [(He.ga K "BadRow"), (He.ga K "BadPolynomial"), (He.ga K "BadRanking"), (He.ga K "BadChain"), (He.ga K "BadData"), (He.ga K "BadJet"), (He.ga K "BadPaper"), (He.ga K "NoUnknown"), (He.ga K "NoEquation"), (He.ga K "NoCase"), (He.ga K "Contradicted"), (He.ga K "Knotted"), (He.ga K "Twice"), (He.ga K "OutOfPlace"), (He.ga K "TooGreat"), (He.ga K "Nothing"), (He.ga K "ChainError"), (He.ga K "MissError"), (He.ga K "CaseError")]) 2) ((cxOfL [(He.ga K "BadRow"), (He.ga K "BadPolynomial"), (He.ga K "BadRanking"), (He.ga K "BadChain"), (He.ga K "BadData"), (He.ga K "BadJet"), (He.ga K "BadPaper"), (He.ga K "NoUnknown"), (He.ga K "NoEquation"), (He.ga K "NoCase"), (He.ga K "Contradicted"), (He.ga K "Knotted"), (He.ga K "Twice"), (He.ga K "OutOfPlace"), (He.ga K "TooGreat"), (He.ga K "Nothing"), (He.ga K "ChainError"), (He.ga K "MissError"), (He.ga K "CaseError")]) 13))) (He.ga K "rank_compared") _ := ⟨ok_rank_compared F35 C10_ C32_ C33_ C34_, (PySem.W.mg_of X G a35), k35, b35⟩
  have C36_ : Cal l.prog w K mg base "rising" 5 ["ranking", "derivatives"] (spRis K TT) (He.ga K "rising") _ := ⟨ok_rising F36 C34_ m_sorted TB1 O1, (PySem.W.mg_of X G a36), k36, b36⟩
  have C37_ : CalX l.prog w K mg base "in_rank" 6 ["ranking", "some"] (spOT TT (RirO K ((cxOfL [(He.ga K "BadRow"), (He.ga K "BadPolynomial"), (He.ga K "BadRanking"), (He.ga K "BadChain"), (He.ga K "BadData"), (He.ga K "BadJet"), (He.ga K "BadPaper"), (He.ga K "NoUnknown"), (He.ga K "NoEquation"), (He.ga K "NoCase"), (He.ga K "Contradicted"), (He.ga K "Knotted"), (He.ga K "Twice"), (He.ga K "OutOfPlace"), (He.ga K "TooGreat"), (He.ga K "Nothing"), (He.ga K "ChainError"), (He.ga K "MissError"), (He.ga K "CaseError")]) 2) ((cxOfL [(He.ga K "BadRow"), (He.ga K "BadPolynomial"), (He.ga K "BadRanking"), (He.ga K "BadChain"), (He.ga K "BadData"), (He.ga K "BadJet"), (He.ga K "BadPaper"), (He.ga K "NoUnknown"), (He.ga K "NoEquation"), (He.ga K "NoCase"), (He.ga K "Contradicted"), (He.ga K "Knotted"), (He.ga K "Twice"), (He.ga K "OutOfPlace"), (He.ga K "TooGreat"), (He.ga K "Nothing"), (He.ga K "ChainError"), (He.ga K "MissError"), (He.ga K "CaseError")]) 13))) (He.ga K "in_rank") _ := ⟨ok_in_rank F37 C10_ C32_ C36_ m_isinstance m_list m_tuple ROP, (PySem.W.mg_of X G a37), k37, b37⟩
  have C38_ : Cal l.prog w K mg base "is_among" 3 ["thing", "least", "most"] (spP (RamgE K)) (He.ga K "is_among") _ := ⟨ok_is_among F38 C17_, (PySem.W.mg_of X G a38), k38, b38⟩
  have C39_ : CalX l.prog w K mg base "all_to" 6 ["ranking", "order"] (spOT TT (RatO K ((cxOfL [(He.ga K "BadRow"), (He.ga K "BadPolynomial"), (He.ga K "BadRanking"), (He.ga K "BadChain"), (He.ga K "BadData"), (He.ga K "BadJet"), (He.ga K "BadPaper"), (He.ga K "NoUnknown"), (He.ga K "NoEquation"), (He.ga K "NoCase"), (He.ga K "Contradicted"), (He.ga K "Knotted"), (He.ga K "Twice"), (He.ga K "OutOfPlace"), (He.ga K "TooGreat"), (He.ga K "Nothing"), (He.ga K "ChainError"), (He.ga K "MissError"), (He.ga K "CaseError")]) 2) ((cxOfL [(He.ga K "BadRow"), (He.ga K "BadPolynomial"), (He.ga K "BadRanking"), (He.ga K "BadChain"), (He.ga K "BadData"), (He.ga K "BadJet"), (He.ga K "BadPaper"), (He.ga K "NoUnknown"), (He.ga K "NoEquation"), (He.ga K "NoCase"), (He.ga K "Contradicted"), (He.ga K "Knotted"), (He.ga K "Twice"), (He.ga K "OutOfPlace"), (He.ga K "TooGreat"), (He.ga K "Nothing"), (He.ga K "ChainError"), (He.ga K "MissError"), (He.ga K "CaseError")]) 13))) (He.ga K "all_to") _ := ⟨ok_all_to F39 C10_ C38_ C36_ m_range (PySem.W.mg_of X G gMO) ROP, (PySem.W.mg_of X G a39), k39, b39⟩
  have C40_ : Cal l.prog w K mg base "_law_kinds" 1 ["_law_error"] (spKinds (cxOfL [(He.ga K "BadRow"), (He.ga K "BadPolynomial"), (He.ga K "BadRanking"), (He.ga K "BadChain"), (He.ga K "BadData"), (He.ga K "BadJet"), (He.ga K "BadPaper"), (He.ga K "NoUnknown"), (He.ga K "NoEquation"), (He.ga K "NoCase"), (He.ga K "Contradicted"), (He.ga K "Knotted"), (He.ga K "Twice"), (He.ga K "OutOfPlace"), (He.ga K "TooGreat"), (He.ga K "Nothing"), (He.ga K "ChainError"), (He.ga K "MissError"), (He.ga K "CaseError")])) (He.ga K "_law_kinds") _ := ⟨ok_Lkinds F40 Tx, (PySem.W.mg_of X G a40), k40, b40⟩
  have C42_ : Gd.CalG l.prog w K mg base "_law_good_right" 14 ["_law_state", "_law_by_here", "_law_it"] (spGood K TT) (He.ga K "_law_good_right") _ := ⟨ok_Lgood_right F42 C29_ C31_ C28_ C35_ C37_ C39_ C40_ C2_ m_repr F41 (PySem.W.mg_of X G a41) k41 b41 Tx hx TB3 O3 KB_is_of, (PySem.W.mg_of X G a42), k42, b42⟩
  have C43_ : Cal l.prog w K mg base "_law_bad_right" 14 ["_law_bad", "_law_by_here", "_law_a"] (spBad K TT) (He.ga K "_law_bad_right") _ := ⟨ok_Lbad_right F43 C16_ C10_ C31_ C28_ C35_ C37_ C39_ C11_ C40_ F41 (PySem.W.mg_of X G a41) k41 b41 Tx hx TB2 O2, (PySem.W.mg_of X G a43), k43, b43⟩
  have C44_ : Gd.CalG l.prog w K mg base "_law_sums_right" 14 ["_law_by_here"] (spSums K TT) (He.ga K "_law_sums_right") _ := ⟨ok_Lsums_right F44 C29_ C31_ C28_ m_repr m_tuple m_sorted, (PySem.W.mg_of X G a44), k44, b44⟩
  exact ok_law F45 C0_ C5_ C11_ C10_ C12_ C14_ C16_ C28_ m_enumerate m_sum m_repr m_range C42_ C43_ C44_ CbX KB_is_ranking (PySem.W.mg_of X G gSO) vS (PySem.W.mg_of X G gAL) vL
theorem walk2 {l : PySem.W.OpenLaw} {q : Program} {loose : List Str} {XP : (Str → Option Value) → Heap → Prop} {YP : World → Heap → Prop} {d : DefRec} (hn : l.most = some 63) (hdf : d.params.defaults = [])
    (F : ∀ (w : World) (mg : Str → Option Value) (fa : Addr) (h : Heap), YP w h → h.Ns mainGlobals mg → mg d.name = some (.ref fa) → ∃ K : PySem.W.Frag, K.In h ∧ Gd.LawAtG l w K 17 63 "_law_script" mg fa h) :
    PySem.W.WalkO q loose XP YP l.row.toRowW d [] (fun f vs => PySem.call f vs) :=
  Att.attach_callB hn hdf fun w _ _ mg _ fa _ _ _ _ a _ ns G Y _ _ _ hmg hobj hints hlen hbits hg => by
    obtain ⟨K, KX, fd, cs, sp, hT, nT, C, hb, hsp, hF⟩ := F w mg fa _ Y G.T.g hmg
    exact Gd.lawG KX G.T.g G.T.b G.T.builtins G.T.nolimit hg hT nT C G.T.bmain hobj hints (Nat.le_trans hlen (by decide)) ⟨rfl, by decide, by decide⟩ hF hb fun H hH hS => hsp H a ns hlen hbits hH hS
end K12
open PySem PySem.W PySem.Calls PyProof.Rows
set_option maxRecDepth 100000 in
set_option maxHeartbeats 0 in
theorem PySem.Challenge.cw_rankedchains_k10_rankings_looked_at_holds : PySem.Challenge.rw_rankedchains_k10_rankings_looked_at.Holds := by
  w_on; o_law
  refine HandSHeadRun.head_imp (r := OpenLaw.row PySem.Challenge.rw_rankedchains_k10_rankings_looked_at) (q := view (OpenLaw.row PySem.Challenge.rw_rankedchains_k10_rankings_looked_at).prog [0, 78]) (H := K12.hk) (ob := K12.hob) (M := 7000) (loose := K12.hnames) (d := HandSHeadRun.topDef (OpenLaw.row PySem.Challenge.rw_rankedchains_k10_rankings_looked_at).prog 78) (kwd := []) K12.hob_eq
    K12.hrun (by kernel_rfl) (by kernel_rfl) (by kernel_rfl) (by rfl) (by first | assumption | decide +kernel) (by decide +kernel) ⟨rfl, rfl, rfl, rfl, rfl, by decide +kernel⟩ ?hw ?hc
  case hw => w_witness2
  case hc =>
    refine K12.walk2 (l := PySem.Challenge.rw_rankedchains_k10_rankings_looked_at) rfl (by kernel_rfl) (fun w mg fa h Y G hmg0 => ?_)
    obtain ⟨K, KX, c, e, ev, lm⟩ := Y
    have hmg : mg ("law" : PySem.Str) = some (.ref fa) := by
      have e : (HandSHeadRun.topDef (OpenLaw.row PySem.Challenge.rw_rankedchains_k10_rankings_looked_at).prog 78).name = ("law" : PySem.Str) := by kernel_rfl
      rw [← e]
      exact hmg0
    exact ⟨K, KX, K12.all_mk2 KX G hmg c e ev lm⟩
#print axioms PySem.Challenge.cw_rankedchains_k10_rankings_looked_at_holds
